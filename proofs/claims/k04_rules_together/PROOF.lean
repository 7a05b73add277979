import PyProof.Rows.All
import Wide.All
import OpenK.AllK
import Wide.FinOn
import KE.KLam
import HandS.ForMost
import HandS.Exc
import HandS.ExcOwn
import HandS.TryOnly
import HandS.WordsExc
import HandS.ExcInit
import HandS.ExcIs
import HandS.ExcField
import HandS.IsInst
import HandS.ClsMeth
import HandS.Defaults
import HandS.MakeKw
import HandS.Nested
import HandS.SetFor
import HandS.Flow
import HandS.ExcValue
import PyProof.ReprRoads
import PyProof.ReprBulk
import PyProof.StrLawsRepr
import PyProof.EqKinds
import HandS.Lambda
import HandS.EndBits
import HandS.EndTab
import HandS.DictComp
import HandS.Walk
import KE.GoesMore
import PyProof.EnumMake
import PyProof.Draws
import PySem.Challenge.RW_lastopen_k04_rules_together
import HandS.Conv
import HandS.Star
import HandS.SetKeys
import HandS.TupLen
import HandS.OwnEq
import HandS.StrMore
import HandS.Codes
import HandS.Style
import HandS.TupAny
import HandS.NoneIn
import HandS.Deep
import HandS.SortInts
import HandS.Words
import HandS.Strs
import HandS.Set
import HandS.More
import PyProof.NeKinds
import HandS.WordsDict
import KE.KOpsOwn
import OpenK.KMeth
import HandS.HotCalls
set_option Elab.async false
set_option linter.all false
set_option maxRecDepth 100000
set_option maxHeartbeats 4000000
/-! Errors of classes of one's own as values: made by place and by name, asked by isinstance, their fields read. -/
namespace PySem
namespace EK
open PySem.W PySem.Calls PyProof.Rows PySem.HandSPX
section
variable {M : Model} {prog : Program} {w : World} {A : Around} {E : Value → Shared → Prop} {R : Result → Shared → Prop} {h : Heap} {g : Array GenState} {d : Drawn} {t : Nat} {os : OsState}
variable {nm q : Str} {C N : Addr} {bs bm bmB : List Value} {hdct : Bool} {sn : List Str} {sub : List Value} {ab : Bool} {col : Option Bool} {dd : Option Addr} {k0 k1 k2 k3 k5 : Option Value} {B newId initId : String}
theorem check_new_kw (F : ExcBaseFacts B newId initId bmB) (hT : ∀ X : String, bm.contains (.type X) = bmB.contains (.type X)) {rest : List Value} {kw : List (Str × Value)} {Q : Unit → Shared → Prop}
    (hC : h.get? C = some (excClassObj nm q C N bs bm hdct sn sub ab col dd k0 k1 k2 k3 k5 newId)) (hq : Q () ⟨h, g, d, t, os⟩) : wpAny M A (checkBuiltinCall newId ⟨.ref C :: rest, kw⟩) Q E ⟨h, g, d, t, os⟩ := by
  have hcont : (Value.ref C :: bm).contains (.type B) = true := by rw [List.contains_cons, hT, F.hasB, Bool.or_true]
  have hstar := F.noStar
  simp only [checkBuiltinCall, F.newKind, F.newSplit, F.newRow]
  repeat (first | refine wpAny_loadPart_at hC ?_ | (refine wpAny_isSubtype_exc hC ?_; rw [hcont]) | refine wpAny_staticBase_exc hC ?_ | refine wpAny_madeBy_exc hC ?_ | simp only [bne_self_eq_false, Bool.false_eq_true, if_false] | wp_step)
  exact hq
theorem new_kw (F : ExcBaseFacts B newId initId bmB) (hT : ∀ X : String, bm.contains (.type X) = bmB.contains (.type X)) {rest : List Value} {kw : List (Str × Value)}
    (hC : h.get? C = some (excClassObj nm q C N bs bm hdct sn sub ab col dd k0 k1 k2 k3 k5 newId))
    (hq : R (.ok (.ret (.ref (h.objs.size + 1)))) ⟨(h.push { cls := .type "tuple", data := .seq rest.toArray }).push
      { cls := .ref C, data := .fields #[.ref h.objs.size, .none, .none, .none, .bool false, .none] }, g, d, t, os⟩) (hrest : rest.length ≤ sizeLine) :
    codeAny (model prog w) A (.builtin newId ⟨.ref C :: rest, kw⟩) R ⟨h, g, d, t, os⟩ := by
  have hends := F.ends
  have hcB : (Value.ref C :: bm).contains (.type B) = true := by rw [List.contains_cons, hT, F.hasB, Bool.or_true]
  have hcA : (Value.ref C :: bm).contains (.type "AttributeError") = false := by rw [List.contains_cons, hT, F.noAttr]; rfl
  have hcN : (Value.ref C :: bm).contains (.type "NameError") = false := by rw [List.contains_cons, hT, F.noName]; rfl
  refine codeAny_builtinAt F.entry ?_
  unfold Builtin.«BaseException.__new__»
  refine wpAt_bind ?_
  show wpAt _ _ _ (stack >>= _) _ _ _
  refine wpAt_bind (wpAt_stack fun p below => wpAt_of_wpAny ?_)
  wp_walk
  refine wpAt_of_wpAny ?_
  rw [F.owner]
  repeat (first | with_reducible refine wpAny_madeHere_exc F.canon hC ?_ | with_reducible refine wpAny_loadPart_at hC ?_ | (with_reducible refine wpAny_isSubtype_exc hC ?_; first | rw [hcB] | rw [hcA] | rw [hcN]) | wp_step)
  show R _ _
  rw [Heap.size_push]
  exact hq
theorem type_call_kw (F : ExcBaseFacts B newId initId bmB) (hT : ∀ X : String, bm.contains (.type X) = bmB.contains (.type X)) {rest : List Value} {kw : List (Str × Value)} {fI : Addr} {Q : Fin → Shared → Prop}
    (hC : h.get? C = some (excClassObj nm q C N bs bm hdct sn sub ab col dd k0 k1 k2 k3 k5 newId))
    (hi : W.Looks (model prog w) h (typeLookup (.ref C) "__init__") (some (.ref fI))) (hb : ∀ self, W.Looks (model prog w) h (bindSpecial (.ref fI) self) (.ref fI, [self])) (hrest : rest.length ≤ sizeLine)
    (hq : codeAny (model prog w) A (.call (.ref fI) ⟨.ref (h.objs.size + 1) :: rest, kw⟩)
      (fun r s' => match r with | .ok (.ret v) => v = .none ∧ Q (.done (.ret (.ref (h.objs.size + 1)))) s' | .ok _ => False | .error e => E e s')
      ⟨(h.push (W.kdv_tup rest)).push (excO C h.objs.size), g, d, t, os⟩) :
    wpAny (model prog w) A (Builtin.«type.__call__» ⟨.ref C :: rest, kw⟩) Q E ⟨h, g, d, t, os⟩ := by
  repeat (first | with_reducible refine wpAny_loadPart_at hC ?_ | with_reducible refine wpAny_madeBy_exc hC ?_ | wp_step)
  refine codeAny_call_builtin_code (Code.quiet_builtin _ F.quiet) (check_new_kw F hT hC ?_)
  refine new_kw F hT hC ?_ hrest
  show wpAny _ _ _ _ _ _
  have k : ∀ b o, h.get? b = some o → ((h.push (W.kdv_tup rest)).push (excO C h.objs.size)).get? b = some o := fun b o e => Heap.get?_push_of_some _ (Heap.get?_push_of_some _ e)
  have hC₁ := k _ _ hC
  have hget : ((h.push (W.kdv_tup rest)).push (excO C h.objs.size)).get? (h.objs.size + 1) = some (excO C h.objs.size) := by heap_get
  have hcC : (Value.ref C :: bm).contains (.ref C) = true := by simp
  have i1 := hi.keeps k
  have b1 := (hb (.ref (h.objs.size + 1))).keeps k
  unfold isInstance
  repeat (first | with_reducible refine wpAny_loadPart_at hget ?_ | (with_reducible refine wpAny_isSubtype_exc hC₁ ?_; rw [hcC]) | wp_step)
  show wpAny _ _ (typeLookup (.ref C) _) _ _ _
  refine i1.at ?_
  refine wpAny_holding (wpAny_bind (b1.at ?_))
  refine wpAny_bind (wpAny_call (codeAny_mono hq fun r s' z => ?_))
  rcases r with e | (v | _ | _ | _) <;> first | exact z | exact z.elim | skip
  obtain ⟨rfl, z⟩ := z
  first
    | exact wpAny_pure (wpAny_pure z)
    | (wp_walk; exact z)
theorem check_type_kw {rest : List Value} {kw : List (Str × Value)} {Q : Unit → Shared → Prop} (hC : h.get? C = some (excClassObj nm q C N bs bm hdct sn sub ab col dd k0 k1 k2 k3 k5 newId))
    (hq : Q () ⟨h, g, d, t, os⟩) : wpAny M A (checkBuiltinCall "type.__call__" ⟨.ref C :: rest, kw⟩) Q E ⟨h, g, d, t, os⟩ := by
  have f3 := tc_sub
  have hT : (⟨h, g, d, t, os⟩ : Shared).TypeIs (.ref C) "type" := ⟨_, hC, rfl⟩
  simp only [checkBuiltinCall, tc_kind, tc_split]
  repeat (any_goals (first | assumption | with_reducible refine wpAny_loadPart_at hC ?_ | with_reducible refine wpAny_onRaise ?_ | with_reducible refine wpAny_map ?_ | wp_step))
theorem call_kw (F : ExcBaseFacts B newId initId bmB) (hT : ∀ X : String, bm.contains (.type X) = bmB.contains (.type X)) {rest : List Value} {kw : List (Str × Value)} {fI : Addr}
    (hC : h.get? C = some (excClassObj nm q C N bs bm hdct sn sub ab col dd k0 k1 k2 k3 k5 newId))
    (hi : W.Looks (model prog w) h (typeLookup (.ref C) "__init__") (some (.ref fI))) (hb : ∀ self, W.Looks (model prog w) h (bindSpecial (.ref fI) self) (.ref fI, [self])) (hrest : rest.length ≤ sizeLine)
    (hq : codeAny (model prog w) (A.under (.builtin "type.__call__" ⟨.ref C :: rest, kw⟩)) (.call (.ref fI) ⟨.ref (h.objs.size + 1) :: rest, kw⟩) (W.InitBack (h.objs.size + 1) R)
      ⟨(h.push (W.kdv_tup rest)).push (excO C h.objs.size), g, d, t, os⟩) :
    codeAny (model prog w) A (.call (.ref C) ⟨rest, kw⟩) R ⟨h, g, d, t, os⟩ := by
  have f1 := tc_lookup
  have f2 := tc_bind (.ref C)
  have hTy : (⟨h, g, d, t, os⟩ : Shared).TypeIs (.ref C) "type" := ⟨_, hC, rfl⟩
  refine codeAny_of_tree ?_
  show wpAny _ _ (callAny (.ref C) _) _ _ _
  repeat (any_goals (first | assumption | with_reducible refine wpAny_loadPart_at hC ?_ | wp_step))
  refine ⟨rfl, ?_⟩
  refine codeAny_call_builtin_at (Code.quiet_builtin _ (by decide +kernel)) entry_typeCall (check_type_kw hC (type_call_kw F hT hC hi hb hrest ?_))
  refine codeAny_mono hq fun r s' z => ?_
  rcases r with e | (v | _ | _ | _) <;> exact z
end
end EK
end PySem
namespace PySem.W
open PySem PySem.Spec PySem.Calls PyProof.Rows
section
variable {prog : Program} {w : World} {A : Around} {E : Value → Shared → Prop} {s : Shared} {K : Frag} {x D : Addr} {ox : Obj} {od : Option Obj}
theorem find_dataN {C : Addr} {name : Str} {a g : Value} (hc : (clsIn K C).isSome = true) (ha : findIn K (.ref C) name = some (some a)) (hg : specialIn K a "__get__" = some (some g)) (ht : takesIn K a = some true) : findObj K C od name = some (.bind g a) := by
  obtain ⟨cd, hc⟩ := Option.isSome_iff_exists.mp hc
  unfold findObj
  rw [hc, Option.bind_some, ha, Option.bind_some]
  simp [hg, ht]
theorem kin_classEd {Q : Option Value → Shared → Prop} (hga : findIn K (.ref D) "__getattribute__" = some (some (.builtin "BaseException.__getattribute__"))) (hgt : findIn K (.ref D) "__getattr__" = some none) (hsub : subIn K (.ref D) (.type "BaseException") = some true)
    (hdct : hasDictIn K D = true) (ha : findIn K (.ref D) "__class__" = some (some (.builtin "object.__class__")))
    (hn : specialIn K (.builtin "object.__class__") "__get__" = some (some (.builtin "getset_descriptor.__get__"))) (htk : takesIn K (.builtin "object.__class__") = some true) (hm : mroIn K D (.type "object") = some true)
    (X : K.In s.heap) (I : InstAt s.heap x ox D od) (h : Q (some (.ref D)) { s with toks := s.toks + 1 }) : wpAny (model prog w) A (getAttr? (.ref x) "__class__") Q E s := by
  have hf : findObj K D od "__class__" = some (.bind (.builtin "getset_descriptor.__get__") (.builtin "object.__class__")) := find_dataN (by obtain ⟨cd, hc, _⟩ := any_some hdct; rw [hc]; rfl) ha hn htk
  obtain ⟨hp, g, d, t, os⟩ := s
  have L0 := I.type (M := model prog w)
  have L1 := looks_findIn (M := model prog w) X hga
  have L2 := looks_findIn (M := model prog w) X hgt
  have L3 := looks_find (M := model prog w) X I hf
  have sub : Looks (model prog w) hp (isInstance (.ref x) (.type "BaseException")) true := L0.andThen (looks_subIn X hsub)
  have hx0 : (false && onTheHeap (Value.builtin "BaseException.__getattribute__")) = false := rfl
  have hx2 : (Value.builtin "BaseException.__getattribute__" == Value.builtin "object.__getattribute__") = false := by decide +kernel
  have hx1 : (onTheHeap (Value.ref D) && Value.builtin "BaseException.__getattribute__" == Value.builtin "object.__getattribute__") = false := by rw [hx2]; rfl
  unfold getAttr? getAttrBy? getAttrBy
  refine wpAny_bind (wpAny_mkText (wpAny_bind (wpAny_attempt (wpAny_holding (wpAny_bind (L0.at (wpAny_bind (L1.at ?_))))))))
  show wpAny _ _ (if (onTheHeap (Value.ref D) && Value.builtin "BaseException.__getattribute__" == Value.builtin "object.__getattribute__") = true then _ else _) _ _ _
  rw [hx1, if_neg Bool.false_ne_true]
  unfold getAttrByItsOwn hookBefore
  refine wpAny_bind ?_
  rw [if_pos (show onTheHeap (Value.ref D) = true from rfl)]
  refine L2.at ?_
  refine wpAny_bind (wpAny_attempt (wpAny_holding ?_))
  unfold callGetattribute
  rw [hx0, if_neg Bool.false_ne_true]
  unfold boundAndCalled
  rw [PySem.F.excAttr_ValueError.ga.bind (.ref x)]
  refine wpAny_bind (wpAny_pure ?_)
  show wpAny _ _ (call (.builtin "BaseException.__getattribute__") [.ref x, .str "__class__" t]) _ _ _
  refine wpAny_call (codeAny_call_builtin PySem.F.excAttr_ValueError.ga.plain PySem.F.entry_bexc_ga ?_)
  refine @check_slot (model prog w) _ _ ⟨hp, g, d, t + 1, os⟩ "BaseException.__getattribute__" "BaseException" "__getattribute__" (.ref x) [.str "__class__" t] [] _ (by decide +kernel) (by decide +kernel) sub (PySem.F.args_bexc_ga (.ref x) (.str "__class__" t)) ?_
  unfold Builtin.«object.__getattribute__»
  refine wpAny_bind (wpAny_of_eq (a := ((Value.ref x : Value), [Value.str "__class__" t])) (by first | rfl | (simp only [slotArgs]; rfl)) ?_)
  refine wpAny_bind (wpAny_pure (wpAny_bind (L0.at (wpAny_bind (L3.at ?_)))))
  show wpAny _ _ (holding [Value.builtin "object.__class__"] (call (.builtin "getset_descriptor.__get__") [.builtin "object.__class__", .ref x, .ref D]) >>= ret) _ _ _
  refine wpAny_bind (wpAny_holding (wpAny_call (class_get (s := ⟨hp, g, d, t + 1, os⟩) (ox := ox) (od := od) X I hm ?_)))
  refine wpAny_pure ?_
  show wpAny _ _ (handedOut (.ref D)) _ _ _
  rw [handedOut_of (v := .ref D) rfl]
  first
    | exact wpAny_pure (wpAny_pure h)
    | exact wpAny_pure h
    | exact wpAny_pure (wpAny_bind (wpAny_pure (wpAny_pure h)))
theorem kitx_excd (hga : findIn K (.ref D) "__getattribute__" = some (some (.builtin "BaseException.__getattribute__"))) (hgt : findIn K (.ref D) "__getattr__" = some none) (hsub : subIn K (.ref D) (.type "BaseException") = some true) (hdct : hasDictIn K D = true) (ha : findIn K (.ref D) "__class__" = some (some (.builtin "object.__class__")))
    (hn : specialIn K (.builtin "object.__class__") "__get__" = some (some (.builtin "getset_descriptor.__get__"))) (htk : takesIn K (.builtin "object.__class__") = some true) (hm : mroIn K D (.type "object") = some true) :
    KitX K (.ref x) (.ref D) (fun h => ∃ ox od, InstAt h x ox D od) where
  ty := fun _ _ _ ⟨_, _, I⟩ => I.type
  it := fun _ _ X _ => by
    obtain ⟨cdD, hcD, _⟩ := any_some hdct
    unfold clsIn at hcD
    split at hcD
    · rename_i c' d' cd' sl' ho
      intro A' Q' E' s' k q
      unfold isType loadHead
      exact wpAny_bind (wpAny_loadPart (k _ _ (X _ _ ho)) (wpAny_pure q))
    · cases hcD
  ne := fun h tp dd its n sl X htp => by
    obtain ⟨cdD, hcD, _⟩ := any_some hdct
    refine Bool.eq_false_iff.mpr fun q => ?_
    have e : D = tp := Value.ref.inj (beq_iff_eq.mp q)
    subst e
    unfold clsIn at hcD
    split at hcD
    · rename_i c' d' cd' sl' ho
      have z := (X _ _ ho).symm.trans htp
      cases z
    · cases hcD
  ca := fun X ⟨_, _, I⟩ k => kin_classEd hga hgt hsub hdct ha hn htk hm X I k
end
end PySem.W

namespace EV
open PySem PySem.Spec PyProof.Rows L2
/-- an error of the class at C with the fields fs stands at a -/
def ErrAt (H : Hp) (a C : Addr) (fs : List (Str × V)) : Prop := (fs = [] ∧ H a = some (exo a C none)) ∨ ∃ dx, H a = some (exo a C (some dx)) ∧ H dx = some (exd dx fs)
theorem ErrAt.of_same {H H' : Hp} {a C : Addr} {fs : List (Str × V)} (e : ErrAt H a C fs) (k : ∀ b o, H b = some o → H' b = some o) : ErrAt H' a C fs := by
  rcases e with ⟨h1, h2⟩ | ⟨dx, h1, h2⟩
  · exact .inl ⟨h1, k _ _ h2⟩
  · exact .inr ⟨dx, k _ _ h1, k _ _ h2⟩
section
variable {X : Cx} {pins : List (Addr × Obj)} {σ : L2.St} {H : Hp} {s : Shared}
theorem ErrAt.inst (I : Inv X pins σ H s) {a C : Addr} {fs : List (Str × V)} (e : ErrAt H a C fs) : ∃ ox od, PySem.W.InstAt s.heap a ox C od ∧ ∀ f, RelO (fs.lookup f) ((od.bind fun o => PySem.W.lookIn f o).join) := by
  rcases e with ⟨rfl, h⟩ | ⟨dx, h1, h2⟩
  · obtain ⟨t1, ho⟩ := exo_at I.hok h
    exact ⟨_, none, ⟨ho, rfl, rfl, trivial⟩, fun f => trivial⟩
  · obtain ⟨t1, ho⟩ := exo_at I.hok h1
    obtain ⟨mA, hns, hr⟩ := exd_at I.hok h2
    obtain ⟨od, hod, hl⟩ := lookIn_ns hns
    refine ⟨_, some od, ⟨ho, rfl, rfl, hod⟩, fun f => ?_⟩
    show RelO (fs.lookup f) (PySem.W.lookIn f od).join
    rw [hl f]
    exact hr f
end
/-! ### the field of an error that is a value -/
def tEf (K : PySem.W.Frag) (f : Str) (te : TE) : TE := fun σ H Q => te σ H fun x H1 => ∃ (a C dx : Addr) (fs : List (Str × V)) (v : V), x = .ref a ∧ XfC K C ∧ PySem.W.findIn K (.ref C) f = some none ∧ H1 a = some (exo a C (some dx)) ∧ H1 dx = some (exd dx fs) ∧ fs.lookup f = some v ∧ Q v H1
theorem pe_ef {X : Cx} {e : Expr} {te : TE} {pos : Pos} {n : Str} (he : PE X e te) (hb : attributeBase e n X.env (eval e X.env) = eval e X.env := by rfl) : PE X (.Attribute e n pos) (tEf X.K n te) := by
  refine ⟨fun pins s σ H Q I h => ?_⟩
  refine attr_of hb (thn (he.run pins s σ H _ I h) fun u s1 hh => ?_)
  obtain ⟨x, H1, I1, rx, a, C, dx, fs, v, ex, T, hno, h1, h2, l, q⟩ := hh
  subst ex
  obtain rfl : u = Value.ref a := rx
  obtain ⟨t1, ho⟩ := exo_at I1.hok h1
  obtain ⟨mA, hns, hr⟩ := exd_at I1.hok h2
  obtain ⟨od, hod, hl⟩ := lookIn_ns hns
  obtain ⟨u, hu, ru⟩ := RelO.some_of (v := v) (o := mA n) (by rw [← l]; exact hr n)
  have J : PySem.W.InstAt s1.heap a _ C (some od) := ⟨ho, rfl, rfl, hod⟩
  exact HandSPX.exc_get I1.kIn J T.ga T.gg T.exC (PySem.W.findObj_own T.hdC hno rfl (by rw [hl, hu])) (handed_of ru) ⟨v, H1, I1.tok _, ru, q⟩
/-! ### isinstance of it -/
def rIsX (K : PySem.W.Frag) : List V → Hp → VK → Prop := fun xs H Q => ∃ (a D : Addr) (fs : List (Str × V)) (c : V) (cv : Value) (b : Bool), xs = [.ref a, c] ∧ ErrAt H a D fs ∧ ClsV c cv ∧ ExcC K D ∧ PySem.W.kitOne K (.ref D) cv = some b ∧ Q (.bl b) H
theorem call_isX {X : Cx} : CallR X (.builtin "isinstance") (rIsX X.K) := by
  intro pins s σ H xs us Q I r h
  obtain ⟨a, D, fs, c, cv, b, rfl, ea, k, C, e, q⟩ := h
  obtain ⟨u1, u2, rfl, r1, r2⟩ := vals2 r
  have e2 := k.eq r2
  subst e2
  cases (show u1 = Value.ref a from r1)
  obtain ⟨ox, od, J, _⟩ := ea.inst I
  exact PySem.W.kia_one (PySem.W.kitx_excd C.hg C.hk C.hs C.hd C.ha C.hn C.ht C.hm) I.kIn ⟨_, _, J⟩ e (fun z => nomatch z) fun tk => ⟨.bl b, H, I.tok tk, rfl, q⟩
/-! ### made -/
section
variable {X : Cx} {CX : CXT} {k : Nat} {C fI : Addr} {fd : FuncData} {ps : List Str} {sp : Sp} {E : XK} {x : Str} {p pos : Pos} {e : Expr} {es : List Expr} {ta : TA}
theorem run_mkE {pins : List (Addr × Obj)} {σ : L2.St} {H : Hp} {s : Shared} {Q : VK} {us ws : List Value} {kw : List (Str × Value)} {zs : List V} (T : OexC X.K C) (iC : PySem.W.findIn X.K (.ref C) "__init__" = some (some (.ref fI))) (tI : PySem.W.typeIn X.K (.ref fI) = some (.type "function"))
    (F : FnOk X.prog X.w X.K X.mg X.base CX k fI fd ps sp) (hr : Room (k + 1) X.A) (hx : Passes CX X E) (I : Inv X pins σ H s) (hus : us.length ≤ 1000)
    (bt : ∀ (s' : Shared) (self : Value), X.K.In s'.heap → (self :: ws).length = ps.length → BindsTo s' fd ⟨self :: us, kw⟩ (ps.zip (self :: ws))) (r : Vals zs ws)
    (h : ∀ a, H a = none → sp (.ref a :: zs) (upd H a (exo a C none)) (fun v H2 => v = .non ∧ Q (.ref a) H2) E) :
    wpAny (model X.prog X.w) X.A (call (.ref C) us kw) (EP X pins σ Q) X.xe s := by
  obtain ⟨nm, q, N, bs, bm, sn, sub, ab, col, dd, k0, k1, k2, k3, k5, hC, hbm⟩ := T.cls
  obtain ⟨hp, g, dr, tk, os⟩ := s
  have hsz : hp.objs.size ≤ hp.objs.size + 1 := Nat.le_succ _
  have hn : H (hp.objs.size + 1) = none := I.hok.fresh hsz
  have hq := h (hp.objs.size + 1) hn
  have kk : ∀ b o, hp.get? b = some o → ((hp.push (PySem.W.kdv_tup us)).push (PySem.HandSPX.excO C hp.objs.size)).get? b = some o := fun b o e => Heap.get?_push_of_some _ (Heap.get?_push_of_some _ e)
  have hget : ((hp.push (PySem.W.kdv_tup us)).push (PySem.HandSPX.excO C hp.objs.size)).get? (hp.objs.size + 1) = some (PySem.HandSPX.excO C hp.objs.size) := by heap_get
  have I2 : Inv X pins σ (upd H (hp.objs.size + 1) (exo (hp.objs.size + 1) C none)) ⟨(hp.push (PySem.W.kdv_tup us)).push (PySem.HandSPX.excO C hp.objs.size), g, dr, tk, os⟩ :=
    I.laid (t' := tk) (a := hp.objs.size + 1) (o := exo (hp.objs.size + 1) C none) (h' := (hp.push (PySem.W.kdv_tup us)).push (PySem.HandSPX.excO C hp.objs.size)) kk hsz (exo_ok hget)
  have r2 : Vals (V.ref (hp.objs.size + 1) :: zs) (Value.ref (hp.objs.size + 1) :: ws) := .cons rfl r
  have hl : (Value.ref (hp.objs.size + 1) :: ws).length = ps.length := by
    have e := r2.length
    rw [F.len _ _ _ _ hq] at e
    exact e.symm
  have hus2 : us.length ≤ sizeLine := by
    rw [sizeLine_eq]
    omega
  refine wpAny_call (PySem.EK.call_kw PySem.F.excBase_ValueError (fun Y => PySem.HandSPX.refsVE_contains Y bm hbm) (I.kIn _ _ hC) (PySem.W.looks_findIn I.kIn iC) (fun self => PySem.W.bind_fn I.kIn self tI) hus2
    (codeAny_mono (F.run _ X.stack _ _ ⟨Value.ref (hp.objs.size + 1) :: us, kw⟩ (Value.ref (hp.objs.size + 1) :: ws) _ _ E (hr.make C us kw) (I2.env0.make C us kw) (bt _ _ I2.kIn hl) r2 hq) fun r s' hq' => ?_))
  cases r with
  | error er => exact hx pins σ _ _ er s' I2 hq'
  | ok fl =>
    cases fl with
    | ret u =>
      obtain ⟨v, H', I3, rv, ev, q3⟩ := I2.after hq'
      subst ev
      exact ⟨rv, ⟨V.ref (hp.objs.size + 1), H', I3, rfl, q3⟩⟩
    | next => exact False.elim hq'
    | brk => exact False.elim hq'
    | cont => exact False.elim hq'
/-- C(e, ..) and C(), the error as a value; C's own __init__ keeps sp -/
def tMkE (C : Addr) (sp : Sp) (E : XK) (ta : TA) : TE := fun σ H Q => ta σ H fun vs H1 => vs.length ≤ 1000 ∧ ∀ a, H1 a = none → sp (.ref a :: vs) (upd H1 a (exo a C none)) (fun v H2 => v = .non ∧ Q (.ref a) H2) E
/-- C(k = v, ..) -/
def tMkEk (C : Addr) (m : Nat) (sp : Sp) (E : XK) (gV : List V → List V) (tk : TA) : TE := fun σ H Q => tk σ H fun zs H1 => zs.length = m ∧ ∀ a, H1 a = none → sp (.ref a :: gV zs) (upd H1 a (exo a C none)) (fun v H2 => v = .non ∧ Q (.ref a) H2) E
theorem pe_mkE (T : OexC X.K C) (iC : PySem.W.findIn X.K (.ref C) "__init__" = some (some (.ref fI))) (tI : PySem.W.typeIn X.K (.ref fI) = some (.type "function")) (F : FnOk X.prog X.w X.K X.mg X.base CX k fI fd ps sp) (hr : Room (k + 1) X.A) (hb : Binds X.K fd ps []) (hx : Passes CX X E)
    (hg : Gl X x) (hm : X.mg x = some (.ref C)) (ha : PA X (e :: es) ta)
    (hdb : (x == ("__debug__" : Str)) = false := by decide) (he : starEach (e :: es) X.env = (false, eval e X.env) :: starEach es X.env := by rfl) (hpl : (backTo pos (starEach es X.env)).any (·.1) = false := by rfl) :
    PE X (.Call (.Name x p) (e :: es) [] pos) (tMkE C sp E ta) := by
  refine ⟨fun pins s σ H Q I h => ?_⟩
  refine wpAny_Call_Name_kw (ld_glob I hg hm ?_ hdb)
  refine PySem.W.callWith_K (h₀ := X.base) I.ok.mod.kin T.kC (thn (ha.run pos pins s σ H _ I h) fun us s1 ⟨vs, H1, I1, r1, hz, q1⟩ => ⟨I1.kIn, ?_⟩) he hpl
  refine run_mkE (ws := us) T iC tI F hr hx I1 (by show us.length ≤ 1000; rw [← r1.length]; exact hz) (fun s' self hk hl => ?_) r1 q1
  have z := hb s' (self :: us) hk (by rw [List.append_nil]; exact hl)
  rw [List.append_nil] at z
  exact z
theorem pe_mkE0 (T : OexC X.K C) (iC : PySem.W.findIn X.K (.ref C) "__init__" = some (some (.ref fI))) (tI : PySem.W.typeIn X.K (.ref fI) = some (.type "function")) (F : FnOk X.prog X.w X.K X.mg X.base CX k fI fd ps sp) (hr : Room (k + 1) X.A) (hb : Binds X.K fd ps []) (hx : Passes CX X E)
    (hg : Gl X x) (hm : X.mg x = some (.ref C)) (hdb : (x == ("__debug__" : Str)) = false := by decide) :
    PE X (.Call (.Name x p) [] [] pos) (tMkE C sp E tNil) := by
  refine ⟨fun pins s σ H Q I h => ?_⟩
  refine wpAny_Call_Name_kw (ld_glob I hg hm ?_ hdb)
  obtain ⟨_, h⟩ := (show ([] : List V).length ≤ 1000 ∧ _ from h)
  refine PySem.W.callWith_K0 I.kIn T.kC (run_mkE (us := []) (ws := []) (kw := []) T iC tI F hr hx I (by decide) (fun s' self hk hl => ?_) .nil h)
  have z := hb s' [self] hk hl
  exact z
theorem pe_mkEk {ks : List Str} {g : List Value → List Value} {gV : List V → List V} {kws : List Keyword} {tk : TA} (T : OexC X.K C) (iC : PySem.W.findIn X.K (.ref C) "__init__" = some (some (.ref fI))) (tI : PySem.W.typeIn X.K (.ref fI) = some (.type "function"))
    (F : FnOk X.prog X.w X.K X.mg X.base CX k fI fd ps sp) (hr : Room (k + 1) X.A) (hx : Passes CX X E)
    (hb : ∀ (s' : Shared) (self : Value) (ws : List Value), ws.length = ks.length → BindsTo s' fd ⟨[self], ks.zip ws⟩ (ps.zip (self :: g ws))) (hrel : ∀ {zs : List V} {ws : List Value}, Vals zs ws → zs.length = ks.length → Vals (gV zs) (g ws))
    (hg : Gl X x) (hm : X.mg x = some (.ref C)) (hkw : PK X kws tk)
    (hall : (backToKw pos (keywordEach kws X.env)).all (·.1.isSome) = true := by rfl) (hks : (backToKw pos (keywordEach kws X.env)).filterMap (·.1) = ks := by rfl) (hdb : (x == ("__debug__" : Str)) = false := by decide)
    (hpl : ((backTo pos (starEach [] X.env)).any (·.1) || (backToKw pos (keywordEach kws X.env)).any (·.1.isNone)) = false := by rfl) :
    PE X (.Call (.Name x p) [] kws pos) (tMkEk C ks.length sp E gV tk) := by
  refine ⟨fun pins s σ H Q I h => ?_⟩
  refine wpAny_Call_Name_kw (ld_glob I hg hm ?_ hdb)
  refine PySem.W.callWith_KW0 (h₀ := X.base) I.ok.mod.kin T.kC hall ?_ hpl
  refine thn (hkw.run pos pins s σ H _ I h) fun ws s2 ⟨zs, H2, I2, rz, l2, q2⟩ => ⟨I2.kIn, ?_⟩
  rw [hks]
  exact run_mkE (us := []) T iC tI F hr hx I2 (by decide) (fun s' self hk hl => hb s' self ws (by rw [← rz.length]; exact l2)) (hrel rz l2) q2
/-- an error class without an __init__ of its own, made with nothing -/
theorem pe_exc0 {bmB : List Value} {B newId initId : String} (F : ExcBaseFacts B newId initId bmB) (q : PySem.W.excIn X.K C bmB newId = true) (hm : X.mg x = some (.ref C)) (kC : PySem.W.keepIn X.K (.ref C) = true) (hg : Gl X x) (hdb : (x == ("__debug__" : Str)) = false := by decide) :
    PE X (.Call (.Name x p) [] [] pos) (fun σ H Q => ∀ a, H a = none → Q (.ref a) (upd H a (exo a C none))) := by
  refine ⟨fun pins s σ H Q I h => ?_⟩
  refine wpAny_Call_Name_kw (ld_glob I hg hm ?_ hdb)
  refine PySem.W.callWith_K0 I.kIn kC ?_
  obtain ⟨bm, N, nm, qn, bs, hdct, sn, sub, ab, col, dd, k0, k1, k2, k3, k5, mN, hC, hN, hni, T⟩ := exc_obj I.kIn q
  refine wpAny_call_exc_subT F T hC hN hni (fun h' a hm => ?_) (by show 0 ≤ sizeLine; exact Nat.zero_le _)
  have hn : H a = none := I.hok.gone hm.new
  obtain ⟨t, ht, _, _⟩ := hm.there
  exact ⟨.ref a, upd H a (exo a C none), I.laidN hm.keeps hm.new hn (exo_ok ht), rfl, h a hn⟩
/-- Base.__init__(self, ..), Base an own error class without an __init__ of its own -/
theorem pe_binit {pl : Sem Bool} {O : Addr} {p1 p2 : Pos} (r : ClX.CRead X.K O (.type "type")) (vV : PySem.W.findCls X.K (.ref O) (.type "type") "__init__" = some (.val (.builtin "ValueError.__init__"))) (hg : Gl X x) (hm : X.mg x = some (.ref O)) (ha : PA X (e :: es) ta)
    (hdb : (x == ("__debug__" : Str)) = false := by decide)
    (hc : eval (.Call (.Attribute (.Name x p1) "__init__" p2) (e :: es) [] pos) X.env = (do
      let ov ← eval (.Name x p1) X.env
      standAt p2.atName
      let (f, first) ← holding [ov] (getMethod ov "__init__" pl)
      callWith pos f first (backTo pos (starEach (e :: es) X.env)) (backToKw pos (keywordEach [] X.env))) := by rfl)
    (he : starEach (e :: es) X.env = (false, eval e X.env) :: starEach es X.env := by rfl) (hpl : (backTo pos (starEach es X.env)).any (·.1) = false := by rfl) :
    PE X (.Call (.Attribute (.Name x p1) "__init__" p2) (e :: es) [] pos) (tVeI X.K ta) := by
  refine ⟨fun pins s σ H Q I h => ?_⟩
  refine PySem.W.methodCall_KW (ld_glob I hg hm ?_ hdb) hc
  refine PySem.W.method_cls I.kIn r.ga (PySem.W.cls_value I.kIn r.rd vV (by decide +kernel) ?_)
  show wpAny _ _ (callWith pos (Value.builtin "ValueError.__init__") [] (backTo pos (starEach (e :: es) X.env)) []) _ _ _
  refine PyProof.Rows.callWith_method1 (thn (ha.run pos pins _ σ H _ (I.tok _) h) fun us s1 ⟨vs, H1, I1, r1, a, C, ws, ev, hl, T, ea, q⟩ => ?_) he hpl
  subst ev
  cases r1 with
  | @cons _ u0 _ ur ra rw' =>
    obtain rfl : u0 = Value.ref a := ra
    have hlen : ur.length ≤ sizeLine := by
      rw [← Paired.length rw', sizeLine_eq]
      omega
    exact oinit_ok T I1 ea hlen fun s' J => ⟨.non, H1, J, rfl, q⟩
end
end EV
namespace EV
open PySem PySem.Spec PyProof.Rows L2
/-! ### data with dicts, to be shown -/
def keyD : Key → PyData
  | .inl i => .int i
  | .inr x => .str x
mutual
inductive Dq (K : PySem.W.Frag) (H : Hp) : V → PyData → Prop
  | non : Dq K H .non .none
  | bl (b : Bool) : Dq K H (.bl b) (.bool b)
  | int (i : Int) : Dq K H (.int i) (.int i)
  | str (x : Str) : Dq K H (.str x) (.str x)
  | lst {a : Addr} {xs : List V} {ds : List PyData} : SqL K H a xs → a ≠ sysModules → DqAll K H xs ds → Dq K H (.ref a) (.list ds)
  | tup {a : Addr} {xs : List V} {ds : List PyData} : SqT K H a xs → DqAll K H xs ds → Dq K H (.ref a) (.tuple ds)
  | dct {a : Addr} {kvs : List (Key × V)} {ds : List PyData} : H a = some (.dK kvs) → DqAll K H (kvs.map (·.2)) ds → Dq K H (.ref a) (.dict ((kvs.map fun p => keyD p.1).zip ds))
inductive DqAll (K : PySem.W.Frag) (H : Hp) : List V → List PyData → Prop
  | nil : DqAll K H [] []
  | cons {v : V} {vs : List V} {d : PyData} {ds : List PyData} : Dq K H v d → DqAll K H vs ds → DqAll K H (v :: vs) (d :: ds)
end
theorem DqAll.len {K : PySem.W.Frag} {H : Hp} : ∀ {vs : List V} {ds : List PyData}, DqAll K H vs ds → vs.length = ds.length
  | _, _, .nil => rfl
  | _, _, .cons _ t => congrArg Nat.succ (DqAll.len t)
section
variable {X : Cx} {pins : List (Addr × Obj)} {σ : L2.St} {H : Hp} {s : Shared}
theorem keys_read {h : Heap} : ∀ {es : List DictEntry} {vs : List (Key × Value)}, Pairs (mixKind X.prog X.w) es vs → ReadsAll h (es.map (·.key)) (vs.map fun p => keyD p.1) []
  | _, _, .nil => .nil
  | _, _, .cons (e := e) (kv := kv) h1 h2 t => by
    have r := keys_read (h := h) t
    have one : Reads h e.key (keyD kv.1) [] := by
      rcases keyIs_shape (show keyIs kv.1 e.key = true from h1) with ⟨i, tk, e1, e2⟩ | ⟨y, tk, e1, e2⟩
      · rw [e1, e2]
        exact .int i tk
      · rw [e1, e2]
        exact .str y tk
    exact .cons one r
theorem vals_are : ∀ {es : List DictEntry} {vs : List (Key × Value)}, Pairs (mixKind X.prog X.w) es vs → es.map (·.val) = vs.map (·.2)
  | _, _, .nil => rfl
  | _, _, .cons h1 h2 t => by
    rw [List.map_cons, List.map_cons, h2, vals_are t]
theorem kv_vals : ∀ {kvs : List (Key × V)} {vs : List (Key × Value)}, KV kvs vs → Vals (kvs.map (·.2)) (vs.map (·.2))
  | _, _, .nil => .nil
  | _, _, .cons r t => .cons r.2 (kv_vals t)
theorem kv_keys : ∀ {kvs : List (Key × V)} {vs : List (Key × Value)}, KV kvs vs → kvs.map (fun p => keyD p.1) = vs.map (fun p => keyD p.1)
  | _, _, .nil => rfl
  | _, _, .cons r t => by rw [List.map_cons, List.map_cons, r.1, kv_keys t]
theorem zip_fst {α β : Type} : ∀ {l : List α} {m : List β}, l.length = m.length → (l.zip m).map (·.1) = l
  | [], [], _ => rfl
  | a :: l, b :: m, h => by rw [List.zip_cons_cons, List.map_cons, zip_fst (Nat.succ.inj h)]
theorem zip_snd {α β : Type} : ∀ {l : List α} {m : List β}, l.length = m.length → (l.zip m).map (·.2) = m
  | [], [], _ => rfl
  | a :: l, b :: m, h => by rw [List.zip_cons_cons, List.map_cons, zip_snd (Nat.succ.inj h)]
mutual
theorem Dq.reads (I : Inv X pins σ H s) : ∀ {v : V} {d : PyData} {u : Value}, Dq X.K H v d → RelV v u → ∃ as, Reads s.heap u d as ∧ sysModules ∉ as
  | _, _, _, .non, r => by cases r; exact ⟨_, .none, by simp⟩
  | _, _, _, .bl b, r => by cases r; exact ⟨_, .bool b, by simp⟩
  | _, _, _, .int i, r => by obtain ⟨t, rfl⟩ := r; exact ⟨_, .int i t, by simp⟩
  | _, _, _, .str x, r => by obtain ⟨t, rfl⟩ := r; exact ⟨_, .str x t, by simp⟩
  | _, _, _, .lst hs ne ha, r => by
    cases r
    obtain ⟨its, rv, ⟨o, n, ho, hc, _, hd⟩, _⟩ := I.list hs
    obtain ⟨as, hr, hn⟩ := DqAll.reads I ha rv
    refine ⟨_, Reads.list ho hc hd hr, fun z => ?_⟩
    rcases List.mem_cons.mp z with e | e
    · exact ne e.symm
    · exact hn e
  | _, _, _, .tup hs ha, r => by
    cases r
    obtain ⟨its, rv, ⟨o, ho, hc, n, hd⟩, _⟩ := I.tuple hs
    obtain ⟨as, hr, hn⟩ := DqAll.reads I ha rv
    exact ⟨_, Reads.tuple ho hc hd hr, hn⟩
  | _, _, _, .dct (a := a) (kvs := kvs) (ds := ds) he ha, r => by
    cases r
    obtain ⟨_, hsm, vs, kv, o, es, ep, ho, hx, hd, _, hp, _⟩ := (show ObjOk X.prog X.w H s.heap a (.dK kvs) from I.hok a _ he)
    obtain ⟨as, hr, hn⟩ := DqAll.reads I ha (kv_vals kv)
    have hl : (kvs.map fun p => keyD p.1).length = ds.length := by rw [List.length_map, ← ha.len, List.length_map]
    have hk := keys_read (h := s.heap) hp
    refine ⟨_, Reads.dict (as := []) (bs := as) ho hx.1 hd ?_ ?_, fun z => ?_⟩
    · rw [zip_fst hl, kv_keys kv]
      exact hk
    · rw [zip_snd hl, vals_are hp]
      exact hr
    · rcases List.mem_cons.mp z with e | e
      · exact (beq_eq_false_iff_ne.mp hsm) e.symm
      · exact hn e
theorem DqAll.reads (I : Inv X pins σ H s) : ∀ {vs : List V} {ds : List PyData} {us : List Value}, DqAll X.K H vs ds → Vals vs us → ∃ as, ReadsAll s.heap us ds as ∧ sysModules ∉ as
  | _, _, _, .nil, r => by cases r; exact ⟨_, .nil, by simp⟩
  | _, _, _, .cons h1 h2, r => by
    cases r with
    | cons r1 r2 =>
      obtain ⟨as, q1, n1⟩ := Dq.reads I h1 r1
      obtain ⟨bs, q2, n2⟩ := DqAll.reads I h2 r2
      exact ⟨_, .cons q1 q2, fun z => (List.mem_append.mp z).elim n1 n2⟩
end
end
theorem sqT_same {K : PySem.W.Frag} {H H' : Hp} (k : ∀ b o, H b = some o → H' b = some o) {a : Addr} {xs : List V} (h : SqT K H a xs) : SqT K H' a xs := by
  rcases h with (h | ⟨o, h⟩) | h
  · exact .inl (.inl (k _ _ h))
  · exact .inl (.inr ⟨o, k _ _ h⟩)
  · exact .inr h
mutual
theorem Dq.same {K : PySem.W.Frag} {H H' : Hp} (k : ∀ b o, H b = some o → H' b = some o) : ∀ {v : V} {d : PyData}, Dq K H v d → Dq K H' v d
  | _, _, .non => .non
  | _, _, .bl b => .bl b
  | _, _, .int i => .int i
  | _, _, .str x => .str x
  | _, _, .lst hs ne ha => .lst (Same.seq k hs) ne (DqAll.same k ha)
  | _, _, .tup hs ha => .tup (sqT_same k hs) (DqAll.same k ha)
  | _, _, .dct he ha => .dct (k _ _ he) (DqAll.same k ha)
theorem DqAll.same {K : PySem.W.Frag} {H H' : Hp} (k : ∀ b o, H b = some o → H' b = some o) : ∀ {vs : List V} {ds : List PyData}, DqAll K H vs ds → DqAll K H' vs ds
  | _, _, .nil => .nil
  | _, _, .cons h t => .cons (Dq.same k h) (DqAll.same k t)
end
/-! ### repr -/
def rRepr (K : PySem.W.Frag) : List V → Hp → VK → Prop := fun xs H Q => ∃ (x : V) (d : PyData), xs = [x] ∧ Dq K H x d ∧ d.showable = true ∧ d.shown.length ≤ sizeLine ∧ d.depth ≤ 60 ∧ Q (.str d.shown) H
theorem call_reprD {X : Cx} (hg : X.A.guards = some []) (hu : X.A.units + 64 < cLine) : CallR X (.builtin "repr") (rRepr X.K) := by
  intro pins s σ H xs us Q I r h
  obtain ⟨x, d, rfl, hd, hs, hz, hdp, q⟩ := h
  obtain ⟨u, rfl, ru⟩ := r.one
  cases hd with
  | non =>
    cases ru
    exact PySem.P.repr_of_none ⟨.str _, H, I.tok _, ⟨_, rfl⟩, q⟩
  | bl b =>
    cases ru
    refine PySem.P.repr_of_bool ⟨.str _, H, I.tok _, ⟨_, rfl⟩, ?_⟩
    cases b <;> exact q
  | int i =>
    obtain ⟨t, rfl⟩ := ru
    exact PySem.P.repr_of_int (by simpa [PyData.showable] using hs) ⟨.str _, H, I.tok _, ⟨_, rfl⟩, q⟩
  | str y =>
    obtain ⟨t, rfl⟩ := ru
    exact PySem.P.repr_of_str ⟨.str _, H, I.tok _, ⟨_, rfl⟩, q⟩ hz
  | lst h1 h2 h3 =>
    obtain ⟨as, hr, hn⟩ := Dq.reads I (.lst h1 h2 h3) ru
    cases ru
    exact repr_of_reads' hr hs (fun _ => hn) hg (by omega) (fun _ _ e => e) (fun h' u tk k => ⟨.str _, H, I.kept k, ⟨u, rfl⟩, q⟩) hz
  | tup h1 h2 =>
    obtain ⟨as, hr, hn⟩ := Dq.reads I (.tup h1 h2) ru
    cases ru
    exact repr_of_reads' hr hs (fun _ => hn) hg (by omega) (fun _ _ e => e) (fun h' u tk k => ⟨.str _, H, I.kept k, ⟨u, rfl⟩, q⟩) hz
  | dct h1 h2 =>
    obtain ⟨as, hr, hn⟩ := Dq.reads I (.dct h1 h2) ru
    cases ru
    exact repr_of_reads' hr hs (fun _ => hn) hg (by omega) (fun _ _ e => e) (fun h' u tk k => ⟨.str _, H, I.kept k, ⟨u, rfl⟩, q⟩) hz
/-! ### a list display: its place is told to be a new one -/
def tLstB (t : TA) : TE := fun σ H Q => t σ H fun xs H1 => xs.length ≤ sizeLine ∧ ∀ p, H1 p = none → p ≠ sysModules → Q (.ref p) (upd H1 p (.lst xs))
theorem pe_lstB {X : Cx} {es : List Expr} {t : TA} {pos : Pos} (h : PA X es t) : PE X (.List es pos) (tLstB t) := ⟨fun pins s σ H Q I hq =>
  wpAny_List_spliced (thn (h.run pos pins s σ H _ I hq) fun us s1 ⟨xs, H1, I1, r, z, q⟩ => ⟨r.length ▸ z, .ref s1.heap.objs.size, upd H1 s1.heap.objs.size (.lst xs),
    I1.laid (t' := s1.toks) (fun _ _ e => Heap.get?_push_of_some _ e) (Nat.le_refl _) ⟨z, us, 0, r, Heap.get?_push_size _ rfl⟩, rfl, q _ (I1.hok.fresh (Nat.le_refl _)) (Nat.ne_of_gt I1.big)⟩)⟩
/-! ### xs.count(True), xs a list of truth values -/
def isTrueV : Value → Bool
  | .bool b => b
  | _ => false
def rCntT (K : PySem.W.Frag) : V → List V → Hp → VK → Prop := fun x xs H Q => ∃ (p : Addr) (bs : List Bool), x = .ref p ∧ xs = [.bl true] ∧ SqL K H p (bs.map V.bl) ∧ Q (.int (bs.countP id : Nat)) H
theorem true_count : ∀ {bs : List Bool} {us : List Value}, Vals (bs.map V.bl) us → us.countP isTrueV = bs.countP id ∧ ∀ y ∈ us, ∃ b, y = .bool b
  | [], _, r => by cases r; exact ⟨rfl, fun _ h => nomatch h⟩
  | b :: bs, _, r => by
    cases r with
    | cons r1 r2 =>
      cases r1
      obtain ⟨h1, h2⟩ := true_count r2
      refine ⟨?_, fun y hy => ?_⟩
      · rw [List.countP_cons, List.countP_cons, h1] <;> rfl
      · rcases List.mem_cons.mp hy with e | e
        · exact ⟨b, e⟩
        · exact h2 y e
theorem mt_countT {X : Cx} : MtR X "list.count" (rCntT X.K) := by
  intro pins s σ H x xs v us Q I rx rxs h
  obtain ⟨p, bs, rfl, rfl, hs, q⟩ := h
  cases rx
  obtain ⟨u, rfl, ru⟩ := rxs.one
  cases ru
  obtain ⟨its, rv, ⟨⟨cls, dd, data, sl⟩, n, ho, hc, hdn, hd⟩, hlen⟩ := I.list hs
  simp only at hc hd
  subst hc hd
  obtain ⟨ec, eb⟩ := true_count rv
  refine call_meets PySem.F.slot_list_count ⟨_, ho, rfl⟩ PySem.F.entry_list_count (PySem.F.args_list_count_2 _ _)
    (SeqAt.list_countAt p its.toArray n dd sl (.bool true) isTrueV) ⟨ho, fun y hy => ?_, .int (bs.countP id : Nat), H, I.tok _, ⟨s.toks, ?_⟩, q⟩
  · obtain ⟨b, rfl⟩ := eb y (by simpa using hy)
    have z := SeqAt.EqAt.bool_bool (A := X.A.in1) (s := s) b true
    rw [show (b == true) = isTrueV (.bool b) by cases b <;> rfl] at z
    exact z
  · have e3 : its.toArray.toList.countP isTrueV = bs.countP id := ec
    show Value.int ((its.toArray.toList.countP isTrueV : Nat) : Int) s.toks = _
    rw [e3]
end EV
namespace EV
open PySem PySem.Spec PyProof.Rows L2 LamX NdefX
/-! ### a lambda without captured names, as a value -/
def LamO (f : Addr) (F : NF) (e : Expr) : HO := .ext fun h => ∃ (od : Option Addr) (sl : Array (Option Value)) (pm ctv : Value), h.get? f = some (⟨.type "function", od, .func (PySem.W.kla_fn F.name F.qual F.params e F.scope F.cl pm (.ref F.c) ctv), sl⟩ : Obj)
theorem lamO_at {P : Program} {w : World} {H : Hp} {h : Heap} {f : Addr} {F : NF} {e : Expr} (hok : HOk P w H h) (x : H f = some (LamO f F e)) : ∃ (od : Option Addr) (sl : Array (Option Value)) (pm ctv : Value), h.get? f = some (⟨.type "function", od, .func (PySem.W.kla_fn F.name F.qual F.params e F.scope F.cl pm (.ref F.c) ctv), sl⟩ : Obj) := (hok f _ x).1
theorem lamO_ne {f : Addr} {F : NF} {e : Expr} (ps : Array Value) : LamO f F e ≠ .tbl ps := fun z => by
  unfold LamO at z
  cases z
section
variable {X : Cx} {pins : List (Addr × Obj)} {σ : L2.St} {H : Hp} {s : Shared}
theorem inv_lam {F : NF} {e : Expr} {h' : Heap} {t' : Nat} {pm ctv : Value} (I : Inv X pins σ H { s with heap := h', toks := t' }) :
    Inv X pins σ (upd H h'.objs.size (LamO h'.objs.size F e)) { s with heap := h'.push ({ cls := .type "function", data := .func (PySem.W.kla_fn F.name F.qual F.params e F.scope F.cl pm (.ref F.c) ctv) } : Obj), toks := t' } := by
  have at_ : (h'.push ({ cls := .type "function", data := .func (PySem.W.kla_fn F.name F.qual F.params e F.scope F.cl pm (.ref F.c) ctv) } : Obj)).get? h'.objs.size = some ({ cls := .type "function", data := .func (PySem.W.kla_fn F.name F.qual F.params e F.scope F.cl pm (.ref F.c) ctv) } : Obj) := Heap.get?_push_size _ rfl
  exact I.laid (a := h'.objs.size) (o := LamO h'.objs.size F e) (t' := t') (fun _ _ z => Heap.get?_push_of_some _ z) (Nat.le_refl _) ⟨⟨_, _, pm, ctv, at_⟩, ⟨_, at_⟩, fun _ _ ⟨od, sl, p, t, z⟩ st => ⟨od, sl, p, t, st _ z⟩⟩
/-- its making: the code object is new, or found in the table -/
theorem lam_new {T : List (Addr × Str)} {c P : Addr} {params : Arguments} {body : Expr} {scope : Scope} {pos : Pos} {E : Value → Shared → Prop} {Q : Value → Shared → Prop} (I : Inv X pins σ H s) (TB : TabB X.base X.mg c P) (hcode : X.env.code = .ref c)
    (hm : (P, X.env.qual ++ "<lambda>") ∈ T) (hu : ∀ p ∈ T, p.1 = P → p.2 = X.env.qual ++ "<lambda>") (hT : Tabs T H) (hdef : defaultsOf params X.env = ([], [])) (hfree : ∀ y ∈ scope.names, y.2 = .free → ∃ c, X.env.cells.lookup y.1 = some c) (hcl : cloFrom X.env.cells scope.names [] = [])
    (h : ∀ (f c' : Addr) (H1 : Hp) (s' : Shared), Inv X pins σ H1 s' → ExtN H H1 → Tabs T H1 → H f = none → H1 f = some (LamO f ⟨"<lambda>", X.env.qual ++ "<lambda>", params, [], scope, [], c'⟩ body) → H1 c' = some (CodeO c' (X.env.qual ++ "<lambda>")) → Q (.ref f) s') :
    wpAny (model X.prog X.w) X.A (eval (.Lambda params body scope pos) X.env) Q E s := by
  obtain ⟨ps, hP, ht, ha⟩ := hT _ hm
  have bP := TB.bm.keeps I.bk
  have hP' : s.heap.get? P = some { cls := .none, data := .fields ps } := I.hok P _ hP
  have clo := closure_ok (env := X.env) hfree
  rw [hcl] at clo
  refine PySem.W.kla_eval hdef ?_
  cases hc : codeAmong pos ps.toList with
  | some cv =>
    obtain ⟨c', e, hco⟩ := ha pos cv hc
    subst e
    refine PySem.W.kla_makeFunctionHit (mg := X.mg) (c := c) (P := P) (ps := ps) clo I.ok.glob (I.mod.glob.keeps I.bk) hcode (TB.code.keeps I.bk) hP' ht hc bP fun ctv h' tk hx hsz => ?_
    have J : Inv X pins σ H { s with heap := h', toks := tk } := I.kept hx
    have nf := J.hok.fresh (Nat.le_refl h'.objs.size)
    exact h h'.objs.size c' _ _ (inv_lam (F := ⟨"<lambda>", X.env.qual ++ "<lambda>", params, [], scope, [], c'⟩) J) (fun b o e _ => (upd_ne (ne_of_none e nf)).trans e) (fun p hp => (hT p hp).ext fun b o e => (upd_ne (ne_of_none e nf)).trans e) nf upd_same ((upd_ne (ne_of_none hco nf)).trans hco)
  | none =>
    refine PySem.W.kla_makeFunction (mg := X.mg) (c := c) (P := P) (ps := ps) clo I.ok.glob (I.mod.glob.keeps I.bk) hcode (TB.code.keeps I.bk) hP' ht hc TB.gP bP fun c' ctv h' tk hx hge hlt hrec htb => ?_
    obtain ⟨c2, oc, vs, t, e2, hoc, hd, hv⟩ := hrec
    cases e2
    have nC : H c' = none := I.hok.fresh hge
    have J := inv_table (t' := tk) (more := #[rawInt pos.line, rawInt pos.col, .ref c']) (h' := h') I hP (fun b o hb e => hx b o hb e) htb hge ⟨oc, vs, t, hoc, hd, hv⟩
    have grow : ExtN H (upd (upd H P (.tbl (ps ++ #[rawInt pos.line, rawInt pos.col, .ref c']))) c' (CodeO c' (X.env.qual ++ "<lambda>"))) := fun b o e n => by
      rw [upd_ne (ne_of_none e nC), upd_ne fun z => n ps (Option.some.inj (e.symm.trans (by rw [z]; exact hP)))]
      exact e
    have eL : (ps ++ #[rawInt pos.line, rawInt pos.col, .ref c']).toList = ps.toList ++ [rawInt pos.line, rawInt pos.col, .ref c'] := by simp
    have T1 : Tabs T (upd (upd H P (.tbl (ps ++ #[rawInt pos.line, rawInt pos.col, .ref c']))) c' (CodeO c' (X.env.qual ++ "<lambda>"))) := fun p hp => by
      by_cases hb : p.1 = P
      · rw [hu p hp hb, hb]
        refine ⟨_, (upd_ne (ne_of_none hP nC)).trans upd_same, eL ▸ PySem.TriplesOk_snoc _ _ _ _ ht, fun p' cv hcv => ?_⟩
        rcases among_app _ ht (eL ▸ hcv) with z | z
        · obtain ⟨c0, e1, e2⟩ := ha p' cv z
          exact ⟨c0, e1, grow _ _ e2 codeO_ne⟩
        · exact ⟨c', z, upd_same⟩
      · obtain ⟨ps', a1, a2, a3⟩ := hT p hp
        refine ⟨ps', (upd_ne (ne_of_none a1 nC)).trans ((upd_ne hb).trans a1), a2, fun p' cv hcv => ?_⟩
        obtain ⟨c0, e1, e2⟩ := a3 p' cv hcv
        exact ⟨c0, e1, grow _ _ e2 codeO_ne⟩
    have nf := J.hok.fresh (Nat.le_refl h'.objs.size)
    refine h h'.objs.size c' _ _ (inv_lam (F := ⟨"<lambda>", X.env.qual ++ "<lambda>", params, [], scope, [], c'⟩) J) (fun b o e n => (upd_ne (ne_of_none (grow b o e n) nf)).trans (grow b o e n)) (fun p hp => (T1 p hp).ext fun b o e => (upd_ne (ne_of_none e nf)).trans e) ?_ upd_same
      ((upd_ne (Nat.ne_of_lt hlt)).trans upd_same)
    exact I.hok.fresh (Nat.le_trans hge (Nat.le_of_lt hlt))
end
def tLamV (T : List (Addr × Str)) (mk : Addr → NF) (e : Expr) : TE := fun σ H Q => Tabs T H ∧ ∀ (f c' : Addr) (H1 : Hp), ExtN H H1 → Tabs T H1 → H f = none → H1 f = some (LamO f (mk c') e) → H1 c' = some (CodeO c' (mk c').qual) → Q (.ref f) H1
theorem pe_lamV {X : Cx} {T : List (Addr × Str)} {c P : Addr} {params : Arguments} {body : Expr} {scope : Scope} {pos : Pos} (TB : TabB X.base X.mg c P) (hcode : X.env.code = .ref c) (hm : (P, X.env.qual ++ "<lambda>") ∈ T) (hu : ∀ p ∈ T, p.1 = P → p.2 = X.env.qual ++ "<lambda>")
    (hnf : ∀ y ∈ scope.names, y.2 ≠ .free) (hcl : cloFrom X.env.cells scope.names [] = []) (hdef : defaultsOf params X.env = ([], []) := by rfl) :
    PE X (.Lambda params body scope pos) (tLamV T (fun c' => ⟨"<lambda>", X.env.qual ++ "<lambda>", params, [], scope, [], c'⟩) body) :=
  ⟨fun pins s σ H Q I h => lam_new I TB hcode hm hu h.1 hdef (fun y hy e => (hnf y hy e).elim) hcl fun f c' H1 s' J eN T1 f0 f1 c1 => ⟨.ref f, H1, J, rfl, h.2 f c' H1 eN T1 f0 f1 c1⟩⟩
/-! ### its call -/
section
variable {X : Cx} {pins : List (Addr × Obj)} {σ : L2.St} {H : Hp} {s : Shared} {CX : CXT} {E : XK} {k : Nat} {x : Str} {F : NF} {body : Expr} {f : Addr} {Q : VK} {v : V} {u : Value} {tb : TE}
theorem run_lam (I : Inv X pins σ H s) (S : NScope [x] [x] [] F.scope) (hcl : F.cl = []) (hb : ∀ (pm ctv u : Value), bindArgs (PySem.W.kla_fn F.name F.qual F.params body F.scope F.cl pm (.ref F.c) ctv) ⟨[u], []⟩ = pure [(x, u)])
    (hf : H f = some (LamO f F body)) (hc : H F.c = some (CodeO F.c F.qual)) (hr : Room (k + 1) X.A) (hx : Passes CX X E) (r : RelV v u)
    (hbody : ∀ (A : Around) (outer : List Env) (s : Shared), PE (ncx CX X.prog X.w X.K X.mg X.base [x] F f A outer s H E) body tb) (q : tb [some v] H Q) :
    wpAny (model X.prog X.w) X.A (call (.ref f) [u]) (EP X pins σ Q) X.xe s := by
  obtain ⟨od, sl, pm, ctv, ho⟩ := lamO_at I.hok hf
  have cr := codeO_at I.hok hc
  have lim := I.nolimit
  have run : codeAny (model X.prog X.w) X.A (.call (.ref f) ⟨[u], []⟩) (CR CX X.stack X.prog X.w H s Q E) s := by
    refine PySem.W.kla_callFunE hr.depth ho rfl S.co S.gen rfl cr ?_
    rw [hb pm ctv u]
    refine wpAny_pure (wpAny_newFunctionEnv S.nocell (fun y hy => ?_) (fun h₁ hns hsb => ⟨lim.fresh _ hsb, ?_⟩) S.kind)
    · rcases List.mem_cons.mp hy with e | e
      · rw [e]
        exact S.par x List.mem_cons_self
      · cases e
    · show codeAny _ _ (.expr body (envF F f s.heap.objs.size)) _ _
      have kp : ∀ b o, s.heap.get? b = some o → h₁.get? b = some o := fun b o e => hsb.extBut b o (Nat.ne_of_lt (Heap.lt_size e)) (Heap.get?_push_of_some _ e)
      have C : CellsAt F.cl [] [] s.heap H := by
        rw [hcl]
        exact ⟨rfl, (fun _ _ e => nomatch e), (fun _ _ _ e => nomatch e), (fun _ _ e => nomatch e)⟩
      have J : Inv (ncx CX X.prog X.w X.K X.mg X.base [x] F f X.A X.stack s H E) [] (startF [x] [v] []) H { s with heap := h₁, toks := s.toks + 1 } := inv_startN (us := [u]) S hr.hd I.env0 rfl (.cons r .nil) C hns kp
      refine PySem.W.kla_codeExpr (wpAny_mono ((hbody X.A X.stack s).run [] _ (startF [x] [v] []) H Q J q) (fun w' s' hq => ?_) fun e s' hq => hq)
      obtain ⟨y, H', J', rv, q'⟩ := hq
      exact ⟨y, H', J'.os, J'.bare, J'.base, J'.hok, rv, q'⟩
  refine wpAny_call (codeAny_mono run fun r s' hq => ?_)
  cases r with
  | error e => exact hx pins σ H s e s' I hq
  | ok fl =>
    cases fl with
    | ret w' => exact I.after hq
    | next => exact False.elim hq
    | brk => exact False.elim hq
    | cont => exact False.elim hq
end
end EV
namespace EV
open PySem PySem.Spec PyProof.Rows L2 LamX NdefX
/-! ### the law's own call, with the surroundings told (nothing is being shown ahead of it) -/
/-- the abstract heap at the law's entry: the tables, and the script if the written part does not tell it -/
def entryH (cs : List (Addr × Addr)) (K : PySem.W.Frag) (a : Addr) (o : Obj) (xs : List V) : Hp := fun b =>
  if b ∈ cs.map (·.2) then some (.tbl #[]) else if b = a ∧ K.lookup a = none then some (.frz o (.lst xs)) else none
theorem entryH_cases {cs : List (Addr × Addr)} {K : PySem.W.Frag} {a : Addr} {o : Obj} {xs : List V} {b : Addr} {u : HO} (h : entryH cs K a o xs b = some u) : (b ∈ cs.map (·.2) ∧ u = .tbl #[]) ∨ (b ∉ cs.map (·.2) ∧ b = a ∧ K.lookup a = none ∧ u = .frz o (.lst xs)) := by
  unfold entryH at h
  by_cases h1 : b ∈ cs.map (·.2)
  · rw [if_pos h1] at h
    exact .inl ⟨h1, (Option.some.inj h).symm⟩
  · rw [if_neg h1] at h
    by_cases h2 : b = a ∧ K.lookup a = none
    · rw [if_pos h2] at h
      exact .inr ⟨h1, h2.1, h2.2, (Option.some.inj h).symm⟩
    · rw [if_neg h2] at h
      cases h
theorem law_callG {P : Program} {w : World} {K : PySem.W.Frag} {mg mb : Str → Option Value} {fa a : Addr} {cs : List (Addr × Addr)} {s₁ : Shared} {vs : List Value} {ns : List Int}
    (KX : K.In s₁.heap) (gl : s₁.heap.Ns mainGlobals mg) (bl : s₁.heap.Ns builtinsNs mb) (bb : ∀ x : Str, x ≠ "__name__" → mb x = bootBuiltins x) (lim : s₁.heap.NoLimit) (hg : s₁.gens = #[])
    (tb : ∀ p ∈ cs, s₁.heap.get? p.2 = some { cls := .none, data := .fields #[] }) (tk : ∀ p ∈ cs, K.lookup p.2 = none) (cd : ∀ p ∈ cs, PySem.W.CodeHd s₁.heap p.1 p.2)
    (bm : ∃ (bm : Addr) (ob : Obj), mg "__builtins__" = some (.ref bm) ∧ bm ≠ builtinsNs ∧ s₁.heap.get? bm = some ob ∧ ob.cls = .type "module" ∧ ob.dict = some builtinsNs ∧ ob.data = .plain)
    (ha : s₁.heap.get? a = some { cls := .type "list", data := .seq vs.toArray }) (hi : IntsAre vs ns) (hl : ns.length ≤ sizeLine)
    (F : ∀ (base : Heap) (H : Hp), K.In base → base.Ns mainGlobals mg → (∀ p ∈ cs, TabB base mg p.1 p.2) → (∀ p ∈ cs, H p.2 = some (.tbl #[])) → SqL K H a (ns.map V.int) → Env0 P w K mg base callerA [] s₁ H →
      codeAny (model P w) callerA (.call (.ref fa) ⟨[.ref a], []⟩) (CR CX0 [] P w H s₁ (fun v _ => v = .bl true) E0) s₁) :
    codeAny (model P w) callerA (.call (.ref fa) ⟨[.ref a], []⟩) (fun r s' => r = .ok (.ret (.bool true)) ∧ OldK s₁.heap s'.heap ∧ s'.os = s₁.os ∧ AllBare s'.gens) s₁ := by
  have rv := vals_ints hi
  have ln := hi.length
  have inT : ∀ {b : Addr}, b ∈ cs.map (·.2) → ∃ p ∈ cs, p.2 = b := fun hb => by
    obtain ⟨p, hp, e⟩ := List.mem_map.mp hb
    exact ⟨p, hp, e⟩
  have atT : ∀ {b : Addr}, b ∈ cs.map (·.2) → s₁.heap.get? b = some { cls := .none, data := .fields #[] } := fun hb => by
    obtain ⟨p, hp, rfl⟩ := inT hb
    exact tb p hp
  have aT : a ∉ cs.map (·.2) := fun z => by
    have q := ha.symm.trans (atT z)
    cases q
  generalize hH : entryH cs K a { cls := .type "list", data := .seq vs.toArray } (ns.map V.int) = H
  have split : ∀ {b : Addr} {u : HO}, H b = some u → (b ∈ cs.map (·.2) ∧ u = .tbl #[]) ∨ (b ∉ cs.map (·.2) ∧ b = a ∧ K.lookup a = none ∧ u = .frz { cls := .type "list", data := .seq vs.toArray } (.lst (ns.map V.int))) := fun e => entryH_cases (hH ▸ e)
  have tabs : ∀ p ∈ cs, H p.2 = some (.tbl #[]) := fun p hp => by
    rw [← hH]
    exact if_pos (List.mem_map.mpr ⟨p, hp, rfl⟩)
  -- what is no list and no empty table is not tracked
  have off : ∀ {b : Addr} {o : Obj}, s₁.heap.get? b = some o → (∀ us n, o.data ≠ .seq us n) → o.data ≠ .fields #[] → H b = none := fun {b o} e h1 h2 => by
    cases q : H b with
    | none => rfl
    | some u =>
      rcases split q with ⟨z, _⟩ | ⟨_, z, _, _⟩
      · have y := e.symm.trans (atT z)
        cases y
        exact (h2 rfl).elim
      · rw [z] at e
        have y := e.symm.trans ha
        cases y
        exact (h1 _ _ rfl).elim
  have kept : ∀ {b : Addr} {o : Obj}, s₁.heap.get? b = some o → H b = none → (hidT s₁.heap H).get? b = some o := fun e n => hidT_get e n
  have nss : ∀ {b : Addr} {m : Str → Option Value}, s₁.heap.Ns b m → (hidT s₁.heap H).Ns b m := fun ⟨o, es, ep, e, d, r⟩ => ⟨o, es, ep, kept e (off e (fun _ _ z => by rw [d] at z; cases z) fun z => by rw [d] at z; cases z), d, r⟩
  have kin : K.In (hidT s₁.heap H) := fun b o e => kept (KX b o e) (by
    cases q : H b with
    | none => rfl
    | some u =>
      rcases split q with ⟨z, _⟩ | ⟨_, z, n, _⟩
      · obtain ⟨p, hp, ep⟩ := inT z
        have y := tk p hp
        rw [ep, e] at y
        cases y
      · rw [← z, e] at n
        cases n)
  have tbs : ∀ p ∈ cs, TabB (hidT s₁.heap H) mg p.1 p.2 := fun p hp => by
    have t0 := tb p hp
    refine ⟨?_, ?_, fun z => ?_⟩
    · obtain ⟨o, us, file, tf, flags, tg, inF, text, tt, e1, r1, r2, r3, r⟩ := cd p hp
      refine ⟨o, us, file, tf, flags, tg, inF, text, tt, kept e1 (off e1 (fun _ _ z => by rw [r2] at z; cases z) fun z => ?_), r1, r2, r3, r⟩
      rw [r2] at z
      cases z
      simp at r3
    · obtain ⟨m, ob, b1, b2, b3, b4, b5, b6⟩ := bm
      refine ⟨m, ob, b1, b2, fun q => ?_, fun q => ?_, kept b3 (off b3 (fun _ _ z => by rw [b6] at z; cases z) fun z => by rw [b6] at z; cases z), b4, b5, b6⟩
      · obtain ⟨o, es, ep, e, hd, _⟩ := gl
        rw [q] at b3
        have y := b3.symm.trans e
        cases y
        rw [b6] at hd
        cases hd
      · rw [q] at b3
        have y := b3.symm.trans t0
        cases y
        cases b6
    · obtain ⟨o, es, ep, e, hd, _⟩ := gl
      rw [z] at e
      have y := t0.symm.trans e
      cases y
      cases hd
  have hok : HOk P w H s₁.heap := fun b u e => by
    rcases split e with ⟨z, rfl⟩ | ⟨_, rfl, _, rfl⟩
    · exact atT z
    · exact ⟨ha, (by rw [List.length_map]; exact hl), vs, _, rv, ha⟩
  have seq : SqL K H a (ns.map V.int) := by
    cases hk : K.lookup a with
    | none =>
      refine .inl (.inr ⟨{ cls := .type "list", data := .seq vs.toArray }, ?_⟩)
      rw [← hH]
      exact (if_neg aT).trans (if_pos ⟨rfl, hk⟩)
    | some o =>
      have y := (KX a o hk).symm.trans ha
      cases y
      exact .inr ⟨_, vs.toArray, _, hk, rfl, rfl, rfl, (by rw [List.size_toArray, ln]; exact hl), by simpa using rv⟩
  have e0 : Env0 P w K mg (hidT s₁.heap H) callerA [] s₁ H := ⟨rfl, ⟨kin, nss gl, ⟨mb, nss bl, bb⟩, let ⟨mc, h1, h2⟩ := lim; ⟨mc, nss h1, h2⟩⟩, fun b o e => of_hidT e, Nat.le_of_eq (hidT_size _ _), trivial, fun b hb => absurd (show b ∈ ([] : List Addr) from hb) (by simp), hok, .of_eq hg⟩
  refine codeAny_mono (F _ H kin (nss gl) tbs tabs seq e0) fun r s' h => ?_
  cases r with
  | error e => exact False.elim h
  | ok fl =>
    cases fl with
    | next => exact False.elim h
    | brk => exact False.elim h
    | cont => exact False.elim h
    | ret u =>
      obtain ⟨v, H', os, bare, un, ok2, rel, q⟩ := h
      have q' : v = .bl true := q
      subst q'
      obtain rfl : u = Value.bool true := rel
      have stays : ∀ b o, b ∉ cs.map (·.2) → s₁.heap.get? b = some o → s'.heap.get? b = some o := fun b o nb e => by
        cases q : H b with
        | none => exact un.keep b o e q (by intro z; exact absurd (show b ∈ ([] : List Addr) from z) (by simp)) (by simp)
        | some u =>
          rcases split q with ⟨z, _⟩ | ⟨_, z, _, rfl⟩
          · exact absurd z nb
          · obtain ⟨e1, _⟩ := ok2 b _ (un.frzs b _ _ q)
            rw [z] at e
            have y := e.symm.trans ha
            cases y
            exact e1
      have grown : ∀ {b : Addr}, b ∈ cs.map (·.2) → ∃ (p : Addr × Addr) (more : Array Value), p ∈ cs ∧ p.2 = b ∧ s'.heap.get? b = some { cls := .none, data := .fields more } := fun {b} hb => by
        obtain ⟨p, hp, rfl⟩ := inT hb
        obtain ⟨more, z⟩ := un.tbls p.2 #[] (tabs p hp)
        exact ⟨p, _, hp, rfl, ok2 p.2 _ z⟩
      refine ⟨rfl, ⟨fun b o e => ?_, fun b o e => ?_⟩, os, bare⟩
      · by_cases hb : b ∈ cs.map (·.2)
        · obtain ⟨p, more, hp, rfl, hm⟩ := grown hb
          have y := e.symm.trans (tb p hp)
          cases y
          exact .inr (.inl ⟨((cd p hp).tab (tb p hp)).isCodeTable, rfl, #[], more, rfl, by rw [Array.empty_append]; exact hm⟩)
        · exact .inl (stays b o hb e)
      · by_cases hb : b ∈ cs.map (·.2)
        · obtain ⟨p, more, hp, rfl, hm⟩ := grown hb
          exact ⟨_, hm⟩
        · exact ⟨o, stays b o hb e⟩
/-! ### a promise that wants to know that nothing is being shown -/
structure FnG (P : Program) (w : World) (K : PySem.W.Frag) (mg : Str → Option Value) (base : Heap) (k : Nat) (f : Addr) (fd : FuncData) (ps : List Str) (sp : Sp) : Prop where
  len : ∀ vs H Q E, sp vs H Q E → vs.length = ps.length
  run : ∀ (A : Around) (outer : List Env) (s : Shared) (H : Hp) (args : Args) (us : List Value) (vs : List V) (Q : VK) (E : XK), A.guards = some [] → Room k A → Env0 P w K mg base A outer s H → BindsTo s fd args (ps.zip us) → Vals vs us → sp vs H Q E →
    codeAny (model P w) A (.call (.ref f) args) (CR CX0 outer P w H s Q E) s
theorem fng_of {P : Program} {w : World} {K : PySem.W.Frag} {mg : Str → Option Value} {base : Heap} {k : Nat} {x qual : Str} {st : Stmt} {f : Addr} {fd : FuncData} {N ps : List Str} {sp : Sp} (F : Fun K x qual st f fd) (S : FnScope N ps (defScope st)) (len : ∀ vs H Q E, sp vs H Q E → vs.length = ps.length)
    (hbody : ∀ (cdv : Value) (A : Around) (outer : List Env) (s : Shared) (H : Hp) (vs : List V) (Q : VK) (E : XK), (A.deeper (envOfC qual (defScope st) s.heap.objs.size f cdv)).guards = some [] → Room k (A.deeper (envOfC qual (defScope st) s.heap.objs.size f cdv)) → sp vs H Q E →
      ∃ t, PSs (cxOf CX0 P w K mg base N qual (defScope st) f cdv A outer s H E).nox (defBody st) t ∧ t { nx := fun _ H' => Q .non H', rt := Q } (start N vs) H) : FnG P w K mg base (k + 1) f fd ps sp := by
  obtain ⟨oc, od, kV, doc, pm, an, cdv, ct, osl, rfl, lk, hcd⟩ := F.ex
  refine ⟨len, fun A outer s H args us vs Q E hg hr e0 hb r hsp => run_ofS lk hcd S hr e0 hb r (len _ _ _ _ hsp) fun hr' => ?_⟩
  obtain ⟨t, h1, h2⟩ := hbody cdv A outer s H vs Q E hg hr' hsp
  exact ⟨t, h1.nox, h2⟩
section
variable {X : Cx} {k : Nat} {f : Addr} {fd : FuncData} {ps : List Str} {sp : Sp} {x : Str} {p pos : Pos} {e : Expr} {es : List Expr} {t : TA}
theorem pe_callG (F : FnG X.prog X.w X.K X.mg X.base k f fd ps sp) (gd : X.A.guards = some []) (hr : Room k X.A) (hg : Gl X x) (hm : X.mg x = some (.ref f)) (hk : PySem.W.keepIn X.K (.ref f) = true) (hb : Binds X.K fd ps []) (ha : PA X (e :: es) t)
    (hdb : (x == ("__debug__" : Str)) = false := by decide) (he : starEach (e :: es) X.env = (false, eval e X.env) :: starEach es X.env := by rfl) (hpl : (backTo pos (starEach es X.env)).any (·.1) = false := by rfl) :
    PE X (.Call (.Name x p) (e :: es) [] pos) (tCall sp [] E0 t) := by
  refine ⟨fun pins s σ H Q I h => ?_⟩
  refine wpAny_Call_Name_kw (ld_glob I hg hm ?_ hdb)
  refine PySem.W.callWith_K (h₀ := X.base) I.ok.mod.kin hk (thn (ha.run pos pins s σ H _ I h) fun us s1 ⟨vs, H1, I1, r, q⟩ => ⟨I1.kIn, ?_⟩) he hpl
  have q : sp (vs ++ []) H1 Q E0 := q
  rw [List.append_nil] at q
  have hl : (us ++ []).length = ps.length := by rw [List.append_nil, ← r.length]; exact F.len _ _ _ _ q
  have b := hb s1 us I1.kIn hl
  rw [List.append_nil] at b
  refine wpAny_call (codeAny_mono (F.run X.A X.stack s1 H1 ⟨us, []⟩ us vs Q E0 gd hr I1.env0 b r q) fun z s' hq => ?_)
  cases z with
  | error e => exact False.elim hq
  | ok fl =>
    cases fl with
    | ret u => exact I1.after hq
    | next => exact False.elim hq
    | brk => exact False.elim hq
    | cont => exact False.elim hq
end
end EV
/-! Dict comprehensions whose keys may be tuples: the store is what DPut says. -/
namespace EV
open PySem PySem.Spec PyProof.Rows L2
section
variable {X : Cx} {pins : List (Addr × Obj)} {σ : L2.St} {H : Hp} {s : Shared}
/-- an entry laid by a comprehension, whatever the key is -/
theorem lay_entry {P : Unit → Shared → Prop} {E : Value → Shared → Prop} {D : Addr} {y z : V} {u r : Value} {H' : Hp} (hu : X.A.units + 1 < cLine) (I : Inv X pins σ H s) (g : DPut H D y z H') (ry : RelV y u) (rz : RelV z r) (k : ∀ s', Inv X pins σ H' s' → P () s') :
    wpAny (model X.prog X.w) X.A (dictSet D u r) P E s := by
  rcases g with ⟨kvs, ky, hD, rfl, small, rfl⟩ | ⟨kvs, ky, b, hD, rfl, hb, small, rfl⟩
  · exact d_dictSet I hD small ry rz k
  · obtain rfl : u = Value.ref b := ry
    obtain ⟨le, nsys, xs, kt, dh⟩ := dt_of I.hok hD
    have le' : xs.length ≤ sizeLine := Paired.length kt ▸ le
    have room : (putK kvs ky z).length ≤ sizeLine := by
      have t := length_putK kvs ky z
      omega
    have hr : (tupleKind (mixKind X.prog X.w)).room X.A := Nat.lt_of_succ_lt hu
    refine wpAny_dictSet_heap (hsz := le') hr (key_of I.hok hb) dh fun h2 dh2 but => k _ ?_
    obtain ⟨o, es, ep, q1, q2, q3, q4, _, q6⟩ := dh2
    refine d_write I (by rw [hD]; exact True.intro) but ⟨o, q1⟩ ⟨room, nsys, _, KT.keeps (kt.put ky hb rz) fun c ys hc => ?_, o, es, ep, q1, q2, q3, q4, q6⟩
    exact (upd_ne (ne_of hc hD fun t => nomatch t)).trans hc
end
section
variable {X : Cx}
/-- the empty dict, to hold keys of the one kind or of the other -/
inductive Bare0 : HO → Prop
  | k : Bare0 (.dK [])
  | t : Bare0 (.dT [])
theorem bare0_lay {P : Program} {w : World} {H : Hp} {h : Heap} {o : HO} (b : Bare0 o) (big : sysModules < h.objs.size) : ObjOk P w H (h.push { cls := .type "dict", data := .dict #[] }) h.objs.size o := by
  cases b
  · exact dk_empty h big
  · exact dt_empty h big
/-- one turn of the comprehension's block, as a reading -/
def turnP (D : Addr) (g : TG) (tt : TT) (tk tv : TE) (vs : List Nat) (σ : L2.St) (Nx : Hp → Prop) (x : V) (H' : Hp) : Prop :=
  g x (wipe σ vs) H' fun σ2 H2 => wipe σ2 vs = wipe σ vs ∧ tt σ2 H2 fun b H3 =>
    if b = true then tk σ2 H3 fun y H4 => tv σ2 H4 fun z H5 => ∃ H6, DPut H5 D y z H6 ∧ Nx H6 else Nx H3
def tDcP (o0 : HO) (wi : TI) (g : TG) (tt : TT) (tk tv : TE) (vs : List Nat) : TE := fun σ H Q => wi σ H fun J H1 => ∀ D, H1 D = none → ∃ W : Nat → Nat → Hp → Prop, (∃ m, W 0 m (upd H1 D o0)) ∧
  ∀ i m H2, W i m H2 → (J.stop i H2 ∧ Q (.ref D) H2) ∨ (J.go i H2 ∧ ∃ Nx : Hp → Prop, (∀ H3, Nx H3 → ∃ m', m' < m ∧ W (i + 1) m' H3) ∧ ∀ x H3, J.yld i H2 x H3 → turnP D g tt tk tv vs σ Nx x H3)
abbrev AllBlk (X : Cx) (scope : Scope) (p : Cx → Prop) : Prop := ∀ (s : Shared) (H : Hp) (C : Addr) (cl : List (Str × Addr)) (fp : List Addr), p (X.blk s H scope (compEnvC scope cl C X.env) fp)
theorem pe_dcP {kx vx tg iter : Expr} {ifs : List Expr} {scope : Scope} {own : List (Str × Nat)} {pos : Pos} {wi : TI} {g : TG} {tt : TT} {tk tv : TE} {o0 : HO} (b0 : Bare0 o0) (calm : X.calm = true) (hu : X.A.units + 1 < cLine) (hN : X.N.Nodup) (hi : PI X tg iter wi) (ok : BlkOk X.N X.env.scope scope own)
    (hg : AllBlk X scope fun B => PG B tg g) (ht : AllBlk X scope fun B => PTs B ifs tt) (hk : AllBlk X scope fun B => PE B kx tk) (he : AllBlk X scope fun B => PE B vx tv)
    (fold : ∀ x, foldedSetIterable iter X.env x = pure x := by intro _; rfl) : PE X (.DictComp kx vx [⟨tg, iter, ifs, 0⟩] scope pos) (tDcP o0 wi g tt tk tv (own.map (·.2))) := by
  refine ⟨fun pins s σ H Q I reading => ?_⟩
  rw [arm_eval_DictComp]
  have frees : ∀ y ∈ scope.names, y.2 = .free → ∃ c, X.env.cells.lookup y.1 = some c := fun y hy e => (ok.free y hy e).elim (fun q => I.ok.has _ (.inl q)) fun q => I.ok.has _ (.inr q)
  refine wpAny_comprehension_free rfl fold (closure_ok frees) ok.kind (fun y hy e => (ok.uniq y hy).trans (congrArg some e)) (thn (hi.run pins s σ H _ I reading) fun xv s1 made => thn made fun itv s2 stands => ?_)
  obtain ⟨it, fp, tn, J, H2, rfl, I2, T, at0, fpk, rest⟩ := stands
  refine wpAny_newObj_type (newEnv_comp ?_)
  obtain ⟨D, eD⟩ : ∃ D, s2.heap.objs.size = D := ⟨_, rfl⟩
  rw [eD]
  have new : H2 D = none := I2.hok.fresh (Nat.le_of_eq eD)
  obtain ⟨W, ⟨m0, start⟩, turns⟩ := rest D new
  -- the empty dict stands
  obtain ⟨s3, e3⟩ : ∃ s3 : Shared, ({ s2 with heap := s2.heap.push { cls := .type "dict", data := .dict #[] } } : Shared) = s3 := ⟨_, rfl⟩
  have grow : ∀ b o, s2.heap.get? b = some o → s3.heap.get? b = some o := fun b o e => by
    rw [← e3]
    exact Heap.get?_push_of_some _ e
  have size3 : s3.heap.objs.size = s2.heap.objs.size + 1 := by
    rw [← e3]
    exact Heap.size_push ..
  have I3 : Inv X pins σ (upd H2 D o0) s3 := by
    rw [← e3]
    refine I2.laid (t' := s2.toks) (fun b o e => Heap.get?_push_of_some _ e) (Nat.le_of_eq eD) ?_
    rw [← eD]
    exact bare0_lay b0 I2.big
  have small : ∀ b ∈ fp, b < s2.heap.objs.size := fun b hb => (T.obj _ _ at0 b hb).elim fun o q => Heap.lt_size q.1
  have fp3 : ∀ b ∈ fp, FpOk X pins (upd H2 D o0) b ∧ b < s3.heap.objs.size := fun b hb => by
    have lt := small b hb
    have ne : b ≠ D := Nat.ne_of_lt (eD ▸ lt)
    exact ⟨⟨(upd_ne ne).trans (fpk b hb).1, (fpk b hb).2⟩, size3 ▸ Nat.lt_succ_of_lt lt⟩
  have at3 : tn 0 s3.heap := T.keep _ _ _ at0 fun b _ o e => grow b o e
  have I4 := block_start I3 ok hN fp3
  generalize eC : s3.heap.objs.size = C at I4
  generalize ecl : cellsFrom (C + 1) scope.names (cloFrom X.env.cells scope.names []) = cl at I4
  have pg := hg s3 (upd H2 D o0) C cl fp
  have pt := ht s3 (upd H2 D o0) C cl fp
  have pk := hk s3 (upd H2 D o0) C cl fp
  have pv := he s3 (upd H2 D o0) C cl fp
  have none3 : ∀ b ∈ fp, (upd H2 D o0) b = none := fun b hb => (fp3 b hb).1.1
  have h4s : ∀ b o, s3.heap.get? b = some o → (pushCells (s3.heap.push { cls := .type "dict", data := .dict #[] }) scope.names).get? b = some o := fun b o e => pushCells_keeps _ _ _ _ (Heap.get?_push_of_some _ e)
  rw [e3]
  show codeAny _ _ (.compStart (.DictComp kx vx [⟨tg, iter, ifs, 0⟩] scope pos) 0 (.ref it) (.ref D) (compEnvC scope (cellsFrom (s3.heap.objs.size + 1) scope.names (cloFrom X.env.cells scope.names [])) s3.heap.objs.size X.env)) (compPost (model X.prog X.w) X.A X.xe _ _ (.ref D) s3.heap.objs.size) { s3 with heap := pushCells (s3.heap.push { cls := .type "dict", data := .dict #[] }) scope.names }
  rw [eC, ecl]
  generalize eB : compEnvC scope cl C X.env = B at I4 pg pt pk pv ⊢
  have locB : B.locals = C := eB ▸ rfl
  have at4 : tn 0 (pushCells (s3.heap.push { cls := .type "dict", data := .dict #[] }) scope.names) := T.keep _ _ _ at3 fun b _ o e => h4s b o e
  generalize e4 : ({ s3 with heap := pushCells (s3.heap.push { cls := .type "dict", data := .dict #[] }) scope.names } : Shared) = s4 at I4 ⊢
  have at4 : tn 0 s4.heap := e4 ▸ at4
  -- the iterator's own objects, seen from the block
  have own4 : ∀ {σ' : L2.St} {G : Hp} {s' : Shared}, Inv (X.blk s3 (upd H2 D o0) scope B fp) [] σ' G s' → (∀ b ∈ fp, G b = none) → ∀ b ∈ fp, FpOk (X.blk s3 (upd H2 D o0) scope B fp) [] G b := fun {σ' G s'} J' z b hb =>
    ⟨z b hb, (J'.ok.exf b hb).1, J'.ok.exfs b hb, .inl hb, fun x c e => (J'.ok.exf b hb).2 x c e, fun p hp => by simp [Cx.blk] at hp⟩
  have walk : codeAny (model X.prog X.w) X.A (.compLoop (.DictComp kx vx [⟨tg, iter, ifs, 0⟩] scope pos) 0 (.ref it) (.ref D) B) (compPost (model X.prog X.w) X.A X.xe none (fun v s' => ∃ x H', Inv X pins σ H' s' ∧ RelV x v ∧ Q x H') (.ref D) C) s4 := by
    refine compLoop_anyD (fun n s5 => ∃ i G, Inv (X.blk s3 (upd H2 D o0) scope B fp) [] (wipe σ (own.map (·.2))) G s5 ∧ tn i s5.heap ∧ (∀ b ∈ fp, G b = none) ∧ W i n G) ?_ m0 ⟨0, _, I4, at4, none3, start⟩
    rintro n s5 ⟨i, G, I5, at5, none5, w5⟩
    rcases turns i n G w5 with ⟨over, found⟩ | ⟨more, Nx, next, step⟩
    · -- no further item: the def's own frame again
      refine thnF (T.done (X.blk s3 (upd H2 D o0) scope B fp) rfl rfl rfl calm i [] s5 _ G (fun _ _ => False) I5 (own4 I5 none5) at5 over) fun r s6 fin => ?_
      obtain ⟨rfl, I6⟩ := fin
      have back : Inv X pins σ G s6 := I3.call' (ch := fp) I6.os I6.base I6.hok I6.bare fun b hb => ⟨(fp3 b hb).1.2.2.2.1, (fp3 b hb).1.2.1, (fp3 b hb).1.2.2.2.2.1, (fp3 b hb).1.2.2.2.2.2⟩
      have freeC : G C = none := locB ▸ (show G B.locals = none from I6.free)
      obtain ⟨m, ns, _⟩ := I6.loc
      have nsC : s6.heap.Ns C m := locB ▸ (show s6.heap.Ns B.locals m from ns)
      obtain ⟨f0, f1, f2, f3, f4, f5⟩ := I3.fpOk (Nat.le_of_eq eC) freeC
      exact ⟨m, nsC, fun h9 but => ⟨.ref D, G, back.turned (t' := s6.toks) (fun b o hb e => (but.2 b hb).trans e) f0 f1 f3 f4 f5, rfl, found⟩⟩
    · refine thnF (T.item (X.blk s3 (upd H2 D o0) scope B fp) rfl rfl rfl calm i [] s5 _ G (fun _ _ => False) I5 (own4 I5 none5) at5 more) fun r s6 got => ?_
      obtain ⟨u, rfl, later⟩ := got
      refine thnF later fun _ s7 st => ?_
      obtain ⟨x, G7, I7, rx, y7, at7, none7⟩ := st
      have I8 := I7.pinned (own4 I7 none7) (T.obj _ _ at7)
      refine thnF (pg.run _ s7 _ G7 x u _ I8 rx (step x G7 y7)) fun _ s8 ⟨σ8, G8, I9, same8, q8⟩ => ?_
      -- what the turn leaves
      have goOn : ∀ {s9 : Shared} {G9 : Hp}, Inv (X.blk s3 (upd H2 D o0) scope B fp) ([] ++ pinsAt fp s7.heap) σ8 G9 s9 → Nx G9 → ∃ m, m < n ∧ ∃ j G', Inv (X.blk s3 (upd H2 D o0) scope B fp) [] (wipe σ (own.map (·.2))) G' s9 ∧ tn j s9.heap ∧ (∀ b ∈ fp, G' b = none) ∧ W j m G' := by
        intro s9 G9 J nx
        obtain ⟨m, lt, w9⟩ := next G9 nx
        have stood : ∀ b ∈ fp, ∀ o, s7.heap.get? b = some o → s9.heap.get? b = some o ∧ G9 b = none := fun b hb o e => by
          have z := J.pin (b, o) (List.mem_append_right _ (List.mem_append_right _ (mem_pinsAt hb e)))
          exact ⟨z.1, z.2.1⟩
        have len8 : (wipe σ (own.map (·.2))).length = σ8.length := same8 ▸ wipe_length ..
        refine ⟨m, lt, i + 1, G9, (J.unpinned (pins := [])).weak len8 (fun j v e => (wipe_some (same8.symm ▸ e)).1), T.keep _ _ _ at7 fun b hb o e => (stood b hb o e).1, fun b hb => ?_, w9⟩
        obtain ⟨o, e, _⟩ := T.obj _ _ at7 b hb
        exact (stood b hb o e).2
      refine thnF (pt.run _ s8 σ8 G8 _ I9 q8) fun b s9 ⟨G9, I10, q9⟩ => ?_
      by_cases kept : b = true
      · have q9 : tk σ8 G9 fun y H4 => tv σ8 H4 fun z H5 => ∃ H6, DPut H5 D y z H6 ∧ Nx H6 := by
          have q9 := show (if b = true then _ else _) from q9
          rwa [if_pos kept] at q9
        rw [if_pos kept]
        refine thnF (pk.run _ s9 σ8 G9 _ I10 q9) fun ku s10 ⟨y, G10, I11, ry, q10⟩ => ?_
        refine thnF (pv.run _ s10 σ8 G10 _ I11 q10) fun vu s11 ⟨z, G11, I12, rz, G12, put, nx⟩ => ?_
        exact lay_entry (X := X.blk s3 (upd H2 D o0) scope B fp) hu I12 put ry rz fun s12 I13 => goOn I13 nx
      · have q9 : Nx G9 := by
          have q9 := show (if b = true then _ else _) from q9
          rwa [if_neg kept] at q9
        rw [if_neg kept]
        exact goOn I10 q9
  exact codeAny_compStart_dict walk (T.self X.A 0 _ _ _ at4 walk)
end
end EV
/-! Walks over what is a list or a tuple; enumerate of either; comprehensions of dicts over any walk. -/
namespace EV
open PySem PySem.Spec PyProof.Rows L2
open AutoSeq1 (wpAny_loadPart')
/-- a list (b) or a tuple -/
def Sq (K : PySem.W.Frag) (b : Bool) (H : Hp) (a : Addr) (xs : List V) : Prop := if b = true then SqL K H a xs else SqT K H a xs
def IB (K : PySem.W.Frag) (b : Bool) (a : Addr) : It := if b = true then Itl K a else Itt K a
theorem Sq.any {K : PySem.W.Frag} {b : Bool} {H : Hp} {a : Addr} {xs : List V} (h : Sq K b H a xs) : SqL K H a xs ∨ SqT K H a xs := by
  cases b
  · exact .inr h
  · exact .inl h
theorem Sq.lst {K : PySem.W.Frag} {H : Hp} {a : Addr} {xs : List V} (h : H a = some (.lst xs)) : Sq K true H a xs := SqL.of h
theorem Sq.tup {K : PySem.W.Frag} {H : Hp} {a : Addr} {xs : List V} (h : H a = some (.tup xs)) : Sq K false H a xs := SqT.of h
theorem walk_sq {K : PySem.W.Frag} {b : Bool} {a : Addr} {xs : List V} : Walk (IB K b a) xs.length (fun H => Sq K b H a xs) (YAt xs) := by
  cases b
  · exact walk_tup
  · exact walk_list
def iSeq (K : PySem.W.Frag) (tl : TE) : TI := fun σ H R => tl σ H fun x H1 => ∃ b a xs, x = .ref a ∧ Sq K b H1 a xs ∧ R (IB K b a) H1
section
variable {X : Cx} {tg : Expr}
theorem pi_seq {l : Expr} {tl : TE} (hl : PE X l tl) : PI X tg l (iSeq X.K tl) := by
  refine ⟨fun pins s σ H R I h => thn (hl.run pins s σ H _ I h) fun v s1 got => ?_⟩
  obtain ⟨x, H1, I1, rx, b, a, xs, rfl, hs, q⟩ := got
  obtain rfl : v = Value.ref a := rx
  cases b
  · obtain ⟨its, _, p, _⟩ := I1.tuple hs
    exact wpAny_pyIter_tuple (items := its.toArray) p (pi_one (tk := s1.toks) I1 _ (turn_tuple a _) ⟨_, Heap.get?_push_size _ rfl, rfl, rfl⟩ q)
  · obtain ⟨its, _, p, _⟩ := I1.list hs
    exact wpAny_pyIter_list p.isList (pi_one (tk := s1.toks) I1 _ (turn_list a _) ⟨_, Heap.get?_push_size _ rfl, rfl, rfl⟩ q)
end
/-! ### enumerate(tuple) -/
theorem meets_enumerate_newT (t : Addr) (items : Array Value) (n : Nat) (dct : Option Addr) (sl : Array (Option Value)) :
    Meets (Builtin.«enumerate.__new__» ⟨[.type "enumerate", .ref t], []⟩) (fun _ R s => s.heap.get? t = some { cls := .type "tuple", dict := dct, data := .seq items n, slots := sl } ∧
      R (.ok (.ret (.ref (s.heap.objs.size + 1))))
        { s with heap := (s.heap.push { cls := .type "tuple_iterator", data := .fields #[.ref t, .int 0 0] }).push { cls := .type "enumerate", data := .fields #[.none, .bool false, .ref s.heap.objs.size, rawInt 0, .none, .none] } }) :=
  .of_wp fun prog w A R s h => by
    obtain ⟨hp, g, d, tk, os⟩ := s
    obtain ⟨hl, h⟩ := h
    have two : (Heap.push hp { cls := .type "tuple_iterator", data := .fields #[.ref t, .int 0 0] }).objs.size = hp.objs.size + 1 := Heap.size_push ..
    rw [show (Shared.heap ⟨hp, g, d, tk, os⟩).objs.size + 1 = (Heap.push hp { cls := .type "tuple_iterator", data := .fields #[.ref t, .int 0 0] }).objs.size from two.symm] at h
    have hsub := sub_enumerate
    have hT : Heap.IsTuple (Shared.heap ⟨hp, g, d, tk, os⟩) t items := ⟨_, hl, rfl, n, rfl⟩
    wp_walk using wpAny_loadPart' hl
    refine wpAny_stack_any fun st => wpAny_pure ?_
    split
    · rename_i c _ _ _ _ _
      cases (c == Value.type "enumerate") <;> (wp_walk using wpAny_loadPart' hl, wpAny_pyIter_tuple hT; exact ⟨_, rfl, h⟩)
    · wp_walk using wpAny_loadPart' hl, wpAny_pyIter_tuple hT
      exact ⟨_, rfl, h⟩
section
variable {prog : Program} {w : World} {A : Around} {E : Value → Shared → Prop} {s : Shared}
theorem call_enumerate_tuple {t : Addr} {items : Array Value} {Q : Value → Shared → Prop} (hT : s.heap.IsTuple t items)
    (k : ∀ h', IsEnum h' (s.heap.objs.size + 1) s.heap.objs.size 0 .none → h'.IsTupleIter s.heap.objs.size t 0 → (∀ b o, s.heap.get? b = some o → h'.get? b = some o) → Q (.ref (s.heap.objs.size + 1)) { s with heap := h' }) :
    wpAny (model prog w) A (call (.type "enumerate") [.ref t]) Q E s := by
  obtain ⟨⟨c, dct, dt, sl⟩, at0, hc, n, hd⟩ := hT
  obtain rfl : c = .type "tuple" := hc
  obtain rfl : dt = .seq items n := hd
  have e1 := Heap.get?_push_size (s.heap.push { cls := .type "tuple_iterator", data := .fields #[.ref t, .int 0 0] }) (o := { cls := .type "enumerate", data := .fields #[.none, .bool false, .ref s.heap.objs.size, rawInt 0, .none, .none] }) rfl
  rw [Heap.size_push] at e1
  exact callType_new F.called_enumerate (by decide) (F.typeCall_enumerate_1 _) (F.newCall_enumerate_1 _) (fun obj => F.args_object_init_2 obj _) F.entry_enumerate_new (meets_enumerate_newT t items n dct sl)
    ⟨at0, ⟨_, e1, rfl⟩, k _ e1 ⟨_, Heap.get?_push_of_some _ (Heap.get?_push_size _ rfl), rfl, rfl⟩ fun b o q => Heap.get?_push_of_some _ (Heap.get?_push_of_some _ q)⟩
end
theorem enumT_end {prog : Program} {w : World} {A : Around} {E : Value → Shared → Prop} {s : Shared} {e it t : Addr} {i : Nat} {k : Int} {items : Array Value} {old : Value} {Q : Option Value → Shared → Prop} (hh : A.in1.handled = none) (he : IsEnum s.heap e it k old) (hit : s.heap.IsTupleIter it t i) (ht : s.heap.IsTuple t items) (hx : items[i]? = none)
    (hQ : ∀ h', Heap.ExtBut it s.heap h' → Q none { s with heap := h' }) : wpAny (model prog w) A (pyNext (.ref e)) Q E s := by
  have D : Draws prog w A.in1 it [it, t] i (fun _ _ => True) (fun j h => j = i ∧ h.IsTupleIter it t i ∧ h.IsTuple t items) :=
    { live := fun _ _ st => st.2.1.elim fun o q => ⟨o, q.1⟩
      frame := fun _ _ _ st hk => ⟨st.1, st.2.1.at fun o q => hk it (by simp) o q, st.2.2.at fun o q => hk t (by simp) o q⟩
      item := fun j s Q E lt st _ => absurd lt (by rw [st.1]; exact Nat.lt_irrefl _)
      done := fun s Q E st hE => wpAny_nextOf_tuple_end hh st.2.1 st.2.2 hx hE }
  exact wpAny_pyNext_enum_endD D he ⟨rfl, hit, ht⟩ hQ
def IteT (K : PySem.W.Frag) (a : Addr) : It where
  go i H := ∃ xs x, SqT K H a xs ∧ xs[i]? = some x
  yld i H v H' := ∃ T x, v = .ref T ∧ H T = none ∧ H' = upd H T (.tup [.int (i : Nat), x]) ∧ ∀ xs, SqT K H a xs → xs[i]? = some x
  stop i H := ∃ xs, SqT K H a xs ∧ xs.length ≤ i
def IeB (K : PySem.W.Frag) (b : Bool) (a : Addr) : It := if b = true then Ite K a else IteT K a
theorem walk_enumB {K : PySem.W.Frag} {b : Bool} {a : Addr} {xs : List V} : Walk (IeB K b a) xs.length (fun H => Sq K b H a xs) (YPair (fun i => some (.int (i : Nat))) (fun i => xs[i]?)) := by
  cases b
  · refine ⟨fun i H hi q => ⟨xs, xs[i], q, by simp [hi]⟩, fun H q => ⟨xs, q, Nat.le_refl _⟩, fun i H v H' hi q y => ?_⟩
    obtain ⟨T, x, e1, e2, e3, e4⟩ := y
    exact ⟨T, _, x, e1, e2, e3, rfl, e4 xs q⟩
  · exact walk_enum
theorem turn_enumT {P : Program} {w : World} {K : PySem.W.Frag} {elts : List Expr} {kk : Nat} {tpos : Pos} (a e it : Addr) (hai : a ≠ it) (hae : a ≠ e) :
    Turn P w K (.Tuple elts kk tpos) (IteT K a) [e, it] e (fun i h => (∃ old, IsEnum h e it ((i : Nat) : Int) old) ∧ h.IsTupleIter it a i ∧ e ≠ it) where
  mem := List.mem_cons_self
  obj := fun i h st b hb => by
    obtain ⟨⟨old, he⟩, ⟨o, ho, hc, hd⟩, _⟩ := st
    rcases List.mem_cons.mp hb with rfl | hb
    · exact ⟨_, he, fun v q => nomatch q⟩
    · obtain rfl := List.mem_singleton.mp hb
      exact ⟨o, ho, fun v q => nomatch (hd.symm.trans q)⟩
  keep := fun i h h' st k => by
    obtain ⟨⟨old, he⟩, ⟨o, ho, r⟩, ne⟩ := st
    exact ⟨⟨old, k e (by simp) _ he⟩, ⟨o, k it (by simp) _ ho, r⟩, ne⟩
  item := by
    rintro X rfl rfl rfl calm i pins s σ H E I apart st ⟨xs, x, hq, hx⟩
    obtain ⟨⟨old, he⟩, hit, ne⟩ := st
    obtain ⟨its, rv, p, small⟩ := I.tuple hq
    obtain ⟨u, hu, ru⟩ := rv.get hx
    have el : e < s.heap.objs.size := Heap.lt_size he
    have il : it < s.heap.objs.size := hit.elim fun o q => Heap.lt_size q.1
    have hp : s.heap.IsTuple a its.toArray := p
    have len : i < its.toArray.size := by
      have := (List.getElem?_eq_some_iff.mp hu).1
      simpa using this
    have D := Draws.tuple (prog := X.prog) (w := X.w) (A := X.A.in1) (I.ok.hd calm) it a hai its.toArray
    refine wpAny_pyNext_enum_itemD D he ⟨hit, hp⟩ len ne (by simp [ne, hae.symm]) fun v h' tk hv out st' pair sz keep => ⟨_, rfl, wpAny_letOwnedTupleGo_enum (s := { s with heap := h', toks := tk + 1 }) out fun h'' he' but => ?_⟩
    obtain rfl : v = u := Option.some.inj (hv.symm.trans (by simpa using hu))
    have pair' : h''.get? s.heap.objs.size = some { cls := .type "tuple", data := .seq #[.int i tk, v] } := (but.2 _ (Nat.ne_of_gt el)).trans pair
    have off : ∀ b, b ∉ [e, it] → b ≠ e ∧ b ≠ it := fun b hb => ⟨fun q => hb (by simp [q]), fun q => hb (by simp [q])⟩
    have I1 : Inv X pins σ (upd H s.heap.objs.size (.tup [.int (i : Nat), x])) { s with heap := h'', toks := tk + 1 } :=
      I.turnedNew (ch := [e, it]) (fun b ob hb q => (but.2 b (off b hb).1).trans (keep b ob (off b hb).1 (off b hb).2 q)) apart (Nat.le_refl _) ⟨by show 2 ≤ sizeLine; decide, [.int i tk, v], .cons ⟨_, rfl⟩ (.cons ru .nil), ⟨_, pair', rfl, _, rfl⟩⟩
    obtain ⟨⟨oi, hoi, ri⟩, _⟩ := st'
    have nxt : ((i + 1 : Nat) : Int) = (i : Int) + 1 := by omega
    refine ⟨.ref s.heap.objs.size, _, I1, rfl, ⟨_, x, rfl, I.hok.fresh (Nat.le_refl _), rfl, fun ys hy => ?_⟩, ⟨⟨v, by rw [nxt]; exact he'⟩, ⟨oi, (but.2 it ne.symm).trans hoi, ri⟩, ne⟩, fun b hb => ?_⟩
    · obtain rfl := I.tuple_inj hy hq
      exact hx
    · have lt : b < s.heap.objs.size := by
        rcases List.mem_cons.mp hb with rfl | hb
        · exact el
        · exact List.mem_singleton.mp hb ▸ il
      exact (upd_ne (Nat.ne_of_lt lt)).trans (apart b hb).1
  done := by
    rintro X rfl rfl rfl calm i pins s σ H E I apart st ⟨xs, hq, hx⟩
    obtain ⟨⟨old, he⟩, hit, ne⟩ := st
    obtain ⟨its, rv, p, small⟩ := I.tuple hq
    have hp : s.heap.IsTuple a its.toArray := p
    have none : its.toArray[i]? = none := by
      have l := rv.length
      rw [List.getElem?_toArray]
      exact List.getElem?_eq_none (by omega)
    have hd : X.A.in1.handled = .none := I.ok.hd calm
    obtain ⟨f0, f1, f2, f3, f4, f5⟩ := apart it (by simp)
    refine enumT_end hd he hit hp none fun h' eb => ⟨rfl, I.turned (t' := s.toks) (fun b o hb q => eb b o hb q) f0 f1 f3 f4 f5⟩
  self := fun A i s Q E st h => st.1.elim fun _ he => wpAny_pyIter_enum he h
def iEnumB (K : PySem.W.Frag) (ta : TA) : TI := fun σ H R => ta σ H fun vs H1 => ∃ b a xs, vs = [.ref a] ∧ Sq K b H1 a xs ∧ R (IeB K b a) H1
theorem pi_enumB {X : Cx} {e : Expr} {ta : TA} {p pos tpos : Pos} {elts : List Expr} {kk : Nat} (hg : Gl X "enumerate") (hm : X.mg "enumerate" = none) (ha : PA X [e] ta) (one : starEach [e] X.env = [(false, eval e X.env)] := by rfl) :
    PI X (.Tuple elts kk tpos) (.Call (.Name "enumerate" p) [e] [] pos) (iEnumB X.K ta) := by
  refine ⟨fun pins s σ H R I h => Call_ (ld_blt I hg hm boot_enumerate (PyProof.Rows.callWith_type1 (thn (ha.run pos pins s σ H _ I h) fun us s1 got => ?_) one rfl))⟩
  obtain ⟨vs, H1, I1, r1, b, a, xs, rfl, hs, q⟩ := got
  obtain ⟨u, rfl, ru⟩ : ∃ u, us = [u] ∧ RelV (.ref a) u := by
    cases r1 with
    | cons r rr => cases rr; exact ⟨_, rfl, r⟩
  obtain rfl : u = Value.ref a := ru
  have young : ∀ b ∈ [s1.heap.objs.size + 1, s1.heap.objs.size], s1.heap.objs.size ≤ b := fun b hb => by
    rcases List.mem_cons.mp hb with rfl | hb
    · exact Nat.le_add_right _ _
    · exact Nat.le_of_eq (List.mem_singleton.mp hb).symm
  have fp : ∀ b ∈ [s1.heap.objs.size + 1, s1.heap.objs.size], FpOk X pins H1 b := fun b hb => I1.fpOk (young b hb) (I1.hok.fresh (young b hb))
  cases b
  · obtain ⟨its, _, p, _⟩ := I1.tuple hs
    have hp : s1.heap.IsTuple a its.toArray := p
    have la : a < s1.heap.objs.size := hp.elim fun o q => Heap.lt_size q.1
    refine call_enumerate_tuple hp fun h' he hit keep => wpAny_pyIter_enum he ⟨s1.heap.objs.size + 1, _, _, _, H1, rfl, I1.kept (t' := s1.toks) keep, turn_enumT a (s1.heap.objs.size + 1) s1.heap.objs.size (Nat.ne_of_lt la) (Nat.ne_of_lt (Nat.lt_succ_of_lt la)), ⟨⟨.none, he⟩, hit, Nat.succ_ne_self _⟩, fp, q⟩
  · obtain ⟨its, _, p, _⟩ := I1.list hs
    exact call_enumerate_list p.isList fun h' he hit _ keep => wpAny_pyIter_enum he ⟨s1.heap.objs.size + 1, _, _, _, H1, rfl, I1.kept (t' := s1.toks) keep, turn_enum a (s1.heap.objs.size + 1) s1.heap.objs.size, ⟨⟨.none, he⟩, hit, Nat.succ_ne_self _⟩, fp, q⟩
/-- a comprehension of a dict over any walk -/
theorem dc_it {J : It} {n : Nat} {G : Hp → Prop} {Y : Nat → Hp → V → Hp → Prop} (w : Walk J n G Y) {g : TG} {tt : TT} {tk tv : TE} {vs : List Nat} {σ : L2.St} {H1 : Hp} {D : Addr} {o0 : HO} {Qd : Hp → Prop} (Pv : Nat → Hp → Prop) (start : Pv 0 (upd H1 D o0)) (stay : ∀ i H, i ≤ n → Pv i H → G H)
    (turn : ∀ i x H H', i < n → Pv i H → Y i H x H' → turnP D g tt tk tv vs σ (Pv (i + 1)) x H') (fin : ∀ H, Pv n H → Qd H) :
    ∃ W : Nat → Nat → Hp → Prop, (∃ m, W 0 m (upd H1 D o0)) ∧ ∀ i m H2, W i m H2 → (J.stop i H2 ∧ Qd H2) ∨ (J.go i H2 ∧ ∃ Nx : Hp → Prop, (∀ H3, Nx H3 → ∃ m', m' < m ∧ W (i + 1) m' H3) ∧ ∀ x H3, J.yld i H2 x H3 → turnP D g tt tk tv vs σ Nx x H3) := by
  refine ⟨fun i m H => i + m = n ∧ Pv i H, ⟨n, Nat.zero_add n, start⟩, fun i m H st => ?_⟩
  obtain ⟨sum, pv⟩ := st
  have g := stay i H (by omega) pv
  match m, sum with
  | 0, sum =>
    obtain rfl : i = n := sum
    exact .inl ⟨w.stops H g, fin H pv⟩
  | m + 1, sum => exact .inr ⟨w.goes i H (by omega) g, Pv (i + 1), fun H3 p3 => ⟨m, Nat.lt_succ_self m, by omega, p3⟩, fun x H3 y => turn i x H H3 (by omega) pv (w.yields i H x H3 (by omega) g y)⟩
end EV
namespace K6
open PySem PySem.Spec PyProof.Rows L2 LamX NdefX EV
def top (i : Nat) : Stmt := PySem.Challenge.pw_lastopen_k04_rules_together.main.body.getD i (.Pass ⟨0, 0, 0, 0⟩)
abbrev sDraw : Stmt := top 33
abbrev sPick : Stmt := top 34
abbrev sMixed : Stmt := top 35
abbrev sSame : Stmt := top 36
abbrev sFresh : Stmt := top 37
abbrev sNames : Stmt := top 38
abbrev sNeg : Stmt := top 39
abbrev sBare : Stmt := top 40
abbrev sUp : Stmt := top 41
abbrev sFulls : Stmt := top 42
abbrev sIs : Stmt := top 43
abbrev sRefuses : Stmt := top 44
abbrev sLess : Stmt := top 45
abbrev sSix : Stmt := top 46
abbrev sCmp : Stmt := top 47
abbrev sSo : Stmt := top 48
abbrev sLaw : Stmt := top 49
abbrev sIsName : Stmt := top 11
abbrev sIsList : Stmt := top 12
abbrev sNameOf : Stmt := top 13
abbrev sOpp : Stmt := top 14
abbrev sChkNames : Stmt := top 15
abbrev sChkCount : Stmt := top 16
abbrev sJoin : Stmt := top 17
abbrev sLits : Stmt := top 18
abbrev sPlaces : Stmt := top 19
abbrev sInOrder : Stmt := top 20
abbrev sWrong : Stmt := top 21
abbrev sIsClause : Stmt := top 22
abbrev sIsFull : Stmt := top 23
abbrev sFullSettings : Stmt := top 25
abbrev sChkSign : Stmt := top 28
abbrev sAllows : Stmt := top 29
abbrev sTurnRow : Stmt := top 30
abbrev sRowWithout : Stmt := top 31
/-! ### the stream of draws: at S a list of the cells' list at L, the digits' cell, the number of draws, the mixed number -/
def StreamAt (H : Hp) (S L : Addr) (c : Nat) : Prop := ∃ (ns : List Int) (a m : Int), H S = some (.lst [.ref L, .int a, .int (c : Int), .int m]) ∧ H L = some (.lst (ns.map V.int)) ∧ 0 ≤ a ∧ 0 ≤ m ∧ m < 2147483647 ∧ ns.length ≤ 63
theorem StreamAt.ne {H : Hp} {S L : Addr} {c : Nat} (h : StreamAt H S L c) : S ≠ L := by
  obtain ⟨ns, a, m, h1, h2, _⟩ := h
  refine ne_of h1 h2 fun z => ?_
  cases ns with
  | nil => cases z
  | cons n r => cases z
/-- all but the two objects of the stream stay -/
def Kept (S L : Addr) (H H' : Hp) : Prop := ∀ b o, H b = some o → b ≠ S → b ≠ L → H' b = some o
theorem Kept.refl {S L : Addr} (H : Hp) : Kept S L H H := fun _ _ h _ _ => h
theorem Kept.trans {S L : Addr} {H H1 H2 : Hp} (a : Kept S L H H1) (b : Kept S L H1 H2) : Kept S L H H2 := fun x o h h1 h2 => b x o (a x o h h1 h2) h1 h2
/-- a draw: a number from 0 to many - 1 -/
def spDraw : Sp := fun vs H Q _ => ∃ (S L : Addr) (many : Int) (c : Nat), vs = [.ref S, .int many] ∧ 0 < many ∧ many ≤ 1000 ∧ c ≤ 100000 ∧ StreamAt H S L c ∧
  ∀ (r : Int) (H' : Hp), 0 ≤ r → r < many → StreamAt H' S L (c + 1) → Kept S L H H' → Q (.int r) H'
section
variable {P : Program} {w : World} {K : PySem.W.Frag} {mg : Str → Option Value} {base : Heap}
theorem scDraw : FnScope ["_law_stream", "_law_many", "_law_digit", "_law_mixed_here"] ["_law_stream", "_law_many"] (defScope sDraw) := ⟨rfl, rfl, rfl, by decide +kernel, rfl, by decide +kernel, by decide +kernel⟩
theorem dp_ints {H : Hp} : ∀ ns : List Int, DpAll K H (ns.map V.int) (ns.map PyData.int)
  | [] => .nil
  | n :: r => .cons (.int n) (dp_ints r)
theorem lay_ints : ∀ ns : List Int, PyData.canLayAll0 (ns.map PyData.int) = true ∧ PyData.depthAll (ns.map PyData.int) ≤ 2
  | [] => ⟨rfl, Nat.zero_le _⟩
  | n :: r => by
    obtain ⟨h1, h2⟩ := lay_ints r
    refine ⟨?_, ?_⟩
    · simp only [List.map_cons, PyData.canLayAll0, PyData.canLay0, h1, Bool.and_self]
    · simp only [List.map_cons, PyData.depthAll, PyData.depth]
      omega
theorem shaped_ints (ns : List Int) : SeqAt.shaped (.list (ns.map PyData.int)) = true := by
  obtain ⟨h1, h2⟩ := lay_ints ns
  refine Bool.and_eq_true_iff.mpr ⟨?_, decide_eq_true ?_⟩
  · simp only [PyData.canLay0, h1]
  · simp only [PyData.depth]
    omega
theorem eqv_nil : ∀ ns : List Int, PyData.eqv (.list (ns.map PyData.int)) (.list []) = decide (ns = [])
  | [] => rfl
  | n :: r => by simp [PyData.eqv, PyData.eqvAll]
theorem ok_draw {f : Addr} {fd : FuncData} (F : Fun K "_law_draw" "_law_draw" sDraw f fd) (mi : mg "int" = none) : FnOk P w K mg base CX0 1 f fd ["_law_stream", "_law_many"] spDraw := by
  refine F.ok scDraw (fun vs H Q E h => ?_) (fun cdv A outer s H vs Q E hr h => ?_)
  · obtain ⟨S, L, many, c, rfl, _⟩ := h
    rfl
  · obtain ⟨S, L, many, c, rfl, m0, m1, hc, ⟨ns, a, m, hS, hL, a0, h0, h1, hn⟩, k⟩ := h
    have hu := hu_of hr
    have nSL : S ≠ L := StreamAt.ne ⟨ns, a, m, hS, hL, a0, h0, h1, hn⟩
    -- what stands behind the first if
    obtain ⟨tt, htt, hrest⟩ : ∃ tt, PSs (cxOf CX0 P w K mg base ["_law_stream", "_law_many", "_law_digit", "_law_mixed_here"] "_law_draw" (defScope sDraw) f cdv A outer s H E).nox ((defBody sDraw).drop 2) tt ∧
        ∀ (ns : List Int) (a m : Int) (H1 : Hp), H1 S = some (.lst [.ref L, .int a, .int ((c : Int) + 1), .int m]) → H1 L = some (.lst (ns.map V.int)) → 0 ≤ a → 0 ≤ m → m < 2147483647 → ns.length ≤ 63 → Kept S L H H1 →
          tt { nx := fun _ H' => Q .non H', rt := Q } [some (.ref S), some (.int many), none, none] H1 := by
      refine ⟨_, pss_cons (ps_if (pt_cmpR op_gt (pe_ix ix_list (pv 0) pe_int (fun _ _ => rfl)) pe_int (nomark _))
        (pss_cons (ps_set (i := 2) scDraw.nd rfl (.inl rfl) (pe_op op_modN (pe_callTy call_int1 (by rfl) mi (by decide +kernel) (pa_cons (pe_ix ix_list (pv 0) pe_int (fun _ _ => rfl)) pa_nil)) (pv 1)))
        (pss_cons (ps_asg (pe_op op_fdivN (pe_ix ix_list (pv 0) pe_int (fun _ _ => rfl)) (pv 1)) (pg_sub (pv 0) pe_int set_list))
        (pss_one (ps_ret (pv 2))))) pss_nil)
        (pss_cons (ps_set (i := 3) scDraw.nd rfl (.inl rfl) (pe_op op_mod (pe_op op_pow (pe_op op_add (pe_op op_add (pe_ix ix_list (pv 0) pe_int (fun _ _ => rfl)) (pe_op op_mul pe_int (pe_ix ix_list (pv 0) pe_int (fun _ _ => rfl)))) pe_int) pe_int) pe_int))
        (pss_one (ps_ret (pe_op op_modN (pe_op op_mod (pe_op op_pow (pe_op op_add (pe_op op_add (pe_op op_mul (pv 3) pe_int) (pe_op op_mul (pe_op op_mul pe_int (pe_ix ix_list (pv 0) pe_int (fun _ _ => rfl))) (pe_ix ix_list (pv 0) pe_int (fun _ _ => rfl)))) pe_int) pe_int) pe_int) (pv 1))))), fun ns a m H1 hS hL a0 h0 h1 hn hk => ?_⟩
      refine ⟨_, rfl, S, _, 1, _, rfl, rfl, SqL.of hS, rfl, _, _, rfl, rfl, _, rfl, ?_⟩
      refine ite2 (fun hp => ?_) (fun hp => ?_)
      · have ha : 0 < a := by simpa using hp
        refine ⟨_, rfl, S, _, 1, _, rfl, rfl, SqL.of hS, rfl, .inl ⟨_, rfl, _, rfl, _, _, rfl, rfl, (by omega), ?_⟩⟩
        refine ⟨_, rfl, S, _, 1, _, rfl, rfl, SqL.of hS, rfl, _, rfl, _, _, rfl, rfl, ⟨(by omega), (by omega)⟩, _, rfl, S, _, 1, 1, rfl, rfl, hS, rfl, _, rfl, ?_⟩
        have r0 := Int.fmod_nonneg_of_pos a m0
        have r1 := Int.fmod_lt_of_pos a m0
        refine k _ _ r0 r1 ⟨ns, a.fdiv many, m, upd_same, (upd_ne nSL.symm).trans hL, Int.fdiv_nonneg a0 (by omega), h0, h1, hn⟩ fun b o e n1 n2 => (upd_ne n1).trans (hk b o e n1 n2)
      · refine ⟨_, rfl, S, _, 3, _, rfl, rfl, SqL.of hS, rfl, _, rfl, S, _, 2, _, rfl, rfl, SqL.of hS, rfl, _, _, rfl, rfl, .inl ⟨(by decide), (by decide)⟩, _, _, rfl, rfl, _, _, rfl, rfl, _, _, rfl, rfl, ⟨(by decide), (by decide), ?_⟩, _, _, rfl, rfl, (by show (0 : Int) < 2147483629; decide), ?_⟩
        · show (m + 104729 * ((c : Int) + 1) + 17).natAbs < 2 ^ 64
          omega
        have g0 := Int.emod_nonneg ((m + 104729 * ((c : Int) + 1) + 17) ^ (5 : Int).toNat) (show (2147483629 : Int) ≠ 0 by decide)
        have g1 := Int.emod_lt_of_pos ((m + 104729 * ((c : Int) + 1) + 17) ^ (5 : Int).toNat) (show (0 : Int) < 2147483629 by decide)
        have hcc : ((c : Int) + 1) * ((c : Int) + 1) ≤ 100001 * 100001 := Int.mul_le_mul (by omega) (by omega) (by omega) (by omega)
        have hc0 : 0 ≤ ((c : Int) + 1) * ((c : Int) + 1) := Int.mul_nonneg (by omega) (by omega)
        have hca : 40503 * ((c : Int) + 1) * ((c : Int) + 1) = 40503 * (((c : Int) + 1) * ((c : Int) + 1)) := Int.mul_assoc ..
        refine ⟨_, rfl, _, _, rfl, rfl, .inl ⟨(by omega), (by omega)⟩, _, rfl, S, _, 2, _, rfl, rfl, SqL.of hS, rfl, _, _, rfl, rfl, .inl ⟨(by decide), (by decide)⟩, _, rfl, S, _, 2, _, rfl, rfl, SqL.of hS, rfl, _, _, rfl, rfl, .inl ⟨(by show -(2 ^ 64) < 40503 * ((c : Int) + 1); omega), (by show 40503 * ((c : Int) + 1) < 2 ^ 64; omega)⟩,
          _, _, rfl, rfl, _, _, rfl, rfl, _, _, rfl, rfl, ⟨(by decide), (by decide), ?_⟩, _, _, rfl, rfl, (by show (0 : Int) < 1000000007; decide), _, rfl, _, _, rfl, rfl, (by omega), ?_⟩
        · show ((m + 104729 * ((c : Int) + 1) + 17) ^ (5 : Int).toNat % 2147483629 * 48271 + 40503 * ((c : Int) + 1) * ((c : Int) + 1) + 13).natAbs < 2 ^ 64
          rw [hca]
          generalize ((m + 104729 * ((c : Int) + 1) + 17) ^ (5 : Int).toNat) % 2147483629 = y at g0 g1 ⊢
          omega
        exact k _ _ (Int.fmod_nonneg_of_pos _ m0) (Int.fmod_lt_of_pos _ m0) ⟨ns, a, m, hS, hL, a0, h0, h1, hn⟩ hk
    refine ⟨_, pss_cons (ps_asg (pe_op op_add (pe_ix ix_list (pv 0) pe_int (fun _ _ => rfl)) pe_int) (pg_sub (pv 0) pe_int set_list))
      (pss_cons (ps_if (PW.pt (pw_and (pt_cmpR op_eq (pe_ix ix_list (pv 0) pe_int (fun _ _ => rfl)) pe_int (nomark _)) (pw_and1 (pt_cmpR (op_neD hr.units) (pe_ix ix_list (pv 0) pe_int (fun _ _ => rfl)) (pe_lst pa_nil) (nomark _)))))
        (pss_cons (ps_asg (pe_bm PySem.F.plainAttrs_list PySem.F.slot_list_pop PySem.F.type_list_pop mt_popAt (pe_ix ix_list (pv 0) pe_int (fun _ _ => rfl)) (pa_cons pe_int pa_nil)) (pg_sub (pv 0) pe_int set_list))
        (pss_one (ps_if (pt_cmpR op_lt (pe_ix ix_list (pv 0) pe_int (fun _ _ => rfl)) (pe_op op_pow pe_int pe_int) (nomark _))
          (pss_cons (ps_asg (pe_op op_mod (pe_callTy call_int1 (by rfl) mi (by decide +kernel) (pa_cons (pe_op op_add (pe_op op_add (pe_op op_mul (pe_ix ix_list (pv 0) pe_int (fun _ _ => rfl)) pe_int) (pe_ix ix_list (pv 0) pe_int (fun _ _ => rfl))) pe_int) pa_nil)) pe_int) (pg_sub (pv 0) pe_int set_list))
          (pss_one (ps_asg pe_int (pg_sub (pv 0) pe_int set_list)))) pss_nil))) pss_nil) htt), ?_⟩
    refine ⟨_, rfl, S, _, 2, _, rfl, rfl, SqL.of hS, rfl, _, _, rfl, rfl, _, rfl, S, _, 2, 2, rfl, rfl, hS, rfl, ?_⟩
    have hS1 : upd H S (.lst [.ref L, .int a, .int ((c : Int) + 1), .int m]) S = some (.lst [.ref L, .int a, .int ((c : Int) + 1), .int m]) := upd_same
    have hL1 : upd H S (.lst [.ref L, .int a, .int ((c : Int) + 1), .int m]) L = some (.lst (ns.map V.int)) := (upd_ne nSL.symm).trans hL
    have hK1 : Kept S L H (upd H S (.lst [.ref L, .int a, .int ((c : Int) + 1), .int m])) := fun b o e n1 n2 => (upd_ne n1).trans e
    refine ⟨_, rfl, S, _, 1, _, rfl, rfl, SqL.of hS1, rfl, rfl, _, rfl, ?_⟩
    refine ite2 (fun he => ?_) (fun _ => hrest ns a m _ hS1 hL1 a0 h0 h1 hn hK1)
    -- the second half of the test: is the cells' list empty
    refine ⟨_, rfl, S, _, 0, _, rfl, rfl, SqL.of hS1, rfl, (by show 0 ≤ sizeLine; exact Nat.zero_le _), fun p hp => ?_⟩
    have nSp : S ≠ p := ne_of_none hS1 hp
    have nLp : L ≠ p := ne_of_none hL1 hp
    refine ⟨_, _, .lst (SqL.of ((upd_ne nLp).trans hL1)) (dp_ints ns), .lst (SqL.of upd_same) .nil, shaped_ints ns, rfl, _, rfl, ?_⟩
    have hS2 := (upd_ne (H := upd H S (.lst [.ref L, .int a, .int ((c : Int) + 1), .int m])) (o := HO.lst []) nSp).trans hS1
    have hL2 := (upd_ne (H := upd H S (.lst [.ref L, .int a, .int ((c : Int) + 1), .int m])) (o := HO.lst []) nLp).trans hL1
    have hK2 : Kept S L H (upd (upd H S (.lst [.ref L, .int a, .int ((c : Int) + 1), .int m])) p (.lst [])) := fun b o e n1 n2 => (upd_ne (ne_of_none (hK1 b o e n1 n2) hp)).trans (hK1 b o e n1 n2)
    rw [eqv_nil]
    cases ns with
    | nil => exact iteF (hrest [] a m _ hS2 hL2 a0 h0 h1 hn hK2)
    | cons z zs =>
      refine iteT ?_
      have hz : zs.length ≤ 62 := by rw [List.length_cons] at hn; omega
      -- the first cell is taken out and looked at
      refine ⟨_, rfl, S, _, 0, _, rfl, rfl, SqL.of hS2, rfl, .inl ⟨rfl, _, SqL.of hL2⟩, L, _, 0, 0, _, rfl, rfl, hL2, (by decide), (by decide), (by rw [List.length_map, List.length_cons]; unfold seqIndex?; simp), rfl, _, rfl, S, _, 1, 1, rfl, rfl, (upd_ne nSL).trans hS2, rfl, ?_⟩
      have hS3 : ∀ (H9 : Hp) (o : HO), upd H9 S o S = some o := fun _ _ => upd_same
      have hL3 : ∀ (H9 : Hp) (o o' : HO), upd (upd H9 L o) S o' L = some o := fun _ _ _ => (upd_ne nSL.symm).trans upd_same
      have hK3 : ∀ (o o' : HO), Kept S L H (upd (upd (upd (upd H S (.lst [.ref L, .int a, .int ((c : Int) + 1), .int m])) p (.lst [])) L o) S o') := fun o o' b u e n1 n2 => (upd_ne n1).trans ((upd_ne n2).trans (hK2 b u e n1 n2))
      refine ⟨_, rfl, S, _, 1, _, rfl, rfl, SqL.of (hS3 _ _), rfl, _, _, rfl, rfl, ⟨(by decide), (by decide), (by decide)⟩, _, _, rfl, rfl, _, rfl, ?_⟩
      refine ite2 (fun hlt => ?_) (fun hge => ?_)
      · refine ⟨_, rfl, S, _, 3, _, rfl, rfl, SqL.of (hS3 _ _), rfl, _, _, rfl, rfl, .inl ⟨(by omega), (by omega)⟩, _, rfl, S, _, 1, _, rfl, rfl, SqL.of (hS3 _ _), rfl, _, _, rfl, rfl, _, _, rfl, rfl, .inl ⟨_, rfl, _, _, rfl, rfl, (by show (0 : Int) < 2147483647; decide), _, rfl, S, _, 3, 3, rfl, rfl, hS3 _ _, rfl, _, rfl, S, _, 1, 1, rfl, rfl, hS3 _ _, rfl, ?_⟩⟩
        exact hrest zs 0 ((m * 31 + z + 7) % 2147483647) _ upd_same ((upd_ne nSL.symm).trans ((upd_ne nSL.symm).trans (hL3 _ _ _))) (by decide) (Int.emod_nonneg _ (by decide)) (Int.emod_lt_of_pos _ (by decide)) (by omega) fun b u e n1 n2 => (upd_ne n1).trans ((upd_ne n1).trans (hK3 _ _ b u e n1 n2))
      · have h9 : (10 : Int) ^ (18 : Int).toNat ≤ z := Int.not_lt.mp fun q => hge (decide_eq_true q)
        have e9 : (10 : Int) ^ (18 : Int).toNat = 1000000000000000000 := by decide
        exact hrest zs z m _ upd_same (hL3 _ _ _) (by omega) h0 h1 (by omega) (hK3 _ _)
end
/-! ### picks -/
def spPickL (K : PySem.W.Frag) : Sp := fun vs H Q _ => ∃ (S L T : Addr) (xs : List V) (c : Nat), vs = [.ref S, .ref T] ∧ SqL K H T xs ∧ (∀ H', Kept S L H H' → SqL K H' T xs) ∧ 0 < xs.length ∧ xs.length ≤ 1000 ∧ c ≤ 100000 ∧ StreamAt H S L c ∧
  ∀ (i : Nat) (v : V) (H' : Hp), xs[i]? = some v → StreamAt H' S L (c + 1) → Kept S L H H' → Q v H'
def spPickS : Sp := fun vs H Q _ => ∃ (S L : Addr) (z : Str) (c : Nat), vs = [.ref S, .str z] ∧ 0 < z.length ∧ z.length ≤ 1000 ∧ c ≤ 100000 ∧ StreamAt H S L c ∧
  ∀ (i : Nat) (ch : Nat) (H' : Hp), z.cps.toList[i]? = some ch → StreamAt H' S L (c + 1) → Kept S L H H' → Q (.str ⟨#[ch]⟩) H'
section
variable {P : Program} {w : World} {K : PySem.W.Frag} {mg : Str → Option Value} {base : Heap}
theorem scPick : FnScope ["_law_stream", "_law_things"] ["_law_stream", "_law_things"] (defScope sPick) := ⟨rfl, rfl, rfl, by decide +kernel, rfl, by decide +kernel, by decide +kernel⟩
theorem at_in {α : Type} {xs : List α} {r : Int} (h0 : 0 ≤ r) (h1 : r < xs.length) : ∃ v, xs[r.toNat]? = some v ∧ atI xs r = some v := by
  have hl : r.toNat < xs.length := by omega
  refine ⟨xs[r.toNat], List.getElem?_eq_getElem hl, ?_⟩
  have z := atI_nat (List.getElem?_eq_getElem hl)
  rwa [Int.toNat_of_nonneg h0] at z
variable {f fD : Addr} {fd fdD : FuncData}
theorem ok_pickL (F : Fun K "_law_pick" "_law_pick" sPick f fd) (GD : FnOk P w K mg base CX0 1 fD fdD ["_law_stream", "_law_many"] spDraw) (mD : mg "_law_draw" = some (.ref fD)) (kD : PySem.W.keepIn K (.ref fD) = true) (bD : L2.Binds K fdD ["_law_stream", "_law_many"] []) (ml : mg "len" = none) :
    FnOk P w K mg base CX0 2 f fd ["_law_stream", "_law_things"] (spPickL K) := by
  refine F.ok scPick (fun vs H Q E h => ?_) (fun cdv A outer s H vs Q E hr h => ?_)
  · obtain ⟨S, L, T, xs, c, rfl, _⟩ := h
    rfl
  · obtain ⟨S, L, T, xs, c, rfl, hT, hT', x0, x1, hc, hS, k⟩ := h
    refine ⟨_, pss_one (ps_ret (pe_ix ix_seq (pv 1) (pe_call GD hr (by rfl) mD kD bD .nil pass0 (pa_cons (pv 0) (pa_cons (pe_callB call_len (by rfl) ml PySem.boot_len (pa_cons (pv 1) pa_nil)) pa_nil))) (fun _ _ => rfl))), ?_⟩
    refine ⟨_, rfl, _, rfl, _, rfl, _, xs.length, rfl, .inl ⟨xs, hT, rfl⟩, S, L, _, c, rfl, by omega, by omega, hc, hS, fun r H' r0 r1 hS' hk => ?_⟩
    obtain ⟨v, e1, e2⟩ := at_in r0 r1
    exact .inl ⟨T, xs, r, v, rfl, rfl, hT' H' hk, e2, k _ v H' e1 hS' hk⟩
theorem ok_pickS (F : Fun K "_law_pick" "_law_pick" sPick f fd) (GD : FnOk P w K mg base CX0 1 fD fdD ["_law_stream", "_law_many"] spDraw) (mD : mg "_law_draw" = some (.ref fD)) (kD : PySem.W.keepIn K (.ref fD) = true) (bD : L2.Binds K fdD ["_law_stream", "_law_many"] []) (ml : mg "len" = none) :
    FnOk P w K mg base CX0 2 f fd ["_law_stream", "_law_things"] spPickS := by
  refine F.ok scPick (fun vs H Q E h => ?_) (fun cdv A outer s H vs Q E hr h => ?_)
  · obtain ⟨S, L, z, c, rfl, _⟩ := h
    rfl
  · obtain ⟨S, L, z, c, rfl, x0, x1, hc, hS, k⟩ := h
    refine ⟨_, pss_one (ps_ret (pe_ix ix_seq (pv 1) (pe_call GD hr (by rfl) mD kD bD .nil pass0 (pa_cons (pv 0) (pa_cons (pe_callB call_len (by rfl) ml PySem.boot_len (pa_cons (pv 1) pa_nil)) pa_nil))) (fun _ _ => rfl))), ?_⟩
    have hz : z.length ≤ sizeLine := by rw [sizeLine_eq]; omega
    refine ⟨_, rfl, _, rfl, _, rfl, _, z.length, rfl, ⟨hz, rfl⟩, S, L, _, c, rfl, by omega, by omega, hc, hS, fun r H' r0 r1 hS' hk => ?_⟩
    obtain ⟨ch, e1, e2⟩ := at_in (xs := z.cps.toList) r0 (by rw [Array.length_toList]; exact r1)
    exact .inr (.inr ⟨z, r, ch, rfl, rfl, hz, e2, k _ ch H' e1 hS' hk⟩)
/-! ### the same shown text -/
def spSame (K : PySem.W.Frag) : Sp := fun vs H Q _ => ∃ (x y : V) (d : PyData), vs = [x, y] ∧ Dq K H x d ∧ Dq K H y d ∧ d.showable = true ∧ d.shown.length ≤ sizeLine ∧ d.depth ≤ 60 ∧ Q (.bl true) H
theorem scSame : FnScope ["_law_found", "_law_due"] ["_law_found", "_law_due"] (defScope sSame) := ⟨rfl, rfl, rfl, by decide +kernel, rfl, by decide +kernel, by decide +kernel⟩
theorem ok_same (F : Fun K "_law_same" "_law_same" sSame f fd) (mr : mg "repr" = none) : FnG P w K mg base 1 f fd ["_law_found", "_law_due"] (spSame K) := by
  refine fng_of F scSame (fun vs H Q E h => ?_) (fun cdv A outer s H vs Q E hg hr h => ?_)
  · obtain ⟨x, y, d, rfl, _⟩ := h
    rfl
  · obtain ⟨x, y, d, rfl, hx, hy, h1, h2, h3, k⟩ := h
    refine ⟨_, pss_one (ps_ret (pe_cmpR op_eq (pe_callB (call_reprD hg hr.units) (by rfl) mr (by decide +kernel) (pa_cons (pv 0) pa_nil)) (pe_callB (call_reprD hg hr.units) (by rfl) mr (by decide +kernel) (pa_cons (pv 1) pa_nil)) (nomark _))), ?_⟩
    refine ⟨_, rfl, _, d, rfl, hx, h1, h2, h3, _, rfl, _, d, rfl, hy, h1, h2, h3, rfl, ?_⟩
    show Q (.bl (decide (V.str d.shown = V.str d.shown))) H
    rw [decide_eq_true rfl]
    exact k
end
end K6
namespace K6
open PySem PySem.Spec PyProof.Rows L2 LamX NdefX EV
theorem StreamAt.new {H : Hp} {S L p : Addr} {c : Nat} {o : HO} (h : StreamAt H S L c) (hp : H p = none) : StreamAt (upd H p o) S L c := by
  obtain ⟨ns, a, m, e1, e2, r⟩ := h
  exact ⟨ns, a, m, (upd_ne (ne_of_none e1 hp)).trans e1, (upd_ne (ne_of_none e2 hp)).trans e2, r⟩
theorem StreamAt.off {H : Hp} {S L p : Addr} {c : Nat} (h : StreamAt H S L c) (hp : H p = none) : p ≠ S ∧ p ≠ L := by
  obtain ⟨ns, a, m, e1, e2, r⟩ := h
  exact ⟨(ne_of_none e1 hp).symm, (ne_of_none e2 hp).symm⟩
theorem StreamAt.put {H : Hp} {S L p : Addr} {c : Nat} {o : HO} (h : StreamAt H S L c) (n1 : p ≠ S) (n2 : p ≠ L) : StreamAt (upd H p o) S L c := by
  obtain ⟨ns, a, m, e1, e2, r⟩ := h
  exact ⟨ns, a, m, (upd_ne n1.symm).trans e1, (upd_ne n2.symm).trans e2, r⟩
theorem Kept.new {S L p : Addr} {H H' : Hp} {o : HO} (k : Kept S L H H') (hp : H p = none) : Kept S L H (upd H' p o) := fun b u e n1 n2 => (upd_ne (ne_of_none e hp)).trans (k b u e n1 n2)
theorem Kept.none {S L p : Addr} {H H' : Hp} (k : Kept S L H H') (h : H' p = none) (n1 : p ≠ S) (n2 : p ≠ L) : H p = none := by
  cases e : H p with
  | none => rfl
  | some o =>
    have z := k p o e n1 n2
    rw [h] at z
    exact nomatch z
section
variable {X : Cx} {Kf : PySem.W.Frag} {T name id : String} {o e : Expr} {es : List Expr} {apos cpos : Pos} {to : TE} {t : TA} {r : List V → Hp → VK → Prop}
/-- as the library's rules, the fragment named: so they serve within a comprehension's block -/
theorem len_k (hK : X.K = Kf := by rfl) : CallR X (.builtin "len") (fun xs H Q => ∃ x n, xs = [x] ∧ LenV Kf x H n ∧ Q (.int n) H) := by
  subst hK
  exact call_len
end
theorem seq_at {r : Int} {n : Nat} (h0 : 0 ≤ r) (h1 : r < n) : seqIndex? r n = some r.toNat := by
  unfold seqIndex?
  simp only [show ¬ r < 0 by omega, if_false]
  rw [if_pos (by simp; omega)]
theorem perm_erase {α : Type} : ∀ (xs : List α) (i : Nat) (v : α), xs[i]? = some v → (v :: xs.eraseIdx i).Perm xs
  | [], i, v, h => by simp at h
  | x :: r, 0, v, h => by
    obtain rfl : x = v := by simpa using h
    exact .refl _
  | x :: r, i + 1, v, h => (List.Perm.swap x v _).trans ((perm_erase r i v (by simpa using h)).cons x)
/-! ### a list in another order -/
def spMixed (K : PySem.W.Frag) : Sp := fun vs H Q _ => ∃ (S L T : Addr) (b : Bool) (xs : List V) (c : Nat), vs = [.ref S, .ref T] ∧ Sq K b H T xs ∧ xs.length ≤ 1000 ∧ c + xs.length ≤ 100000 ∧ StreamAt H S L c ∧
  ∀ (ys : List V) (p : Addr) (H' : Hp), ys.Perm xs → H p = none → H' p = some (.lst ys) → StreamAt H' S L (c + xs.length) → Kept S L H H' → Q (.ref p) H'
section
variable {P : Program} {w : World} {K : PySem.W.Frag} {mg : Str → Option Value} {base : Heap} {f fD : Addr} {fd fdD : FuncData}
abbrev nMixed : List Str := ["_law_stream", "_law_things", "_law_left", "_law_k"]
theorem scMixed : FnScope nMixed ["_law_stream", "_law_things"] (defScope sMixed) := ⟨rfl, rfl, rfl, by decide +kernel, rfl, by decide +kernel, by decide +kernel⟩
theorem ok_mixed (F : Fun K "_law_mixed" "_law_mixed" sMixed f fd) (GD : FnOk P w K mg base CX0 1 fD fdD ["_law_stream", "_law_many"] spDraw) (mD : mg "_law_draw" = some (.ref fD)) (kD : PySem.W.keepIn K (.ref fD) = true) (bD : L2.Binds K fdD ["_law_stream", "_law_many"] []) (ml : mg "len" = none) (mr : mg "range" = none) (mli : mg "list" = none) :
    FnOk P w K mg base CX0 2 f fd ["_law_stream", "_law_things"] (spMixed K) := by
  refine F.ok scMixed (fun vs H Q E h => ?_) (fun cdv A outer s H vs Q E hr h => ?_)
  · obtain ⟨S, L, T, b, xs, c, rfl, _⟩ := h
    rfl
  · obtain ⟨S, L, T, b, xs, c, rfl, hT, hx, hc, hS, k⟩ := h
    refine ⟨_, pss_cons (ps_set (i := 2) scMixed.nd rfl (.inr rfl) (pe_callTy call_list_of (by rfl) mli (by decide +kernel) (pa_cons (pv 1) pa_nil)))
      (pss_one (ps_ret (pe_lc (own := [("_law_k", 3)]) (g := gName 3) (tt := tYes) rfl scMixed.nd (pi_range1 (by rfl) mr (pa_cons (pe_callB call_len (by rfl) ml PySem.boot_len (pa_cons (pv 2) pa_nil)) pa_nil)) (blkOk_by (N := nMixed) (sc := defScope sMixed) (by decide +kernel))
          (fun _ _ _ _ _ => pg_name (i := 3) scMixed.nd rfl (.inl rfl)) (fun _ _ _ _ _ => pts_nil)
          (fun _ _ _ _ _ => show PE _ _ (tBM K _ _ _ _) from pe_bm PySem.F.plainAttrs_list PySem.F.slot_list_pop PySem.F.type_list_pop mt_popAt (pv 2) (pa_cons (pe_call GD hr (by rfl) mD kD bD .nil pass0 (pa_cons (pv 0) (pa_cons (pe_callB (len_k (Kf := K)) (by rfl) ml PySem.boot_len (pa_cons (pv 2) pa_nil)) pa_nil))) pa_nil))))), ?_⟩
    refine ⟨_, rfl, T, xs, rfl, hT.any, fun l hl => ?_⟩
    have lS := hS.off hl
    refine ⟨_, rfl, _, xs.length, rfl, .inl ⟨xs, SqL.of upd_same, rfl⟩, _, rfl, by omega, by omega, fun D hD => lc_range (lo := 0) (n := xs.length) (fun i H2 => ∃ acc rest : List V, (acc ++ rest).Perm xs ∧ acc.length = i ∧ H2 l = some (.lst rest) ∧ H2 D = some (.lst acc) ∧ StreamAt H2 S L (c + i) ∧ Kept S L H H2) ?_ ?_ ?_⟩
    · have nD : l ≠ D := ne_of_none upd_same hD
      exact ⟨[], xs, .refl _, rfl, (upd_ne nD).trans upd_same, upd_same, (hS.new hl).new hD, ((Kept.refl H).new hl).new ((Kept.none ((Kept.refl H).new hl) hD ((hS.new hl).off hD).1 ((hS.new hl).off hD).2))⟩
    · rintro i H2 hi ⟨acc, rest, hp, ha, hl2, hD2, hS2, hk2⟩
      have len : acc.length + rest.length = xs.length := by rw [← List.length_append]; exact hp.length_eq
      have nD : D ≠ S ∧ D ≠ L := (hS.new hl).off hD
      refine ⟨rfl, _, rfl, .inl ⟨rfl, _, SqL.of hl2⟩, _, rfl, _, rfl, _, rest.length, rfl, .inl ⟨rest, SqL.of hl2, rfl⟩, S, L, _, _, rfl, by omega, by omega, by omega, hS2, fun r H3 r0 r1 hS3 hk3 => ?_⟩
      have hl3 := hk3 _ _ hl2 lS.1 lS.2
      have hD3 := hk3 _ _ hD2 nD.1 nD.2
      obtain ⟨v, e1, e2⟩ := at_in r0 r1
      have lt : r.toNat < rest.length := (List.getElem?_eq_some_iff.mp e1).1
      have nlD : D ≠ l := (ne_of_none (show upd H l (.lst xs) l = some (.lst xs) from upd_same) hD).symm
      refine ⟨l, rest, r, r.toNat, v, rfl, rfl, hl3, by omega, by omega, ?_, e1, acc, (upd_ne nlD).trans hD3, by rw [sizeLine_eq]; omega, acc ++ [v], rest.eraseIdx r.toNat, ?_, by rw [List.length_append, ha]; rfl, ?_, upd_same, ?_, ?_⟩
      · exact seq_at r0 r1
      · have z := perm_erase rest r.toNat v e1
        rw [List.append_assoc]
        exact ((List.perm_append_left_iff acc).mpr z).trans hp
      · exact (upd_ne nlD.symm).trans upd_same
      · have z := (hS3.put (o := .lst (rest.eraseIdx r.toNat)) lS.1 lS.2).put (o := .lst (acc ++ [v])) nD.1 nD.2
        exact z
      · exact fun b u e n1 n2 => (upd_ne (ne_of_none ((upd_ne (ne_of_none e hl)).trans e) hD)).trans ((upd_ne (ne_of_none e hl)).trans (hk3 b u (hk2 b u e n1 n2) n1 n2))
    · rintro H2 ⟨acc, rest, hp, ha, hl2, hD2, hS2, hk2⟩
      have len : acc.length + rest.length = xs.length := by rw [← List.length_append]; exact hp.length_eq
      obtain rfl : rest = [] := List.eq_nil_of_length_eq_zero (by omega)
      rw [List.append_nil] at hp
      exact k acc D H2 hp (Kept.none ((Kept.refl H).new hl) hD ((hS.new hl).off hD).1 ((hS.new hl).off hD).2) hD2 hS2 hk2
end
end K6
namespace K6
open PySem PySem.Spec PyProof.Rows L2 LamX NdefX EV
/-! ### names -/
/-- one to eight small letters -/
def Name1 (z : Str) : Prop := 1 ≤ z.length ∧ z.length ≤ 8 ∧ ∀ ch ∈ z.cps.toList, 97 ≤ ch ∧ ch ≤ 122
theorem join_nil : ∀ l : List Nat, TL.joinL [] (l.map fun c => [c]) = l
  | [] => rfl
  | [_] => rfl
  | a :: b :: r => by
    have z := join_nil (b :: r)
    show [a] ++ ([] ++ TL.joinL [] ((b :: r).map fun c => [c])) = a :: b :: r
    rw [z]
    rfl
def signs (l : List Nat) : List Str := l.map fun c => ⟨#[c]⟩
theorem len_signs : ∀ l : List Nat, ((signs l).map (·.length)).sum = l.length
  | [] => rfl
  | a :: r => by
    have z := len_signs r
    show 1 + ((signs r).map (·.length)).sum = r.length + 1
    rw [z]
    omega
theorem join_signs (l : List Nat) : (Txt.join (Str.ofString "") (signs l)).cps.toList = l := by
  rw [TL.join_eq]
  have z := TL.tl_join (Str.ofString "") (signs l)
  have e : (signs l).map TL.tl = l.map fun c => [c] := by
    unfold signs
    rw [List.map_map]
    rfl
  rw [e] at z
  exact z.trans (join_nil l)
theorem nodup_le {α : Type} [DecidableEq α] : ∀ (xs ys : List α), xs.Nodup → (∀ x ∈ xs, x ∈ ys) → xs.length ≤ ys.length
  | [], ys, _, _ => Nat.zero_le _
  | x :: r, ys, nd, sub => by
    have nd' := List.nodup_cons.mp nd
    have z := nodup_le r (ys.erase x) nd'.2 fun y hy => (List.mem_erase_of_ne (fun e : y = x => nd'.1 (e ▸ hy))).mpr (sub y (List.mem_cons_of_mem _ hy))
    rw [List.length_erase_of_mem (sub x List.mem_cons_self)] at z
    have pos : 0 < ys.length := List.length_pos_of_mem (sub x List.mem_cons_self)
    show r.length + 1 ≤ _
    omega
theorem inV_str (z : Str) : ∀ ns : List Str, inV (.str z) (ns.map V.str) = decide (z ∈ ns)
  | [] => by simp [inV]
  | n :: r => by
    have h := inV_str z r
    unfold inV at h ⊢
    rw [List.map_cons, List.any_cons, h]
    show ((n == z) || decide (z ∈ r)) = decide (z ∈ n :: r)
    by_cases e : n = z
    · subst e; simp
    · rw [beq_eq_false_iff_ne.mpr e]
      have e2 : z ≠ n := fun q => e q.symm
      simp [e2]
theorem flat_str (ns : List Str) : (ns.map V.str).all flatV = true := by
  rw [List.all_map]
  exact List.all_eq_true.mpr fun _ _ => rfl
def letters : Str := Str.ofString "abcdefghijklmnopqrstuvwxyz"
def words : List Str := ["sign", "helper", "clause", "dead", "forced", "all", "found"]
theorem words_good : ∀ z ∈ words, Name1 z := by
  have all : ∀ z ∈ words, 1 ≤ z.length ∧ z.length ≤ 8 ∧ ∀ ch ∈ z.cps.toList, 97 ≤ ch ∧ ch ≤ 122 := by decide +kernel
  exact all
theorem letter_at : ∀ i < 26, letters.cps.toList[i]? = some (97 + i) := by decide +kernel
def spare (j : Nat) : Str := (Str.ofString "q" ++ ⟨#[97 + j / 26]⟩) ++ ⟨#[97 + j % 26]⟩
theorem spare_list (j : Nat) : (spare j).cps.toList = [113, 97 + j / 26, 97 + j % 26] := rfl
theorem spare_good {j : Nat} (h : j < 676) : Name1 (spare j) := by
  refine ⟨by show 1 ≤ 3; decide, by show 3 ≤ 8; decide, fun ch hc => ?_⟩
  rw [spare_list] at hc
  have h2 : j / 26 < 26 := by omega
  have h3 : j % 26 < 26 := by omega
  simp only [List.mem_cons, List.not_mem_nil, or_false] at hc
  omega
theorem spare_inj {i j : Nat} (h : spare i = spare j) : i = j := by
  have z := congrArg (fun s : Str => s.cps.toList) h
  replace z : [113, 97 + i / 26, 97 + i % 26] = [113, 97 + j / 26, 97 + j % 26] := z
  injection z with _ z
  injection z with z1 z
  injection z with z2 _
  omega
theorem spare_free {ns : List Str} (small : ns.length ≤ 600) (all : ∀ j < 676, spare j ∈ ns) : False := by
  have nd : ((List.range 676).map spare).Nodup := List.nodup_range.map spare fun i j ne e => ne (spare_inj e)
  have z := nodup_le _ ns nd fun x hx => by
    obtain ⟨j, hj, rfl⟩ := List.mem_map.mp hx
    exact all j (List.mem_range.mp hj)
  rw [List.length_map, List.length_range] at z
  omega
def spFresh (K : PySem.W.Frag) : Sp := fun vs H Q _ => ∃ (S L T : Addr) (ns : List Str) (c : Nat), vs = [.ref S, .ref T] ∧ SqL K H T (ns.map V.str) ∧ (∀ H', Kept S L H H' → SqL K H' T (ns.map V.str)) ∧ ns.length ≤ 600 ∧ c ≤ 90000 ∧ StreamAt H S L c ∧
  ∀ (z : Str) (c' : Nat) (H' : Hp), c' ≤ c + 11 → Name1 z → z ∉ ns → StreamAt H' S L c' → Kept S L H H' → Q (.str z) H'
section
variable {P : Program} {w : World} {K : PySem.W.Frag} {mg : Str → Option Value} {base : Heap} {f fD fP : Addr} {fd fdD fdP : FuncData}
abbrev nFresh : List Str := ["_law_stream", "_law_taken", "_law_letters", "_law_words", "_law_k", "_law_name", "_law_spare"]
theorem scFresh : FnScope nFresh ["_law_stream", "_law_taken"] (defScope sFresh) := ⟨rfl, rfl, rfl, by decide +kernel, rfl, by decide +kernel, by decide +kernel⟩
theorem ok_fresh (F : Fun K "_law_fresh" "_law_fresh" sFresh f fd) (GD : FnOk P w K mg base CX0 1 fD fdD ["_law_stream", "_law_many"] spDraw) (mD : mg "_law_draw" = some (.ref fD)) (kD : PySem.W.keepIn K (.ref fD) = true) (bD : L2.Binds K fdD ["_law_stream", "_law_many"] [])
    (GL : FnOk P w K mg base CX0 2 fP fdP ["_law_stream", "_law_things"] (spPickL K)) (mP : mg "_law_pick" = some (.ref fP)) (kP : PySem.W.keepIn K (.ref fP) = true) (bP : L2.Binds K fdP ["_law_stream", "_law_things"] []) (mr : mg "range" = none) (mi : mg "int" = none) :
    FnOk P w K mg base CX0 3 f fd ["_law_stream", "_law_taken"] (spFresh K) := by
  refine F.ok scFresh (fun vs H Q E h => ?_) (fun cdv A outer s H vs Q E hr h => ?_)
  · obtain ⟨S, L, T, ns, c, rfl, _⟩ := h
    rfl
  · obtain ⟨S, L, T, ns, c, rfl, hT, hT', hn, hc, hS, k⟩ := h
    have hr1 : Room 1 _ := hr.mono (by decide)
    have rest : ∃ tt, PSs (cxOf CX0 P w K mg base nFresh "_law_fresh" (defScope sFresh) f cdv A outer s H E).nox ((defBody sFresh).drop 3) tt ∧
        ∀ (z : Str) (c' : Nat) (H1 : Hp) (W : Addr) (o4 : Option V), c' ≤ c + 11 → Name1 z → StreamAt H1 S L c' → Kept S L H H1 → tt { nx := fun _ H' => Q .non H', rt := Q } [some (.ref S), some (.ref T), some (.str letters), some (.ref W), o4, some (.str z), none] H1 := by
      refine ⟨_, pss_cons (ps_for PassesOwn.never rfl (pi_range1 (by rfl) mr (pa_cons (pe_op op_mul pe_int (pe_callTy call_int1 (by rfl) mi (by decide +kernel) (pa_cons (pe_cmpR op_in_seq (pv 5) (pv 1) rfl) pa_nil))) pa_nil)) (pg_name (i := 4) scFresh.nd rfl (.inl rfl))
        (pss_cons (ps_set (i := 6) scFresh.nd rfl (.inl rfl) (pe_op op_add_str (pe_op op_add_str pe_str (pe_ix ix_seq (pv 2) (pe_op op_fdiv (pv 4) pe_int) (fun _ _ => rfl))) (pe_ix ix_seq (pv 2) (pe_op op_mod (pv 4) pe_int) (fun _ _ => rfl))))
        (pss_one (ps_if (pt_cmpR op_notIn_seq (pv 6) (pv 1) rfl) (pss_one (ps_ret (pv 6))) pss_nil))))
        (pss_one (ps_ret (pv 5))), fun z c' H1 W o4 hc' good hS1 hk1 => ?_⟩
      have hT1 := hT' H1 hk1
      refine ⟨_, rfl, _, rfl, T, _, rfl, .inl hT1, rfl, flat_str ns, .inr ⟨_, rfl, ?_⟩⟩
      rw [inV_str]
      by_cases hz : z ∈ ns
      · rw [decide_eq_true hz]
        refine ⟨_, _, rfl, rfl, .inl ⟨by decide, by decide⟩, _, rfl, by decide, by decide, ?_⟩
        refine for_range (lo := 0) (n := 676) (fun i σ H2 => H2 = H1 ∧ (∀ j < i, spare j ∈ ns) ∧ ∃ o4 o6, σ = [some (.ref S), some (.ref T), some (.str letters), some (.ref W), o4, some (.str z), o6]) ⟨rfl, fun j hj => absurd hj (Nat.not_lt_zero j), _, _, rfl⟩ ?_ ?_
        · rintro i σ H2 hi ⟨rfl, hj, _, _, rfl⟩
          have h26 : (26 : Int) ≠ 0 := by decide
          have a1 : (0 + (i : Int)) / 26 = ((i / 26 : Nat) : Int) := by omega
          have a2 : (0 + (i : Int)) % 26 = ((i % 26 : Nat) : Int) := by omega
          have b1 : i / 26 < 26 := by omega
          have b2 : i % 26 < 26 := by omega
          have len : letters.length ≤ sizeLine := by show 26 ≤ sizeLine; decide
          refine ⟨_, rfl, _, rfl, _, _, rfl, rfl, ⟨by decide, by decide⟩, ?_⟩
          refine .inr (.inr ⟨letters, _, 97 + i / 26, rfl, rfl, len, by rw [a1]; exact atI_nat (letter_at _ b1), ?_⟩)
          refine ⟨_, _, rfl, rfl, by show 1 + 1 ≤ sizeLine; decide, _, rfl, _, rfl, _, _, rfl, rfl, by show (0 : Int) < 26; decide, ?_⟩
          refine .inr (.inr ⟨letters, _, 97 + i % 26, rfl, rfl, len, by rw [a2]; exact atI_nat (letter_at _ b2), ?_⟩)
          refine ⟨_, _, rfl, rfl, by show 2 + 1 ≤ sizeLine; decide, _, rfl, _, rfl, T, _, rfl, .inl hT1, rfl, flat_str ns, _, rfl, ?_⟩
          rw [if_pos rfl, inV_str]
          by_cases hs : spare i ∈ ns
          · have e : decide ((Str.ofString "q" ++ (⟨#[97 + i / 26]⟩ : Str)) ++ (⟨#[97 + i % 26]⟩ : Str) ∈ ns) = true := decide_eq_true hs
            rw [e]
            refine iteF ⟨rfl, fun j hj' => ?_, _, _, rfl⟩
            rcases Nat.lt_succ_iff_lt_or_eq.mp hj' with q | q
            · exact hj j q
            · exact q ▸ hs
          · have e : decide ((Str.ofString "q" ++ (⟨#[97 + i / 26]⟩ : Str)) ++ (⟨#[97 + i % 26]⟩ : Str) ∈ ns) = false := decide_eq_false hs
            rw [e]
            exact iteT ⟨_, rfl, k (spare i) c' _ hc' (spare_good hi) hs hS1 hk1⟩
        · rintro σ H2 ⟨rfl, hj, _⟩
          exact (spare_free hn hj).elim
      · rw [decide_eq_false hz]
        refine ⟨_, _, rfl, rfl, .inl ⟨by decide, by decide⟩, _, rfl, by decide, by decide, ?_⟩
        refine for_range (lo := 0) (n := 0) (fun i σ H2 => H2 = H1 ∧ ∃ o4 o6, σ = [some (.ref S), some (.ref T), some (.str letters), some (.ref W), o4, some (.str z), o6]) ⟨rfl, _, _, rfl⟩ (fun i _ _ hi _ => absurd hi (Nat.not_lt_zero i)) ?_
        rintro σ H2 ⟨rfl, _, _, rfl⟩
        exact ⟨_, rfl, k z c' _ hc' good hz hS1 hk1⟩
    obtain ⟨tt, htt, hrest⟩ := rest
    refine ⟨_, pss_cons (ps_asg (pe_tup (pa_cons pe_str (pa_cons (pe_lst (pa_cons pe_str (pa_cons pe_str (pa_cons pe_str (pa_cons pe_str (pa_cons pe_str (pa_cons pe_str (pa_cons pe_str pa_nil)))))))) pa_nil))) (pg_tup rfl (pgs_cons (pg_name (i := 2) scFresh.nd rfl (.inr rfl)) (pgs_cons (pg_name (i := 3) scFresh.nd rfl (.inl rfl)) pgs_nil))))
      (pss_cons (ps_set (i := 5) scFresh.nd rfl (.inl rfl) (pe_join pe_str (pe_lc (own := [("_law_k", 4)]) (g := gName 4) (tt := tYes) rfl scFresh.nd (pi_range1 (by rfl) mr (pa_cons (pe_ix ix_list (pe_lst (pa_cons pe_int (pa_cons pe_int (pa_cons pe_int (pa_cons pe_int (pa_cons pe_int (pa_cons pe_int pa_nil))))))) (pe_call GD hr1 (by rfl) mD kD bD .nil pass0 (pa_cons (pv 0) (pa_cons pe_int pa_nil))) (fun _ _ => rfl)) pa_nil)) (blkOk_by (N := nFresh) (sc := defScope sFresh) (by decide +kernel))
          (fun _ _ _ _ _ => pg_name (i := 4) scFresh.nd rfl (.inl rfl)) (fun _ _ _ _ _ => pts_nil) (fun _ _ _ _ _ => show PE _ _ (tOp (rIx K) _ _) from pe_ix ix_seq (pv 2) (pe_call GD hr1 (by rfl) mD kD bD .nil pass0 (pa_cons (pv 0) (pa_cons pe_int pa_nil))) (fun _ _ => rfl)))))
      (pss_cons (ps_set (i := 5) scFresh.nd rfl (.inl rfl) (pe_ifExp (pt_cmpR op_eq (pe_call GD hr1 (by rfl) mD kD bD .nil pass0 (pa_cons (pv 0) (pa_cons pe_int pa_nil))) pe_int (nomark _)) (pe_call GL hr (by rfl) mP kP bP .nil pass0 (pa_cons (pv 0) (pa_cons (pv 3) pa_nil))) (pv 5)))
      htt)), ?_⟩
    refine ⟨(by show 7 ≤ sizeLine; decide), fun W hW => ⟨(by show 2 ≤ sizeLine; decide), fun t ht => ⟨t, _, rfl, SqT.of upd_same, rfl, _, _, rfl, _, _, rfl, rfl, ?_⟩⟩⟩
    have offW := hS.off hW
    have hS1 := hS.new (o := .lst (words.map V.str)) hW
    have offt := hS1.off ht
    have hS2 := hS1.new (o := .tup [.str letters, .ref W]) ht
    refine ⟨⟨_, rfl⟩, (by show 6 ≤ sizeLine; decide), fun l hl => ⟨_, rfl, S, L, 6, c, rfl, by decide, by decide, by omega, hS2.new hl, fun r H1 r0 r1 hS3 hk1 => ?_⟩⟩
    have offl := hS2.off hl
    have six : ∃ n : Nat, atI [V.int 1, V.int 1, V.int 1, V.int 2, V.int 3, V.int 8] r = some (.int (n : Int)) ∧ 1 ≤ n ∧ n ≤ 8 := by
      have hh : r = 0 ∨ r = 1 ∨ r = 2 ∨ r = 3 ∨ r = 4 ∨ r = 5 := by omega
      rcases hh with rfl | rfl | rfl | rfl | rfl | rfl
      · exact ⟨1, rfl, by decide, by decide⟩
      · exact ⟨1, rfl, by decide, by decide⟩
      · exact ⟨1, rfl, by decide, by decide⟩
      · exact ⟨2, rfl, by decide, by decide⟩
      · exact ⟨3, rfl, by decide, by decide⟩
      · exact ⟨8, rfl, by decide, by decide⟩
    obtain ⟨n, hn6, n0, n8⟩ := six
    have hl1 := hk1 _ _ upd_same offl.1 offl.2
    refine ⟨l, _, r, _, rfl, rfl, SqL.of hl1, hn6, _, rfl, by omega, by omega, fun D hD => lc_range (lo := 0) (n := n) (fun i H2 => ∃ cs : List Nat, cs.length = i ∧ (∀ ch ∈ cs, 97 ≤ ch ∧ ch ≤ 122) ∧ H2 D = some (.lst ((K6.signs cs).map V.str)) ∧ StreamAt H2 S L (c + 1 + i) ∧ Kept S L H1 H2)
      ⟨[], rfl, fun _ h => (nomatch h), upd_same, hS3.new hD, (Kept.refl H1).new hD⟩ ?_ ?_⟩
    · rintro i H2 hi ⟨cs, hcs, hch, hD2, hS4, hk2⟩
      have offD := hS3.off hD
      refine ⟨rfl, _, rfl, _, rfl, S, L, 26, _, rfl, by decide, by decide, by omega, hS4, fun q H3 q0 q1 hS5 hk3 => .inr (.inr ⟨letters, q, 97 + q.toNat, rfl, rfl, by show 26 ≤ sizeLine; decide, ?_, _, hk3 _ _ hD2 offD.1 offD.2, ?_, cs ++ [97 + q.toNat], ?_, ?_, ?_, hS5.put offD.1 offD.2, ?_⟩)⟩
      · have z := atI_nat (letter_at q.toNat (by omega))
        rwa [Int.toNat_of_nonneg q0] at z
      · rw [List.length_map]
        unfold K6.signs
        rw [List.length_map, sizeLine_eq]
        omega
      · rw [List.length_append, hcs]
        rfl
      · intro x hx
        rcases List.mem_append.mp hx with z | z
        · exact hch x z
        · rw [List.mem_singleton.mp z]
          omega
      · rw [upd_same]
        unfold K6.signs
        rw [List.map_append, List.map_append]
        rfl
      · exact fun b o e n1 n2 => (upd_ne (ne_of_none e hD)).trans (hk3 b o (hk2 b o e n1 n2) n1 n2)
    · rintro H2 ⟨cs, hcs, hch, hD2, hS4, hk2⟩
      refine ⟨_, D, K6.signs cs, rfl, rfl, .inl (SqL.of hD2), ?_, ?_⟩
      · rw [len_signs, hcs]
        show n + (K6.signs cs).length * 0 ≤ 16777216
        omega
      have good : Name1 (Txt.join (Str.ofString "") (K6.signs cs)) := by
        have e := join_signs cs
        have el : (Txt.join (Str.ofString "") (K6.signs cs)).length = n := by
          show (Txt.join (Str.ofString "") (K6.signs cs)).cps.size = n
          rw [← Array.length_toList, e, hcs]
        exact ⟨by omega, by omega, fun ch h => hch ch (e ▸ h)⟩
      have same3 : Kept S L H H2 := ((((Kept.refl H).new hW).trans ((Kept.refl _).new ht)).trans ((Kept.refl _).new hl)).trans (hk1.trans hk2)
      have hWs : ∀ H', Kept S L H2 H' → H' W = some (.lst (words.map V.str)) := fun H' hk' => hk' _ _ (hk2 _ _ (hk1 _ _ ((upd_ne (ne_of_none (show upd (upd H W (.lst (words.map V.str))) t _ W = some (.lst (words.map V.str)) from (upd_ne (ne_of_none upd_same ht)).trans upd_same) hl)).trans ((upd_ne (ne_of_none upd_same ht)).trans upd_same)) offW.1 offW.2) offW.1 offW.2) offW.1 offW.2
      refine ⟨_, rfl, S, L, 9, _, rfl, by decide, by decide, by omega, hS4, fun q H3 q0 q1 hS5 hk3 => ⟨rfl, _, rfl, ?_⟩⟩
      refine ite2 (fun _ => ?_) (fun _ => ?_)
      · refine ⟨_, rfl, _, rfl, S, L, W, words.map V.str, _, rfl, SqL.of (hWs H3 hk3), fun H' hk' => SqL.of (hWs H' (hk3.trans hk')), by decide, by decide, by omega, hS5, fun i v H4 hi hS6 hk4 => ?_⟩
        obtain ⟨z, hz, rfl⟩ : ∃ z ∈ words, v = .str z := by
          obtain ⟨z, h1, h2⟩ := List.mem_map.mp (List.mem_of_getElem? hi)
          exact ⟨z, h1, h2.symm⟩
        exact hrest z _ H4 W _ (by omega) (words_good z hz) hS6 ((same3.trans hk3).trans hk4)
      · exact ⟨_, rfl, hrest _ _ H3 W _ (by omega) good hS5 (same3.trans hk3)⟩
end
end K6
namespace K6
open PySem PySem.Spec PyProof.Rows L2 LamX NdefX EV
def spNames : Sp := fun vs H Q _ => ∃ (S L : Addr) (m c : Nat), vs = [.ref S, .int (m : Int)] ∧ m ≤ 60 ∧ c ≤ 80000 ∧ StreamAt H S L c ∧
  ∀ (ns : List Str) (p : Addr) (c' : Nat) (H' : Hp), ns.length = m → ns.Nodup → (∀ z ∈ ns, Name1 z) → H p = none → H' p = some (.lst (ns.map V.str)) → c' ≤ c + 11 * m → StreamAt H' S L c' → Kept S L H H' → Q (.ref p) H'
section
variable {P : Program} {w : World} {K : PySem.W.Frag} {mg : Str → Option Value} {base : Heap} {f fD fF : Addr} {fd fdD fdF : FuncData}
abbrev nNames : List Str := ["_law_stream", "_law_many", "_law_found", "_law_k"]
theorem scNames : FnScope nNames ["_law_stream", "_law_many"] (defScope sNames) := ⟨rfl, rfl, rfl, by decide +kernel, rfl, by decide +kernel, by decide +kernel⟩
theorem ok_names (F : Fun K "_law_names" "_law_names" sNames f fd) (GF : FnOk P w K mg base CX0 3 fF fdF ["_law_stream", "_law_taken"] (spFresh K)) (mF : mg "_law_fresh" = some (.ref fF)) (kF : PySem.W.keepIn K (.ref fF) = true) (bF : L2.Binds K fdF ["_law_stream", "_law_taken"] []) (mr : mg "range" = none) :
    FnOk P w K mg base CX0 4 f fd ["_law_stream", "_law_many"] spNames := by
  refine F.ok scNames (fun vs H Q E h => ?_) (fun cdv A outer s H vs Q E hr h => ?_)
  · obtain ⟨S, L, m, c, rfl, _⟩ := h
    rfl
  · obtain ⟨S, L, m, c, rfl, hm, hc, hS, k⟩ := h
    refine ⟨_, pss_cons (ps_set (i := 2) scNames.nd rfl (.inl rfl) (pe_lst pa_nil))
      (pss_cons (ps_for PassesOwn.never rfl (pi_range1 (by rfl) mr (pa_cons (pv 1) pa_nil)) (pg_name (i := 3) scNames.nd rfl (.inl rfl))
        (pss_one (ps_expr (pe_bm PySem.F.plainAttrs_list PySem.F.slot_list_append PySem.F.type_list_append mt_append (pv 2) (pa_cons (pe_call GF hr (by rfl) mF kF bF .nil pass0 (pa_cons (pv 0) (pa_cons (pv 2) pa_nil))) pa_nil)))))
      (pss_one (ps_ret (pv 2)))), ?_⟩
    refine ⟨by show 0 ≤ sizeLine; exact Nat.zero_le _, fun p hp => ⟨_, rfl, _, rfl, by omega, by omega, for_range (lo := 0) (n := m) (fun i σ H2 => ∃ (ns : List Str) (c' : Nat) (o3 : Option V), σ = [some (.ref S), some (.int (m : Int)), some (.ref p), o3] ∧ ns.length = i ∧ ns.Nodup ∧ (∀ z ∈ ns, Name1 z) ∧ H2 p = some (.lst (ns.map V.str)) ∧ c' ≤ c + 11 * i ∧ StreamAt H2 S L c' ∧ Kept S L H H2)
      ⟨[], c, _, rfl, rfl, List.nodup_nil, (fun _ h => nomatch h), upd_same, by omega, hS.new hp, (Kept.refl H).new hp⟩ ?_ ?_⟩⟩
    · rintro i σ H2 hi ⟨ns, c', o3, rfl, hl, nd, good, hp2, hc', hS2, hk2⟩
      have off := hS.off hp
      refine ⟨_, rfl, .inl ⟨rfl, _, SqL.of hp2⟩, _, rfl, _, rfl, S, L, p, ns, c', rfl, SqL.of hp2, fun H' hk' => SqL.of (hk' _ _ hp2 off.1 off.2), by omega, by omega, hS2, fun z c2 H3 hc2 hz hn hS3 hk3 => ?_⟩
      have hp3 := hk3 _ _ hp2 off.1 off.2
      refine ⟨p, _, _, rfl, rfl, hp3, by rw [List.length_map, sizeLine_eq]; omega, ns ++ [z], c2, _, rfl, by rw [List.length_append, hl]; rfl, ?_, ?_, ?_, by omega, hS3.put off.1 off.2, ?_⟩
      · exact List.nodup_append.mpr ⟨nd, List.nodup_cons.mpr ⟨fun h => (nomatch h), List.nodup_nil⟩, fun a ha b hb e => hn (by rw [← List.mem_singleton.mp hb, ← e]; exact ha)⟩
      · intro y hy
        rcases List.mem_append.mp hy with q | q
        · exact good y q
        · exact List.mem_singleton.mp q ▸ hz
      · rw [upd_same, List.map_append]
        rfl
      · exact fun b o e n1 n2 => (upd_ne (ne_of_none e hp)).trans (hk3 b o (hk2 b o e n1 n2) n1 n2)
    · rintro σ H2 ⟨ns, c', o3, rfl, hl, nd, good, hp2, hc', hS2, hk2⟩
      exact ⟨_, rfl, k ns p c' H2 hl nd good hp hp2 hc' hS2 hk2⟩
end
theorem same_new {H : Hp} {p : Addr} {o : HO} (h : H p = none) : Same H (upd H p o) := fun _ _ e => (upd_ne (ne_of_none e h)).trans e
/-! ### literals, ascending -/
def neg (n : Str) : Str := Str.ofString "-" ++ n
def lits (ns : List Str) : List Str := ns.flatMap fun n => [n, neg n]
def asc (ns some : List Str) : List Str := (lits ns).filter fun l => decide (l ∈ some)
theorem neg_list (n : Str) : (neg n).cps.toList = 45 :: n.cps.toList := by
  show (#[45] ++ n.cps).toList = _
  rw [Array.toList_append]
  rfl
theorem neg_len (n : Str) : (neg n).length = n.length + 1 := by
  show (neg n).cps.size = n.cps.size + 1
  rw [← Array.length_toList, neg_list, List.length_cons, Array.length_toList]
theorem lits_len (ns : List Str) : (lits ns).length = 2 * ns.length := by
  unfold lits
  induction ns with
  | nil => rfl
  | cons n r ih => rw [List.flatMap_cons, List.length_append, ih]; show 2 + 2 * r.length = 2 * (r.length + 1); omega
theorem asc_len (ns some : List Str) : (asc ns some).length ≤ 2 * ns.length := Nat.le_trans (List.length_filter_le ..) (Nat.le_of_eq (lits_len ns))
def spUp (K : PySem.W.Frag) : Sp := fun vs H Q _ => ∃ (A B : Addr) (b : Bool) (ss ns : List Str), vs = [.ref A, .ref B] ∧ Sq K b H A (ss.map V.str) ∧ (∀ H', Same H H' → Sq K b H' A (ss.map V.str)) ∧ SqL K H B (ns.map V.str) ∧ (∀ H', Same H H' → SqL K H' B (ns.map V.str)) ∧ ns.length ≤ 60 ∧ (∀ z ∈ ns, z.length ≤ 8) ∧
  ∀ (p : Addr) (H' : Hp), H p = none → H' p = some (.tup ((asc ns ss).map V.str)) → Same H H' → Q (.ref p) H'
section
variable {P : Program} {w : World} {K : PySem.W.Frag} {mg : Str → Option Value} {base : Heap} {f : Addr} {fd : FuncData}
abbrev nUp : List Str := ["_law_some", "_law_names_here", "_law_found", "_law_name", "_law_one"]
theorem scUp : FnScope nUp ["_law_some", "_law_names_here"] (defScope sUp) := ⟨rfl, rfl, rfl, by decide +kernel, rfl, by decide +kernel, by decide +kernel⟩
theorem ok_up (F : Fun K "_law_up" "_law_up" sUp f fd) (mt : mg "tuple" = none) : FnOk P w K mg base CX0 1 f fd ["_law_some", "_law_names_here"] (spUp K) := by
  refine F.ok scUp (fun vs H Q E h => ?_) (fun cdv A outer s H vs Q E hr h => ?_)
  · obtain ⟨A, B, b, ss, ns, rfl, _⟩ := h
    rfl
  · obtain ⟨A, B, b, ss, ns, rfl, hA, hA', hB, hB', hn, h8, k⟩ := h
    refine ⟨_, pss_cons (ps_set (i := 2) scUp.nd rfl (.inl rfl) (pe_lst pa_nil))
      (pss_cons (ps_for PassesOwn.never rfl (pi_list (pv 1)) (pg_name (i := 3) scUp.nd rfl (.inl rfl))
        (pss_one (ps_expr (pe_bm PySem.F.plainAttrs_list PySem.F.slot_list_extend PySem.F.type_list_extend mt_extend (pv 2) (pa_cons (pe_lc (own := [("_law_one", 4)]) (g := gName 4) rfl scUp.nd (pi_tup (pe_tup (pa_cons (pv 3) (pa_cons (pe_op op_add_str pe_str (pv 3)) pa_nil)))) (blkOk_by (N := nUp) (sc := defScope sUp) (by decide +kernel))
          (fun _ _ _ _ _ => pg_name (i := 4) scUp.nd rfl (.inl rfl)) (fun _ _ _ _ _ => pts_one (show PT _ _ (tTest (tOp (rIn K false) _ _)) from pt_cmpR op_in_seq (pv 4) (pv 0) rfl)) (fun _ _ _ _ _ => pv 4)) pa_nil)))))
      (pss_one (ps_ret (pe_tupleOf (by rfl) mt (pv 2))))), ?_⟩
    refine ⟨by show 0 ≤ sizeLine; exact Nat.zero_le _, fun p hp => ⟨_, rfl, B, rfl, ⟨_, hB' _ (same_new hp)⟩, for_list (K := K) (a := B) (xs := ns.map V.str) (fun i σ H2 => ∃ (o3 o4 : Option V), σ = [some (.ref A), some (.ref B), some (.ref p), o3, o4] ∧ Same H H2 ∧ H2 p = some (.lst ((asc (ns.take i) ss).map V.str)))
      ⟨_, _, rfl, same_new hp, upd_same⟩ (fun i σ H2 hi ⟨_, _, _, sm, _⟩ => hB' _ sm) ?_ ?_⟩⟩
    · rintro i x σ H2 hx ⟨o3, o4, rfl, sm, hp2⟩
      obtain ⟨n, hn', rfl⟩ : ∃ n, ns[i]? = some n ∧ x = .str n := by
        rw [List.getElem?_map] at hx
        cases e : ns[i]? with
        | none => rw [e] at hx; cases hx
        | some n => rw [e] at hx; exact ⟨n, rfl, (Option.some.inj hx).symm⟩
      have n8 := h8 n (List.mem_of_getElem? hn')
      have ilt : i < ns.length := (List.getElem?_eq_some_iff.mp hn').1
      refine ⟨_, rfl, .inl ⟨rfl, _, SqL.of hp2⟩, _, rfl, _, rfl, _, _, rfl, rfl, ?_, by show 2 ≤ sizeLine; decide, fun t ht => ⟨t, rfl, ⟨_, SqT.of upd_same⟩, fun D hD => lc_tup (K := K) (a := t) (xs := [.str n, .str (neg n)]) (fun j H3 => Same (upd H2 t (.tup [.str n, .str (neg n)])) H3 ∧ H3 D = some (.lst (([n, neg n].take j).filter (fun l => decide (l ∈ ss)) |>.map V.str)))
        ⟨same_new hD, upd_same⟩ (fun j H3 _ hh => SqT.of (hh.1 _ _ upd_same)) ?_ ?_⟩⟩
      · show 1 + n.length ≤ sizeLine
        rw [sizeLine_eq]; omega
      · rintro j y H3 hy ⟨sm3, hD3⟩
        obtain ⟨l, hl, rfl⟩ : ∃ l, [n, neg n][j]? = some l ∧ y = .str l := by
          match j, hy with
          | 0, hy => exact ⟨n, rfl, (Option.some.inj hy).symm⟩
          | 1, hy => exact ⟨neg n, rfl, (Option.some.inj hy).symm⟩
          | j + 2, hy => simp at hy
        have sm2 : Same H H3 := (sm.trans (same_new ht)).trans sm3
        have e : [n, neg n].take (j + 1) = [n, neg n].take j ++ [l] := by rw [List.take_succ, hl]; rfl
        refine ⟨rfl, _, rfl, _, rfl, A, _, rfl, (hA' _ sm2).any, rfl, flat_str ss, _, rfl, ?_⟩
        rw [if_neg (by decide), inV_str]
        by_cases q : l ∈ ss
        · rw [decide_eq_true q]
          refine iteT ⟨_, rfl, _, hD3, ?_, fun b o h => (upd_ne (ne_of_none h hD)).trans (sm3 b o h), ?_⟩
          · rw [List.length_map, sizeLine_eq]
            have l3 : (([n, neg n].take j).filter fun l => decide (l ∈ ss)).length ≤ ([n, neg n].take j).length := List.length_filter_le _ _
            have l4 := List.length_take_le' j [n, neg n]
            have l5 : [n, neg n].length = 2 := rfl
            omega
          · rw [upd_same, e, List.filter_append, List.map_append]
            simp [q]
        · rw [decide_eq_false q]
          refine iteF ⟨sm3, ?_⟩
          rw [hD3, e, List.filter_append, List.map_append]
          simp [q]
      · rintro H3 ⟨sm3, hD3⟩
        have sm2 : Same H H3 := (sm.trans (same_new ht)).trans sm3
        have np : p ≠ D := ne_of_none (show upd H2 t (.tup [.str n, .str (neg n)]) p = some _ from (upd_ne (ne_of_none hp2 ht)).trans hp2) hD
        refine ⟨p, D, _, _, rfl, rfl, sm3 _ _ ((upd_ne (ne_of_none hp2 ht)).trans hp2), hD3, ?_, _, _, rfl, fun b o e => (upd_ne (ne_of_none e hp)).trans (sm2 b o e), ?_⟩
        · rw [List.length_map, List.length_map, sizeLine_eq]
          have l1 := asc_len (ns.take i) ss
          have l2 := List.length_take_le i ns
          have l3 : ((([n, neg n].take 2).filter fun l => decide (l ∈ ss))).length ≤ 2 := List.length_filter_le _ _
          have l4 : (List.map V.str [n, neg n]).length = 2 := rfl
          show _ + ((([n, neg n].take 2).filter fun l => decide (l ∈ ss))).length ≤ _
          omega
        · rw [upd_same]
          have e : ns.take (i + 1) = ns.take i ++ [n] := by rw [List.take_succ, hn']; rfl
          unfold asc lits
          rw [e, List.flatMap_append, List.filter_append, List.map_append]
          simp
    · rintro σ H2 ⟨o3, o4, rfl, sm, hp2⟩
      refine ⟨_, rfl, .inl ⟨p, _, rfl, SqL.of hp2, fun q hq => ?_⟩⟩
      rw [List.length_map, List.take_length]
      exact k q _ (sm.free hq) upd_same (sm.trans (same_new hq))
end
end K6
namespace K6
open PySem PySem.Spec PyProof.Rows L2 LamX NdefX EV
/-- a literal: a name, or its other side -/
def lit (q : Bool × Str) : Str := if q.1 = true then neg q.2 else q.2
/-- literals of distinct names of these -/
structure Lits (ns : List Str) (qs : List (Bool × Str)) : Prop where
  nd : (qs.map Prod.snd).Nodup
  sub : ∀ q ∈ qs, q.2 ∈ ns
theorem Kept.add {S L p : Addr} {H H' : Hp} {o : HO} (k : Kept S L H H') (h : H' p = Option.none) (off : p ≠ S ∧ p ≠ L) : Kept S L H (upd H' p o) := k.new (k.none h off.1 off.2)
theorem empty_add (n : Str) : Str.ofString "" ++ n = n := by
  obtain ⟨c⟩ := n
  show Str.mk (#[] ++ c) = _
  rw [Array.empty_append]
theorem unmap_str : ∀ (ys : List V) (xs : List Str), ys.Perm (xs.map V.str) → ∃ ms : List Str, ys = ms.map V.str ∧ ms.Perm xs := by
  intro ys xs h
  let un : V → Str := fun v => match v with | .str z => z | _ => Str.ofString ""
  have all : ∀ y ∈ ys, V.str (un y) = y := fun y hy => by
    obtain ⟨z, _, rfl⟩ := List.mem_map.mp (h.mem_iff.mp hy)
    rfl
  refine ⟨ys.map un, ?_, ?_⟩
  · rw [List.map_map]
    exact ((List.map_congr_left (f := V.str ∘ un) (g := id) all).trans (List.map_id ys)).symm
  · have z := h.map un
    rw [List.map_map] at z
    have e : xs.map (un ∘ V.str) = xs := (List.map_congr_left (g := id) fun _ _ => rfl).trans (List.map_id xs)
    rwa [e] at z
theorem dp_strs {K : PySem.W.Frag} {H : Hp} : ∀ ns : List Str, DpAll K H (ns.map V.str) (ns.map PyData.str)
  | [] => .nil
  | n :: r => .cons (.str n) (dp_strs r)
/-- a text of code points that are few enough -/
def Fit (z : Str) : Prop := ∀ ch ∈ z.cps.toList, ch < 128
theorem Fit.ok {z : Str} (h : Fit z) : PyData.strOk z = true := by
  show z.cps.all (fun c => decide (c < 0x110000)) = true
  rw [← Array.all_toList]
  exact List.all_eq_true.mpr fun c hc => decide_eq_true (Nat.lt_trans (h c hc) (by decide))
theorem Name1.fit {z : Str} (h : Name1 z) : Fit z := fun ch hc => Nat.lt_of_le_of_lt (h.2.2 ch hc).2 (by decide)
theorem Fit.neg {z : Str} (h : Fit z) : Fit (neg z) := fun ch hc => by
  rw [neg_list] at hc
  rcases List.mem_cons.mp hc with rfl | q
  · decide
  · exact h ch q
theorem Fit.lit {q : Bool × Str} (h : Fit q.2) : Fit (lit q) := by
  unfold K6.lit
  split
  · exact h.neg
  · exact h
theorem lay_strs : ∀ ns : List Str, (∀ z ∈ ns, Fit z) → PyData.canLayAll0 (ns.map PyData.str) = true ∧ PyData.depthAll (ns.map PyData.str) ≤ 2
  | [], _ => ⟨rfl, Nat.zero_le _⟩
  | n :: r, f => by
    obtain ⟨h1, h2⟩ := lay_strs r fun z h => f z (List.mem_cons_of_mem _ h)
    have h0 := (f n List.mem_cons_self).ok
    refine ⟨?_, ?_⟩
    · simp only [List.map_cons, PyData.canLayAll0, PyData.canLay0, h1, h0, Bool.and_self]
    · simp only [List.map_cons, PyData.depthAll, PyData.depth]
      omega
theorem shaped_strs (ns : List Str) (f : ∀ z ∈ ns, Fit z) : SeqAt.shaped (.list (ns.map PyData.str)) = true := by
  obtain ⟨h1, h2⟩ := lay_strs ns f
  refine Bool.and_eq_true_iff.mpr ⟨?_, decide_eq_true ?_⟩
  · simp only [PyData.canLay0, h1]
  · simp only [PyData.depth]
    omega
theorem eqv_nilS : ∀ ns : List Str, PyData.eqv (.list (ns.map PyData.str)) (.list []) = decide (ns = [])
  | [] => rfl
  | n :: r => by simp [PyData.eqv, PyData.eqvAll]
theorem cutV_take (xs : List V) (k : Nat) : cutV xs none (some (k : Int)) = xs.take k := by
  unfold cutV
  rw [HT.sIx_none, HT.sIx_nat, List.drop_zero, Nat.sub_zero]
  by_cases h : k ≤ xs.length
  · rw [Nat.min_eq_left h]
  · rw [Nat.min_eq_right (by omega), List.take_of_length_le (Nat.le_refl _), List.take_of_length_le (by omega)]
theorem cutV_drop (xs : List V) (k : Nat) : cutV xs (some (k : Int)) none = xs.drop k := by
  unfold cutV
  rw [HT.sIx_none, HT.sIx_nat]
  by_cases h : k ≤ xs.length
  · rw [Nat.min_eq_left h, List.take_of_length_le (by rw [List.length_drop]; exact Nat.le_refl _)]
  · rw [Nat.min_eq_right (by omega), Nat.sub_self, List.take_zero, List.drop_eq_nil_of_le (by omega)]
section
variable {P : Program} {w : World} {K : PySem.W.Frag} {mg : Str → Option Value} {base : Heap} {f fD fM fS : Addr} {fd fdD fdM fdS : FuncData}
end
end K6
namespace K6
open PySem PySem.Spec PyProof.Rows L2 LamX NdefX EV
theorem hu65 {A : Around} {k : Nat} (hr : Room k A) : A.units + 65 < cLine := by
  have := hr.un
  omega
/-! ### rows: tuples of texts that stand in the heap -/
def TupAt (H : Hp) (t : Addr) (r : List Str) : Prop := H t = some (.tup (r.map V.str))
abbrev RowsAt (H : Hp) : List Addr → List (List Str) → Prop := Paired (TupAt H)
theorem RowsAt.same {H H' : Hp} (sm : Same H H') {ts : List Addr} {rs : List (List Str)} (h : RowsAt H ts rs) : RowsAt H' ts rs := by
  induction h with
  | nil => exact .nil
  | cons a _ ih => exact .cons (sm _ _ a) ih
theorem RowsAt.get {H : Hp} : ∀ {ts : List Addr} {rs : List (List Str)}, RowsAt H ts rs → ∀ (i : Nat) (t : Addr), ts[i]? = some t → ∃ r, rs[i]? = some r ∧ TupAt H t r
  | _, _, .nil, i, t, h => by simp at h
  | _, _, .cons a _, 0, t, h => ⟨_, rfl, by simp at h; exact h ▸ a⟩
  | _, _, .cons _ q, i + 1, t, h => by simpa using RowsAt.get q i t (by simpa using h)
theorem RowsAt.put {H : Hp} {p : Addr} {xs : List V} {o : HO} (hp : H p = some (.lst xs)) {ts : List Addr} {rs : List (List Str)} (h : RowsAt H ts rs) : RowsAt (upd H p o) ts rs := by
  induction h with
  | nil => exact .nil
  | cons a _ ih => exact .cons ((upd_ne (ne_of a hp fun z => nomatch z)).trans a) ih
theorem RowsAt.lift {K : PySem.W.Frag} {H : Hp} : ∀ {ts : List Addr} {rs : List (List Str)}, RowsAt H ts rs → DpAll K H (ts.map V.ref) (rs.map fun r => PyData.tuple (r.map PyData.str))
  | _, _, .nil => .nil
  | _, _, .cons a q => .cons (.tup (SqT.of a) (dp_strs _)) (RowsAt.lift q)
theorem lay_rows : ∀ rs : List (List Str), (∀ r ∈ rs, ∀ z ∈ r, Fit z) → PyData.canLayAll0 (rs.map fun r => PyData.tuple (r.map PyData.str)) = true ∧ PyData.depthAll (rs.map fun r => PyData.tuple (r.map PyData.str)) ≤ 5
  | [], _ => ⟨rfl, Nat.zero_le _⟩
  | r :: rs, f => by
    obtain ⟨h1, h2⟩ := lay_rows rs fun r h => f r (List.mem_cons_of_mem _ h)
    obtain ⟨h3, h4⟩ := lay_strs r (f r List.mem_cons_self)
    refine ⟨?_, ?_⟩
    · simp only [List.map_cons, PyData.canLayAll0, PyData.canLay0, h1, h3, Bool.and_self]
    · simp only [List.map_cons, PyData.depthAll, PyData.depth]
      omega
theorem shaped_row (r : List Str) (f : ∀ z ∈ r, Fit z) : SeqAt.shaped (.tuple (r.map PyData.str)) = true := by
  obtain ⟨h1, h2⟩ := lay_strs r f
  refine Bool.and_eq_true_iff.mpr ⟨?_, decide_eq_true ?_⟩
  · simp only [PyData.canLay0, h1]
  · simp only [PyData.depth]
    omega
theorem shaped_rows (rs : List (List Str)) (f : ∀ r ∈ rs, ∀ z ∈ r, Fit z) : SeqAt.shaped (.list (rs.map fun r => PyData.tuple (r.map PyData.str))) = true := by
  obtain ⟨h1, h2⟩ := lay_rows rs f
  refine Bool.and_eq_true_iff.mpr ⟨?_, decide_eq_true ?_⟩
  · simp only [PyData.canLay0, h1]
  · simp only [PyData.depth]
    omega
theorem eqvAll_strs : ∀ a b : List Str, PyData.eqvAll (a.map PyData.str) (b.map PyData.str) = decide (a = b)
  | [], [] => rfl
  | [], _ :: _ => by simp [PyData.eqvAll]
  | _ :: _, [] => by simp [PyData.eqvAll]
  | x :: a, y :: b => by
    have h := eqvAll_strs a b
    simp only [List.map_cons, PyData.eqvAll, PyData.eqv, h]
    by_cases e : x = y
    · subst e; simp
    · simp [e]
theorem eqv_row (a b : List Str) : PyData.eqv (.tuple (a.map PyData.str)) (.tuple (b.map PyData.str)) = decide (a = b) := by
  rw [PyData.eqv]
  exact eqvAll_strs a b
theorem any_rows (r : List Str) : ∀ rs : List (List Str), ((rs.map fun r => PyData.tuple (r.map PyData.str)).any fun z => PyData.eqv z (.tuple (r.map PyData.str))) = decide (r ∈ rs)
  | [] => by simp
  | x :: rs => by
    rw [List.map_cons, List.any_cons, any_rows r rs, eqv_row]
    by_cases e : x = r
    · subst e; simp
    · have e2 : r ≠ x := fun q => e q.symm
      simp [e, e2]
theorem lits_fit {ns : List Str} (f : ∀ z ∈ ns, Fit z) : ∀ l ∈ lits ns, Fit l := fun l h => by
  obtain ⟨n, hn, hl⟩ := List.mem_flatMap.mp h
  rcases List.mem_cons.mp hl with rfl | hl
  · exact f _ hn
  · exact List.mem_singleton.mp hl ▸ (f n hn).neg
theorem asc_fit {ns ls : List Str} (f : ∀ z ∈ ns, Fit z) : ∀ l ∈ asc ns ls, Fit l := fun l h => lits_fit f l ((List.mem_filter.mp h).1)
section
variable {P : Program} {w : World} {K : PySem.W.Frag} {mg : Str → Option Value} {base : Heap} {f fU : Addr} {fd fdU : FuncData}
theorem get_map {α β : Type} {g : α → β} {xs : List α} {i : Nat} {y : β} (h : (xs.map g)[i]? = some y) : ∃ x, xs[i]? = some x ∧ y = g x := by
  rw [List.getElem?_map] at h
  cases e : xs[i]? with
  | none => rw [e] at h; cases h
  | some x => rw [e] at h; exact ⟨x, rfl, (Option.some.inj h).symm⟩
theorem paired_get {α β : Type} {R : α → β → Prop} : ∀ {xs : List α} {ys : List β}, Paired R xs ys → ∀ (i : Nat) (x : α), xs[i]? = some x → ∃ y, ys[i]? = some y ∧ R x y
  | _, _, .nil, i, x, h => by simp at h
  | _, _, .cons a _, 0, x, h => ⟨_, rfl, by simp at h; exact h ▸ a⟩
  | _, _, .cons _ q, i + 1, x, h => by simpa using paired_get q i x (by simpa using h)
end
end K6
namespace K6
open PySem PySem.Spec PyProof.Rows L2 LamX NdefX EV
/-- a row of a code: the ascending literals of a clause over these names -/
def RowOf (ns r : List Str) : Prop := ∃ qs, Lits ns qs ∧ r = asc ns (qs.map lit)
section
variable {P : Program} {w : World} {K : PySem.W.Frag} {mg : Str → Option Value} {base : Heap} {f fD fN fC fO : Addr} {fd fdD fdN fdC fdO : FuncData}
end
end K6
namespace K6
open PySem PySem.Spec PyProof.Rows L2 LamX NdefX EV
/-! ### the program: names and literals -/
theorem in_letters {ch : Nat} (h : 97 ≤ ch ∧ ch ≤ 122) : ch ∈ letters.cps.toList := by
  have z := letter_at (ch - 97) (by omega)
  have e : 97 + (ch - 97) = ch := by omega
  rw [e] at z
  exact List.mem_of_getElem? z
def spIsName : Sp := fun vs H Q _ => ∃ z : Str, vs = [.str z] ∧ Name1 z ∧ ∀ H', Same H H' → Q (.bl true) H'
section
variable {P : Program} {w : World} {K : PySem.W.Frag} {mg : Str → Option Value} {base : Heap} {f fI : Addr} {fd fdI : FuncData}
abbrev nIsName : List Str := ["thing", "letter"]
theorem scIsName : FnScope nIsName ["thing"] (defScope sIsName) := ⟨rfl, rfl, rfl, by decide +kernel, rfl, by decide +kernel, by decide +kernel⟩
theorem ok_isName (F : Fun K "is_name" "is_name" sIsName f fd) (mi : mg "isinstance" = none) (ms : mg "str" = none) (ml : mg "len" = none) (ma : mg "all" = none) (mL : ∃ t, mg "LETTERS" = some (.str letters t)) (mM : ∃ t, mg "MOST_LETTERS" = some (.int 8 t)) :
    FnOk P w K mg base CX0 1 f fd ["thing"] spIsName := by
  obtain ⟨tL, mL⟩ := mL
  obtain ⟨tM, mM⟩ := mM
  refine F.ok scIsName (fun vs H Q E h => ?_) (fun cdv A outer s H vs Q E hr h => ?_)
  · obtain ⟨z, rfl, _⟩ := h
    rfl
  · obtain ⟨z, rfl, good, k⟩ := h
    refine ⟨_, pss_cons (ps_if (PW.pt (pw_or (pt_not (pt_val (pe_callB call_isi (by rfl) mi (by decide +kernel) (pa_cons (pv 0) (pa_cons (pe_bltn (v := .ty "str") (by rfl) ms (by decide +kernel) rfl) pa_nil))))) (pw_or1 (pt_not (pt_chain op_le op_le pe_int (pe_callB call_len (by rfl) ml PySem.boot_len (pa_cons (pv 0) pa_nil)) (pe_glob (v := .int 8) (by rfl) mM ⟨_, rfl⟩))))))
        (pss_one (ps_ret pe_bl)) pss_nil)
      (pss_one (ps_ret (pe_callB (cr_all rfl) (by rfl) ma (by decide +kernel) (pa_cons (pe_lc (own := [("letter", 1)]) (g := gName 1) (tt := tYes) rfl scIsName.nd (pi_str (pv 0)) (blkOk_by (N := nIsName) (sc := defScope sIsName) (by decide +kernel))
          (fun _ _ _ _ _ => pg_name (i := 1) scIsName.nd rfl (.inl rfl)) (fun _ _ _ _ _ => pts_nil) (fun _ _ _ _ _ => pe_cmpR op_in_sign (pv 1) (pe_glob (v := .str letters) (by rfl) mL ⟨_, rfl⟩) rfl)) pa_nil)))), ?_⟩
    have g1 := good.1
    have g2 := good.2.1
    have lz : z.length ≤ sizeLine := by rw [sizeLine_eq]; omega
    refine ⟨_, rfl, _, _, _, _, true, rfl, .ty "str", .base (.str z), kit_ty (by decide +kernel), _, rfl, ?_⟩
    refine iteF ⟨_, rfl, _, z.length, rfl, ⟨lz, rfl⟩, ?_⟩
    refine ⟨_, _, rfl, rfl, _, rfl, ?_⟩
    have d1 : decide ((1 : Int) ≤ ((z.length : Nat) : Int)) = true := decide_eq_true (by omega)
    have d2 : decide (((z.length : Nat) : Int) ≤ 8) = true := decide_eq_true (by omega)
    rw [d1]
    refine iteT ⟨_, _, rfl, rfl, _, rfl, ?_⟩
    rw [d2]
    refine iteF ⟨_, rfl, z, rfl, fun D hD => lc_it walk_str (fun i H2 => Same H H2 ∧ H2 D = some (.lst ((List.replicate i true).map V.bl))) ⟨same_new hD, upd_same⟩ (fun _ _ _ _ => trivial) ?_ ?_⟩
    · rintro i x H2 H3 hi ⟨sm, hD2⟩ ⟨rfl, ch, hch, rfl⟩
      have mem : ch ∈ z.cps.toList := List.mem_of_getElem? (by rw [Array.getElem?_toList]; exact hch)
      have zl : z.cps.size = z.length := rfl
      refine ⟨rfl, _, rfl, ch, letters, rfl, rfl, _, hD2, by rw [List.length_map, List.length_replicate, sizeLine_eq]; omega, fun b o e => (upd_ne (ne_of_none e hD)).trans (sm b o e), ?_⟩
      rw [upd_same, decide_eq_true (in_letters (good.2.2 ch mem)), List.replicate_succ', List.map_append]
      rfl
    · rintro H2 ⟨sm, hD2⟩
      refine ⟨D, _, rfl, SqL.of hD2, ?_⟩
      have e : (List.replicate z.cps.size true).all id = true := List.all_eq_true.mpr fun x hx => (List.mem_replicate.mp hx).2
      rw [e]
      exact k H2 sm
end
end K6
namespace K6
open PySem PySem.Spec PyProof.Rows L2 LamX NdefX EV
/-- a comprehension of two fors over any walks: the outer one, and the inner one within a turn of it -/
theorem lc2_it {J : It} {n : Nat} {G : Hp → Prop} {Y : Nat → Hp → V → Hp → Prop} (w : Walk J n G Y) {D : Addr} {H1 : Hp} {Qd : Hp → Prop} {T : (Hp → Prop) → V → Hp → Prop} (Pv : Nat → Hp → Prop) (start : Pv 0 (upd H1 D (.lst []))) (stay : ∀ i H, i ≤ n → Pv i H → G H)
    (turn : ∀ i x H H', i < n → Pv i H → Y i H x H' → T (Pv (i + 1)) x H') (fin : ∀ H, Pv n H → Qd H) :
    ∃ W : Nat → Nat → Hp → Prop, (∃ m, W 0 m (upd H1 D (.lst []))) ∧ ∀ i m H, W i m H → (J.stop i H ∧ Qd H) ∨ (J.go i H ∧ ∃ Nx : Hp → Prop, (∀ H', Nx H' → ∃ m', m' < m ∧ W (i + 1) m' H') ∧ ∀ x H', J.yld i H x H' → T Nx x H') := by
  refine ⟨fun i m H => i + m = n ∧ Pv i H, ⟨n, Nat.zero_add n, start⟩, fun i m H st => ?_⟩
  obtain ⟨sum, pv⟩ := st
  have g := stay i H (by omega) pv
  match m, sum with
  | 0, sum =>
    obtain rfl : i = n := sum
    exact .inl ⟨w.stops H g, fin H pv⟩
  | m + 1, sum => exact .inr ⟨w.goes i H (by omega) g, Pv (i + 1), fun H3 p3 => ⟨m, Nat.lt_succ_self m, by omega, p3⟩, fun x H3 y => turn i x H H3 (by omega) pv (w.yields i H x H3 (by omega) g y)⟩
theorem in_it {J : It} {n : Nat} {G : Hp → Prop} {Y : Nat → Hp → V → Hp → Prop} (w : Walk J n G Y) {H1 : Hp} {Nx : Hp → Prop} {T : (Hp → Prop) → V → Hp → Prop} (Pv : Nat → Hp → Prop) (start : Pv 0 H1) (stay : ∀ i H, i ≤ n → Pv i H → G H)
    (turn : ∀ i x H H', i < n → Pv i H → Y i H x H' → T (Pv (i + 1)) x H') (fin : ∀ H, Pv n H → Nx H) :
    ∃ W : Nat → Nat → Hp → Prop, (∃ m, W 0 m H1) ∧ ∀ i m H, W i m H → (J.stop i H ∧ Nx H) ∨ (J.go i H ∧ ∃ Nx1 : Hp → Prop, (∀ H', Nx1 H' → ∃ m', m' < m ∧ W (i + 1) m' H') ∧ ∀ x H', J.yld i H x H' → T Nx1 x H') := by
  refine ⟨fun i m H => i + m = n ∧ Pv i H, ⟨n, Nat.zero_add n, start⟩, fun i m H st => ?_⟩
  obtain ⟨sum, pv⟩ := st
  have g := stay i H (by omega) pv
  match m, sum with
  | 0, sum =>
    obtain rfl : i = n := sum
    exact .inl ⟨w.stops H g, fin H pv⟩
  | m + 1, sum => exact .inr ⟨w.goes i H (by omega) g, Pv (i + 1), fun H3 p3 => ⟨m, Nat.lt_succ_self m, by omega, p3⟩, fun x H3 y => turn i x H H3 (by omega) pv (w.yields i H x H3 (by omega) g y)⟩
/-! ### a literal's name -/
theorem starts_iff (x y : Str) : Txt.startswith x y = true ↔ StrLaws.At x y x.length 0 := by
  unfold Txt.startswith StrLaws.At
  simp
theorem starts_neg (n : Str) : Txt.startswith (neg n) (Str.ofString "-") = true := by
  refine (starts_iff _ _).mpr ((TL.at_iff (y := Str.ofString "-") (fun h => nomatch h) 0).mpr ?_)
  show TL.pre [45] ((neg n).cps.toList.drop 0) = true
  rw [neg_list]
  rfl
theorem starts_name {n : Str} (h : Name1 n) : Txt.startswith n (Str.ofString "-") = false := by
  cases e : Txt.startswith n (Str.ofString "-") with
  | false => rfl
  | true =>
    have z := (TL.at_iff (y := Str.ofString "-") (fun h => nomatch h) 0).mp ((starts_iff _ _).mp e)
    replace z : TL.pre [45] (n.cps.toList.drop 0) = true := z
    rw [List.drop_zero] at z
    cases q : n.cps.toList with
    | nil => rw [q] at z; cases z
    | cons c r =>
      rw [q] at z
      have hc := h.2.2 c (by rw [q]; exact List.mem_cons_self)
      have e45 : c = 45 := by simpa [TL.pre] using z
      omega
theorem cut_neg (n : Str) : cutS (neg n) (some 1) none = n := by
  obtain ⟨cs⟩ := n
  unfold cutS
  rw [HT.sIx_none, show HT.sIx (neg ⟨cs⟩).length 0 (some 1) = min 1 (neg ⟨cs⟩).length from HT.sIx_nat _ _ 1, neg_list, neg_len, Nat.min_eq_left (by omega)]
  show Str.mk ((cs.toList.take _).toArray) = _
  rw [List.take_of_length_le (by rw [Array.length_toList]; exact Nat.le_of_eq rfl), Array.toArray_toList]
def spNameOf : Sp := fun vs H Q _ => ∃ q : Bool × Str, vs = [.str (lit q)] ∧ Name1 q.2 ∧ Q (.str q.2) H
def spLits (K : PySem.W.Frag) : Sp := fun vs H Q _ => ∃ (T : Addr) (b : Bool) (ns : List Str), vs = [.ref T] ∧ Sq K b H T (ns.map V.str) ∧ (∀ H', Same H H' → Sq K b H' T (ns.map V.str)) ∧ ns.length ≤ 60 ∧ (∀ z ∈ ns, z.length ≤ 8) ∧
  ∀ (p : Addr) (H' : Hp), H p = none → H' p = some (.lst ((lits ns).map V.str)) → Same H H' → Q (.ref p) H'
section
variable {P : Program} {w : World} {K : PySem.W.Frag} {mg : Str → Option Value} {base : Heap} {f fI : Addr} {fd fdI : FuncData}
theorem scNameOf : FnScope ["literal"] ["literal"] (defScope sNameOf) := ⟨rfl, rfl, rfl, by decide +kernel, rfl, by decide +kernel, by decide +kernel⟩
theorem ok_nameOf (F : Fun K "name_of" "name_of" sNameOf f fd) : FnOk P w K mg base CX0 1 f fd ["literal"] spNameOf := by
  refine F.ok scNameOf (fun vs H Q E h => ?_) (fun cdv A outer s H vs Q E hr h => ?_)
  · obtain ⟨q, rfl, _⟩ := h
    rfl
  · obtain ⟨⟨b, n⟩, rfl, good, k⟩ := h
    have n8 := good.2.1
    replace n8 : n.length ≤ 8 := n8
    refine ⟨_, pss_cons (ps_if (pt_val (pe_m1 PySem.F.slot_str_startswith PySem.F.type_str_startswith mt_startswith (pv 0) pe_str)) (pss_one (ps_ret (pe_slice sl_str (pv 0) (po_some pe_int) po_none))) pss_nil) (pss_one (ps_ret (pv 0))), ?_⟩
    refine ⟨_, rfl, ⟨_, rfl⟩, _, _, rfl, rfl, _, rfl, ?_⟩
    cases b
    · rw [show Txt.startswith (lit (false, n)) (Str.ofString "-") = false from starts_name good]
      exact iteF ⟨_, rfl, k⟩
    · rw [show Txt.startswith (lit (true, n)) (Str.ofString "-") = true from starts_neg n]
      refine iteT ⟨_, rfl, _, rfl, lit (true, n), rfl, ?_, ?_⟩
      · show (neg n).length ≤ sizeLine
        rw [neg_len, sizeLine_eq]
        omega
      · rw [show cutS (lit (true, n)) (some 1) none = n from cut_neg n]
        exact k
abbrev nLits : List Str := ["names", "name", "literal"]
theorem scLits : FnScope nLits ["names"] (defScope sLits) := ⟨rfl, rfl, rfl, by decide +kernel, rfl, by decide +kernel, by decide +kernel⟩
theorem ok_lits (F : Fun K "literals_of" "literals_of" sLits f fd) : FnOk P w K mg base CX0 1 f fd ["names"] (spLits K) := by
  refine F.ok scLits (fun vs H Q E h => ?_) (fun cdv A outer s H vs Q E hr h => ?_)
  · obtain ⟨T, b, ns, rfl, _⟩ := h
    rfl
  · obtain ⟨T, b, ns, rfl, hT, hT', hn, h8, k⟩ := h
    refine ⟨_, pss_one (ps_ret (pe_lc2 (own := [("name", 1), ("literal", 2)]) (vs1 := [2]) (g := gName 1) (tt := tYes) (g1 := gName 2) (tt1 := tYes) rfl scLits.nd (pi_seq (pv 0)) (blkOk_by (N := nLits) (sc := defScope sLits) (by decide +kernel)) (by decide)
          (fun _ _ _ _ _ => pg_name (i := 1) scLits.nd rfl (.inl rfl)) (fun _ _ _ _ _ => pts_nil) (fun _ _ _ _ _ => show PI _ _ _ (iTup K _) from pi_tup (pe_tup (pa_cons (pv 1) (pa_cons (pe_op op_add_str pe_str (pv 1)) pa_nil)))) (fun _ _ _ _ _ => pg_name (i := 2) scLits.nd rfl (.inl rfl)) (fun _ _ _ _ _ => pts_nil) (fun _ _ _ _ _ => pv 2))), ?_⟩
    refine ⟨_, rfl, b, T, _, rfl, hT, fun D hD => lc2_it walk_sq (fun i H2 => Same H H2 ∧ H2 D = some (.lst ((lits (ns.take i)).map V.str))) ⟨same_new hD, upd_same⟩ (fun i H2 _ hh => hT' _ hh.1) ?_ ?_⟩
    · rintro i x H2 H3 hi ⟨sm, hD2⟩ ⟨rfl, hx⟩
      obtain ⟨n, hn', rfl⟩ := get_map hx
      have n8 := h8 n (List.mem_of_getElem? hn')
      have e : ns.take (i + 1) = ns.take i ++ [n] := by rw [List.take_succ, hn']; rfl
      have lt : (lits (ns.take i)).length ≤ 120 := by
        rw [lits_len]
        have := List.length_take_le i ns
        have := List.length_take_le' i ns
        omega
      refine ⟨rfl, _, rfl, _, rfl, _, _, rfl, rfl, by show 1 + n.length ≤ sizeLine; rw [sizeLine_eq]; omega, by show 2 ≤ sizeLine; decide, fun t ht => ⟨t, rfl, ⟨_, SqT.of upd_same⟩, in_it (walk_tup (xs := [V.str n, V.str (neg n)])) (fun j H4 => Same H H4 ∧ H4 t = some (.tup [.str n, .str (neg n)]) ∧ H4 D = some (.lst ((lits (ns.take i) ++ [n, neg n].take j).map V.str))) ?_ (fun j H4 _ hh => ?_) ?_ ?_⟩⟩
      · refine ⟨sm.trans (same_new ht), upd_same, ?_⟩
        rw [List.take_zero, List.append_nil]
        exact (upd_ne (ne_of_none hD2 ht)).trans hD2
      · exact SqT.of hh.2.1
      · rintro j y H4 H5 hj ⟨sm4, ht4, hD4⟩ ⟨rfl, hy⟩
        obtain ⟨l, hl, rfl⟩ := get_map (g := V.str) (xs := [n, neg n]) hy
        have e2 : [n, neg n].take (j + 1) = [n, neg n].take j ++ [l] := by rw [List.take_succ, hl]; rfl
        refine ⟨rfl, _, rfl, _, hD4, ?_, fun b o h => (upd_ne (ne_of_none h hD)).trans (sm4 b o h), (upd_ne (ne_of ht4 hD4 fun z => nomatch z)).trans ht4, ?_⟩
        · rw [List.length_map, List.length_append, sizeLine_eq]
          have := List.length_take_le' j [n, neg n]
          have l5 : [n, neg n].length = 2 := rfl
          omega
        · rw [upd_same, e2, ← List.append_assoc, List.map_append (l₁ := _ ++ _)]
          rfl
      · rintro H4 ⟨sm4, _, hD4⟩
        refine ⟨sm4, ?_⟩
        rw [hD4, e]
        unfold lits
        rw [List.flatMap_append]
        rfl
    · rintro H2 ⟨sm, hD2⟩
      rw [List.length_map, List.take_length] at hD2
      exact k D H2 hD hD2 sm
end
end K6
namespace K6
open PySem PySem.Spec PyProof.Rows L2 LamX NdefX EV
/-! ### places -/
theorem neg_inj {m n : Str} (h : neg m = neg n) : m = n := by
  have z := congrArg (fun s : Str => s.cps.toList) h
  replace z : (neg m).cps.toList = (neg n).cps.toList := z
  rw [neg_list, neg_list] at z
  injection z with _ z
  obtain ⟨a⟩ := m
  obtain ⟨b⟩ := n
  rw [show a = b from Array.toList_inj.mp z]
theorem name_neg {m n : Str} (h : Name1 m) (e : m = neg n) : False := by
  have z := h.2.2 45 (by rw [e, neg_list]; exact List.mem_cons_self)
  omega
theorem lits_nodup : ∀ ns : List Str, ns.Nodup → (∀ z ∈ ns, Name1 z) → (lits ns).Nodup
  | [], _, _ => List.nodup_nil
  | n :: r, nd, good => by
    have nd' := List.nodup_cons.mp nd
    have gn := good n List.mem_cons_self
    have gr : ∀ z ∈ r, Name1 z := fun z h => good z (List.mem_cons_of_mem _ h)
    have ih := lits_nodup r nd'.2 gr
    have h1 : n ∉ lits r := fun h => by
      obtain ⟨m, hm, hl⟩ := List.mem_flatMap.mp h
      rcases List.mem_cons.mp hl with q | q
      · exact nd'.1 (q ▸ hm)
      · exact name_neg gn (List.mem_singleton.mp q)
    have h2 : neg n ∉ lits r := fun h => by
      obtain ⟨m, hm, hl⟩ := List.mem_flatMap.mp h
      rcases List.mem_cons.mp hl with q | q
      · exact name_neg (gr m hm) q.symm
      · exact nd'.1 (neg_inj (List.mem_singleton.mp q) ▸ hm)
    show (n :: neg n :: lits r).Nodup
    refine List.nodup_cons.mpr ⟨fun h => ?_, List.nodup_cons.mpr ⟨h2, ih⟩⟩
    rcases List.mem_cons.mp h with q | q
    · exact name_neg gn q
    · exact h1 q
/-- each text with its place, from k on -/
def plcF : Nat → List Str → List (Key × V)
  | _, [] => []
  | k, l :: r => (Sum.inr l, .int (k : Int)) :: plcF (k + 1) r
theorem plcF_snoc (l : Str) : ∀ (xs : List Str) (k : Nat), plcF k (xs ++ [l]) = plcF k xs ++ [(Sum.inr l, .int ((k + xs.length : Nat) : Int))]
  | [], k => rfl
  | x :: r, k => by
    show (Sum.inr x, V.int k) :: plcF (k + 1) (r ++ [l]) = _
    rw [plcF_snoc l r (k + 1), show k + 1 + r.length = k + (x :: r).length by rw [List.length_cons]; omega]
    rfl
theorem plcF_len : ∀ (xs : List Str) (k : Nat), (plcF k xs).length = xs.length
  | [], _ => rfl
  | x :: r, k => congrArg (· + 1) (plcF_len r (k + 1))
theorem plcF_at {l : Str} : ∀ (xs : List Str) (k i : Nat), xs.Nodup → xs[i]? = some l → valV (plcF k xs) (Sum.inr l) = some (.int ((k + i : Nat) : Int))
  | [], _, i, _, h => by simp at h
  | x :: r, k, 0, _, h => by
    obtain rfl : x = l := by simpa using h
    exact valV_pos rfl
  | x :: r, k, i + 1, nd, h => by
    have nd' := List.nodup_cons.mp nd
    have h' : r[i]? = some l := by simpa using h
    have ne : ¬ (Sum.inr x : Key) = Sum.inr l := fun e => by
      injection e with e
      exact nd'.1 (e ▸ List.mem_of_getElem? h')
    show valV ((Sum.inr x, V.int k) :: plcF (k + 1) r) _ = _
    rw [valV_neg ne, plcF_at r (k + 1) i nd'.2 h', show k + 1 + i = k + (i + 1) by omega]
theorem plcF_none {l : Str} : ∀ (xs : List Str) (k : Nat), l ∉ xs → valV (plcF k xs) (Sum.inr l) = none
  | [], _, _ => rfl
  | x :: r, k, h => by
    have ne : ¬ (Sum.inr x : Key) = Sum.inr l := fun e => by
      injection e with e
      exact h (e ▸ List.mem_cons_self)
    show valV ((Sum.inr x, V.int k) :: plcF (k + 1) r) _ = _
    rw [valV_neg ne]
    exact plcF_none r (k + 1) fun q => h (List.mem_cons_of_mem _ q)
theorem putK_new {κ : Type} [DecidableEq κ] {kvs : List (κ × V)} {k : κ} {v : V} (h : valV kvs k = none) : putK kvs k v = kvs ++ [(k, v)] := by
  unfold putK
  rw [valV_any, h]
  rfl
abbrev plc (ns : List Str) : List (Key × V) := plcF 0 (lits ns)
def spPlaces (K : PySem.W.Frag) : Sp := fun vs H Q _ => ∃ (T : Addr) (b : Bool) (ns : List Str), vs = [.ref T] ∧ Sq K b H T (ns.map V.str) ∧ (∀ H', Same H H' → Sq K b H' T (ns.map V.str)) ∧ ns.length ≤ 60 ∧ ns.Nodup ∧ (∀ z ∈ ns, Name1 z) ∧
  ∀ (p : Addr) (H' : Hp), H p = none → H' p = some (.dK (plc ns)) → Same H H' → Q (.ref p) H'
section
variable {P : Program} {w : World} {K : PySem.W.Frag} {mg : Str → Option Value} {base : Heap} {f fL : Addr} {fd fdL : FuncData}
abbrev nPlaces : List Str := ["names", "place", "literal"]
theorem scPlaces : FnScope nPlaces ["names"] (defScope sPlaces) := ⟨rfl, rfl, rfl, by decide +kernel, rfl, by decide +kernel, by decide +kernel⟩
theorem ok_places (F : Fun K "places_of" "places_of" sPlaces f fd) (GL : FnOk P w K mg base CX0 1 fL fdL ["names"] (spLits K)) (mL : mg "literals_of" = some (.ref fL)) (kL : PySem.W.keepIn K (.ref fL) = true) (bL : L2.Binds K fdL ["names"] []) (me : mg "enumerate" = none) :
    FnOk P w K mg base CX0 2 f fd ["names"] (spPlaces K) := by
  refine F.ok scPlaces (fun vs H Q E h => ?_) (fun cdv A outer s H vs Q E hr h => ?_)
  · obtain ⟨T, b, ns, rfl, _⟩ := h
    rfl
  · obtain ⟨T, b, ns, rfl, hT, hT', hn, nd, good, k⟩ := h
    have hu := hu_of hr
    refine ⟨_, pss_one (ps_ret (pe_dcP (own := [("place", 1), ("literal", 2)]) .k rfl hu scPlaces.nd (pi_enumB (by rfl) me (pa_cons (pe_call GL hr (by rfl) mL kL bL .nil pass0 (pa_cons (pv 0) pa_nil)) pa_nil)) (blkOk_by (N := nPlaces) (sc := defScope sPlaces) (by decide +kernel))
          (fun _ _ _ _ _ => show PG _ _ (gTup K 2 _) from pg_tup rfl (pgs_cons (pg_name (i := 1) scPlaces.nd rfl (.inl rfl)) (pgs_cons (pg_name (i := 2) scPlaces.nd rfl (.inl rfl)) pgs_nil))) (fun _ _ _ _ _ => pts_nil) (fun _ _ _ _ _ => pv 2) (fun _ _ _ _ _ => pv 1))), ?_⟩
    refine ⟨_, rfl, T, b, ns, rfl, hT, hT', hn, (fun z hz => (good z hz).2.1), fun p H1 hp hp1 sm1 => ⟨true, p, _, rfl, Sq.lst hp1, fun D hD => dc_it walk_enumB (fun i H2 => Same H1 H2 ∧ H2 D = some (.dK (plcF 0 ((lits ns).take i)))) ⟨same_new hD, upd_same⟩ (fun i H2 _ hh => Sq.lst (hh.1 _ _ hp1)) ?_ ?_⟩⟩
    · rintro i x H2 H3 hi ⟨sm, hD2⟩ ⟨t, v1, v2, rfl, ht, rfl, hv1, hv2⟩
      obtain ⟨l, hl, rfl⟩ := get_map hv2
      obtain rfl := Option.some.inj hv1
      have ilt : i < (lits ns).length := (List.getElem?_eq_some_iff.mp hl).1
      have l120 := lits_len ns
      have fresh : l ∉ (lits ns).take i := fun h => by
        obtain ⟨j, hj, hj2⟩ := List.getElem_of_mem h
        have jlt : j < i := by rw [List.length_take] at hj; omega
        have z : (lits ns)[j]? = some l := by
          rw [List.getElem_take] at hj2
          rw [← hj2]
          exact List.getElem?_eq_getElem _
        exact absurd ((List.getElem?_inj (by omega) (lits_nodup ns nd good)).mp (z.trans hl.symm)) (by omega)
      have hD3 := (upd_ne (o := .tup [.int (i : Nat), .str l]) (ne_of_none hD2 ht)).trans hD2
      refine ⟨t, _, rfl, SqT.of upd_same, rfl, _, _, rfl, _, _, rfl, rfl, rfl, _, rfl, _, rfl, _, DPut.k (k := Sum.inr l) hD3 (by rw [plcF_len, List.length_take, sizeLine_eq]; omega), fun b o h => (upd_ne (ne_of_none h hD)).trans ((same_new ht) _ _ (sm b o h)), ?_⟩
      rw [upd_same, putK_new (plcF_none _ 0 fresh), List.take_succ, hl]
      show _ = some (HO.dK (plcF 0 ((lits ns).take i ++ [l])))
      rw [plcF_snoc, List.length_take, Nat.min_eq_left (Nat.le_of_lt ilt), Nat.zero_add]
    · rintro H2 ⟨sm, hD2⟩
      rw [List.length_map, List.take_length] at hD2
      exact k D H2 (sm1.free hD) hD2 (sm1.trans sm)
end
end K6
namespace K6
open PySem PySem.Spec PyProof.Rows L2 LamX NdefX EV
/-! ### rising lists -/
theorem rise_eq : ∀ (a b : List Int), a.Pairwise (· < ·) → b.Pairwise (· < ·) → (∀ x, x ∈ a ↔ x ∈ b) → a = b
  | [], [], _, _, _ => rfl
  | [], y :: b, _, _, h => absurd ((h y).mpr List.mem_cons_self) (fun z => nomatch z)
  | x :: a, [], _, _, h => absurd ((h x).mp List.mem_cons_self) (fun z => nomatch z)
  | x :: a, y :: b, pa, pb, h => by
    have pa' := List.pairwise_cons.mp pa
    have pb' := List.pairwise_cons.mp pb
    have exy : x = y := by
      rcases List.mem_cons.mp ((h x).mp List.mem_cons_self) with q | q
      · exact q
      · rcases List.mem_cons.mp ((h y).mpr List.mem_cons_self) with q' | q'
        · exact q'.symm
        · have z1 := pb'.1 x q
          have z2 := pa'.1 y q'
          omega
    subst exy
    rw [rise_eq a b pa'.2 pb'.2 fun z => ?_]
    constructor
    · intro hz
      rcases List.mem_cons.mp ((h z).mp (List.mem_cons_of_mem _ hz)) with q | q
      · have := pa'.1 z hz
        omega
      · exact q
    · intro hz
      rcases List.mem_cons.mp ((h z).mpr (List.mem_cons_of_mem _ hz)) with q | q
      · have := pb'.1 z hz
        omega
      · exact q
theorem rise_strict : ∀ {a : List Int}, a.Pairwise (· ≤ ·) → a.Nodup → a.Pairwise (· < ·)
  | [], _, _ => .nil
  | x :: r, h, nd => by
    have h' := List.pairwise_cons.mp h
    have nd' := List.nodup_cons.mp nd
    exact List.pairwise_cons.mpr ⟨fun y hy => by
      have z := h'.1 y hy
      have ne : x ≠ y := fun e => nd'.1 (e ▸ hy)
      omega, rise_strict h'.2 nd'.2⟩
def txt (xs : List Str) (j : Nat) : Str := xs.getD j (Str.ofString "")
theorem txt_at {xs : List Str} {j : Nat} {l : Str} (h : xs[j]? = some l) : txt xs j = l := by
  unfold txt
  rw [List.getD_eq_getElem?_getD, h]
  rfl
theorem map_txt (xs : List Str) : (List.range xs.length).map (txt xs) = xs := by
  refine List.ext_getElem (by rw [List.length_map, List.length_range]) fun i h1 h2 => ?_
  rw [List.getElem_map, List.getElem_range]
  exact txt_at (List.getElem?_eq_getElem h2)
/-- the places of what is wanted, rising: their texts are the wanted ones of all, in order -/
theorem rise_filter {xs ls : List Str} {js : List Int} {is : List Nat} (hp : js.Perm (is.map fun j : Nat => (j : Int))) (hs : js.Pairwise (· ≤ ·)) (nd : is.Nodup) (mem : ∀ j, j ∈ is ↔ j < xs.length ∧ txt xs j ∈ ls) :
    js.map (fun j => txt xs j.toNat) = xs.filter fun l => decide (l ∈ ls) := by
  have inj : ∀ a b : Nat, a ≠ b → (a : Int) ≠ (b : Int) := fun a b h e => h (by omega)
  have ndj : js.Nodup := hp.nodup_iff.mpr (List.Pairwise.map _ (fun a b h => inj a b h) nd)
  have e : js = ((List.range xs.length).filter fun j => decide (txt xs j ∈ ls)).map fun j : Nat => (j : Int) := by
    refine rise_eq _ _ (rise_strict hs ndj) (List.Pairwise.map _ (fun a b h => by omega) (List.Pairwise.filter _ List.pairwise_lt_range)) fun x => ?_
    rw [hp.mem_iff, List.mem_map, List.mem_map]
    constructor
    · rintro ⟨j, hj, rfl⟩
      have z := (mem j).mp hj
      exact ⟨j, List.mem_filter.mpr ⟨List.mem_range.mpr z.1, decide_eq_true z.2⟩, rfl⟩
    · rintro ⟨j, hj, rfl⟩
      have z := List.mem_filter.mp hj
      exact ⟨j, (mem j).mpr ⟨List.mem_range.mp z.1, of_decide_eq_true z.2⟩, rfl⟩
  rw [e, List.map_map]
  have e2 : ((fun j : Int => txt xs j.toNat) ∘ fun j : Nat => (j : Int)) = txt xs := by
    funext j
    show txt xs (j : Int).toNat = _
    rw [Int.toNat_natCast]
  rw [e2]
  have z := List.filter_map (f := txt xs) (p := fun l => decide (l ∈ ls)) (l := List.range xs.length)
  rw [map_txt] at z
  exact z.symm
def entry (xs : List Str) (j : Nat) : Key × V := (Sum.inl (j : Int), .str (txt xs j))
theorem entry_val {xs : List Str} {j : Nat} : ∀ is : List Nat, j ∈ is → valV (is.map (entry xs)) (Sum.inl (j : Int)) = some (.str (txt xs j))
  | [], h => nomatch h
  | i :: r, h => by
    by_cases e : i = j
    · subst e
      exact valV_pos rfl
    · have ne : ¬ (entry xs i).1 = Sum.inl (j : Int) := fun q => by
        have q : (Sum.inl (i : Int) : Key) = Sum.inl (j : Int) := q
        injection q with q
        omega
      rw [List.map_cons, valV_neg ne]
      exact entry_val r ((List.mem_cons.mp h).resolve_left fun q => e q.symm)
theorem entry_none {xs : List Str} {j : Nat} : ∀ is : List Nat, j ∉ is → valV (is.map (entry xs)) (Sum.inl (j : Int)) = none
  | [], _ => rfl
  | i :: r, h => by
    have ne : ¬ (entry xs i).1 = Sum.inl (j : Int) := fun q => by
      have q : (Sum.inl (i : Int) : Key) = Sum.inl (j : Int) := q
      injection q with q
      exact h (by rw [show j = i by omega]; exact List.mem_cons_self)
    rw [List.map_cons, valV_neg ne]
    exact entry_none r fun q => h (List.mem_cons_of_mem _ q)
theorem entry_put {xs : List Str} {is : List Nat} {j : Nat} : putK (is.map (entry xs)) (Sum.inl (j : Int)) (.str (txt xs j)) = (if j ∈ is then is else is ++ [j]).map (entry xs) := by
  by_cases h : j ∈ is
  · rw [if_pos h]
    unfold putK
    rw [valV_any, entry_val is h]
    show List.map (fun kv => if kv.1 = Sum.inl (j : Int) then (kv.1, V.str (txt xs j)) else kv) (List.map (entry xs) is) = _
    rw [List.map_map]
    refine List.map_congr_left fun i _ => ?_
    show (if (entry xs i).1 = _ then _ else _) = _
    by_cases e : i = j
    · subst e
      exact (if_pos rfl).trans rfl
    · refine if_neg fun q => ?_
      have q : (Sum.inl (i : Int) : Key) = Sum.inl (j : Int) := q
      injection q with q
      omega
  · rw [if_neg h, putK_new (entry_none is h), List.map_append]
    rfl
def spInOrder (K : PySem.W.Frag) : Sp := fun vs H Q _ => ∃ (PL A : Addr) (b : Bool) (ns ls : List Str), vs = [.ref PL, .ref A] ∧ H PL = some (.dK (plc ns)) ∧ Sq K b H A (ls.map V.str) ∧ (∀ H', Same H H' → Sq K b H' A (ls.map V.str)) ∧ ns.length ≤ 60 ∧ ns.Nodup ∧ (∀ z ∈ ns, Name1 z) ∧ (∀ l ∈ ls, l ∈ lits ns) ∧
  ∀ (p : Addr) (H' : Hp), H p = none → H' p = some (.tup ((asc ns ls).map V.str)) → Same H H' → Q (.ref p) H'
section
variable {P : Program} {w : World} {K : PySem.W.Frag} {mg : Str → Option Value} {base : Heap} {f : Addr} {fd : FuncData}
abbrev nInOrder : List Str := ["places", "literals", "by_place", "literal", "place"]
theorem scInOrder : FnScope nInOrder ["places", "literals"] (defScope sInOrder) := ⟨rfl, rfl, rfl, by decide +kernel, rfl, by decide +kernel, by decide +kernel⟩
theorem ok_inOrder (F : Fun K "in_order" "in_order" sInOrder f fd) (mt : mg "tuple" = none) (ms : mg "sorted" = none) (mi : mg "int" = none) : FnOk P w K mg base CX0 1 f fd ["places", "literals"] (spInOrder K) := by
  refine F.ok scInOrder (fun vs H Q E h => ?_) (fun cdv A outer s H vs Q E hr h => ?_)
  · obtain ⟨PL, A, b, ns, ls, rfl, _⟩ := h
    rfl
  · obtain ⟨PL, A, b, ns, ls, rfl, hPL, hA, hA', hn, nd, good, sub, k⟩ := h
    have hu := hu_of hr
    refine ⟨_, pss_cons (ps_set (i := 2) scInOrder.nd rfl (.inr rfl) (pe_dcP (own := [("literal", 3)]) .k rfl hu scInOrder.nd (pi_seq (pv 1)) (blkOk_by (N := nInOrder) (sc := defScope sInOrder) (by decide +kernel))
          (fun _ _ _ _ _ => pg_name (i := 3) scInOrder.nd rfl (.inl rfl)) (fun _ _ _ _ _ => pts_nil) (fun _ _ _ _ _ => pe_dget hu (pv 0) (pv 3) (fun _ _ => rfl)) (fun _ _ _ _ _ => pv 3)))
      (pss_one (ps_ret (pe_tupleOf (by rfl) mt (pe_lc (own := [("place", 4)]) (g := gName 4) (tt := tYes) rfl scInOrder.nd
          (pi_list (pe_callB cr_sortedI (by rfl) ms (by decide +kernel) (pa_cons (pe_lock (pe_lc (own := [("place", 4)]) (g := gName 4) (tt := tYes) rfl scInOrder.nd (pi_keys (pv 2)) (blkOk_by (N := nInOrder) (sc := defScope sInOrder) (by decide +kernel))
            (fun _ _ _ _ _ => pg_name (i := 4) scInOrder.nd rfl (.inl rfl)) (fun _ _ _ _ _ => pts_nil) (fun _ _ _ _ _ => pe_callTy call_int1 (by rfl) mi (by decide +kernel) (pa_cons (pv 4) pa_nil)))) pa_nil)))
          (blkOk_by (N := nInOrder) (sc := defScope sInOrder) (by decide +kernel))
          (fun _ _ _ _ _ => pg_name (i := 4) scInOrder.nd rfl (.inl rfl)) (fun _ _ _ _ _ => pts_nil) (fun _ _ _ _ _ => pe_dget hu (pv 2) (pv 4) (fun _ _ => rfl)))))), ?_⟩
    have ndl := lits_nodup ns nd good
    have l120 := lits_len ns
    refine ⟨_, rfl, b, A, _, rfl, hA, fun D hD => dc_it walk_sq (fun i H2 => Same H H2 ∧ ∃ is : List Nat, H2 D = some (.dK (is.map (entry (lits ns)))) ∧ is.Nodup ∧ ∀ j, j ∈ is ↔ j < (lits ns).length ∧ txt (lits ns) j ∈ ls.take i) ⟨same_new hD, [], upd_same, List.nodup_nil, fun j => ⟨fun h => (nomatch h), fun h => by simp at h⟩⟩ (fun i H2 _ hh => hA' _ hh.1) ?_ ?_⟩
    · rintro i x H2 H3 hi ⟨sm, is, hD2, ndi, mem⟩ ⟨rfl, hx⟩
      obtain ⟨l, hl, rfl⟩ := get_map hx
      obtain ⟨j, hj, ej⟩ := List.getElem_of_mem (sub l (List.mem_of_getElem? hl))
      have hj' : (lits ns)[j]? = some l := by rw [← ej]; exact List.getElem?_eq_getElem hj
      have tj := txt_at hj'
      have g : DGet H3 PL (.str l) (some (.int (j : Int))) := by
        have z := DGet.k (k := Sum.inr l) (sm _ _ hPL)
        rw [plcF_at _ 0 j ndl hj', Nat.zero_add] at z
        exact z
      have few : is.length ≤ (lits ns).length := by
        have z := nodup_le is (List.range (lits ns).length) ndi fun a ha => List.mem_range.mpr ((mem a).mp ha).1
        rwa [List.length_range] at z
      refine ⟨rfl, _, rfl, _, rfl, PL, _, rfl, g, _, rfl, _, DPut.k (k := Sum.inl (j : Int)) hD2 (by rw [List.length_map, sizeLine_eq]; omega), fun c o h => (upd_ne (ne_of_none h hD)).trans (sm c o h), if j ∈ is then is else is ++ [j], ?_, ?_, ?_⟩
      · rw [upd_same, ← tj, entry_put]
      · split
        · exact ndi
        · rename_i q
          exact List.nodup_append.mpr ⟨ndi, List.nodup_cons.mpr ⟨fun h => (nomatch h), List.nodup_nil⟩, fun a ha c hc e => q (by rw [← List.mem_singleton.mp hc, ← e]; exact ha)⟩
      · intro m
        rw [List.take_succ, hl]
        have uniq : ∀ m, m < (lits ns).length → (txt (lits ns) m = l ↔ m = j) := fun m hm => by
          constructor
          · intro e
            have z : (lits ns)[m]? = some l := by rw [← e]; exact (List.getElem?_eq_getElem hm).trans (congrArg some (txt_at (List.getElem?_eq_getElem hm)).symm)
            exact (List.getElem?_inj hm ndl).mp (z.trans hj'.symm)
          · rintro rfl
            exact tj
        have old := mem m
        by_cases q : j ∈ is
        · rw [if_pos q, old]
          constructor
          · exact fun h => ⟨h.1, List.mem_append.mpr (.inl h.2)⟩
          · rintro ⟨h1, h2⟩
            rcases List.mem_append.mp h2 with z | z
            · exact ⟨h1, z⟩
            · obtain rfl := (uniq m h1).mp (List.mem_singleton.mp z)
              exact old.mp q
        · rw [if_neg q, List.mem_append, old]
          constructor
          · rintro (h | h)
            · exact ⟨h.1, List.mem_append.mpr (.inl h.2)⟩
            · obtain rfl := List.mem_singleton.mp h
              exact ⟨hj, List.mem_append.mpr (.inr (List.mem_singleton.mpr tj))⟩
          · rintro ⟨h1, h2⟩
            rcases List.mem_append.mp h2 with z | z
            · exact .inl ⟨h1, z⟩
            · exact .inr (List.mem_singleton.mpr ((uniq m h1).mp (List.mem_singleton.mp z)))
    · rintro H2 ⟨sm, is, hD2, ndi, mem⟩
      rw [List.length_map, List.take_length] at mem
      have few : is.length ≤ (lits ns).length := by
        have z := nodup_le is (List.range (lits ns).length) ndi fun a ha => List.mem_range.mpr ((mem a).mp ha).1
        rwa [List.length_range] at z
      refine ⟨D, _, hD2, trivial, fun od => ⟨_, rfl, D, od, rfl, .inl ⟨_, upd_same, fun L hL => lc_it walk_keys (fun i H3 => H3 D = some (.frz od (.dK (is.map (entry (lits ns))))) ∧ H3 L = some (.lst ((is.take i).map fun j : Nat => V.int (j : Int))) ∧ ∀ c o, c ≠ D → H2 c = some o → H3 c = some o) ?_ (fun i H3 _ hh => hh.1) ?_ ?_⟩⟩⟩
      · have nDL : D ≠ L := ne_of_none (show upd H2 D (.frz od _) D = some _ from upd_same) hL
        exact ⟨(upd_ne nDL).trans upd_same, upd_same, fun c o nc h => (upd_ne (ne_of_none ((upd_ne nc).trans h) hL)).trans ((upd_ne nc).trans h)⟩
      · rintro i x H3 H4 hi ⟨hD3, hL3, keep⟩ ⟨rfl, kk, vv, hkv, rfl⟩
        obtain ⟨j, hj, ej⟩ := get_map hkv
        injection ej with e1 e2
        subst e1
        have ilt : i < is.length := (List.getElem?_eq_some_iff.mp hj).1
        have nDL : D ≠ L := ne_of_none (show upd H2 D (.frz od (.dK (is.map (entry (lits ns))))) D = some _ from upd_same) hL
        refine ⟨rfl, _, rfl, .inl ⟨_, rfl, _, hL3, by rw [List.length_map, List.length_take, sizeLine_eq]; omega, (upd_ne nDL).trans hD3, ?_, fun c o nc h => (upd_ne (ne_of_none ((upd_ne nc).trans h) hL)).trans (keep c o nc h)⟩⟩
        rw [upd_same, List.take_succ, hj, List.map_append]
        rfl
      · rintro H3 ⟨hD3, hL3, keep⟩
        rw [List.length_map, List.take_length] at hL3
        refine ⟨hD3, ?_⟩
        have nDL : L ≠ D := (ne_of_none (show upd H2 D (.frz od (.dK (is.map (entry (lits ns))))) D = some _ from upd_same) hL).symm
        have hL2 : H2 L = none := by
          have z := hL
          rwa [upd_ne nDL] at z
        generalize eH : upd H3 D (.dK (is.map (entry (lits ns)))) = H4
        have hD4 : H4 D = some (.dK (is.map (entry (lits ns)))) := eH ▸ upd_same
        have hL4 : H4 L = some (.lst (is.map fun j : Nat => V.int (j : Int))) := eH ▸ (upd_ne nDL).trans hL3
        have sm4 : Same H2 H4 := fun c o h => by
          by_cases e : c = D
          · subst e
            rw [hD2] at h
            rw [hD4, ← h]
          · rw [← eH]
            exact (upd_ne e).trans (keep c o e h)
        have eL : (is.map fun j : Nat => V.int (j : Int)) = (is.map fun j : Nat => (j : Int)).map V.int := by rw [List.map_map]; rfl
        refine ⟨L, is.map fun j : Nat => (j : Int), rfl, SqL.of (eL ▸ hL4), fun js p perm rise hp => ⟨p, rfl, ⟨_, SqL.of upd_same⟩, fun D2 hD2' => lc_list (K := K) (a := p) (xs := js.map V.int) (fun i H5 => Same (upd H4 p (.lst (js.map V.int))) H5 ∧ H5 D2 = some (.lst ((js.take i).map fun j => V.str (txt (lits ns) j.toNat)))) ⟨same_new hD2', upd_same⟩ (fun i H5 _ hh => SqL.of (hh.1 _ _ upd_same)) ?_ ?_⟩⟩
        · rintro i x H5 hx ⟨sm5, hD5⟩
          obtain ⟨jz, hjz, rfl⟩ := get_map hx
          obtain ⟨j, hj, rfl⟩ := List.mem_map.mp (perm.mem_iff.mp (List.mem_of_getElem? hjz))
          have lj : js.length = is.length := by
            have z := perm.length_eq
            rwa [List.length_map] at z
          have hDD : H5 D = some (.dK (is.map (entry (lits ns)))) := sm5 _ _ ((same_new hp) _ _ hD4)
          have g : DGet H5 D (.int (j : Int)) (some (.str (txt (lits ns) j))) := by
            have z := DGet.k (k := Sum.inl (j : Int)) hDD
            rw [entry_val is hj] at z
            exact z
          refine ⟨rfl, _, rfl, _, rfl, D, _, rfl, g, _, hD5, by rw [List.length_map, List.length_take, sizeLine_eq]; omega, fun c o h => (upd_ne (ne_of_none h hD2')).trans (sm5 c o h), ?_⟩
          rw [upd_same, List.take_succ, hjz, List.map_append]
          show _ = some (HO.lst (_ ++ [V.str (txt (lits ns) ((j : Int)).toNat)]))
          rw [Int.toNat_natCast]
        · rintro H5 ⟨sm5, hD5⟩
          rw [List.length_map, List.take_length] at hD5
          have e6 := rise_filter (xs := lits ns) (ls := ls) perm rise ndi mem
          have smF : Same H H5 := (sm.trans sm4).trans ((same_new hp).trans sm5)
          refine .inl ⟨D2, _, rfl, SqL.of hD5, fun q hq => k q _ (smF.free hq) ?_ (smF.trans (same_new hq))⟩
          rw [upd_same]
          have e7 : (js.map fun j => V.str (txt (lits ns) j.toNat)) = (js.map fun j => txt (lits ns) j.toNat).map V.str := by rw [List.map_map]; rfl
          rw [e7, e6]
          rfl
end
end K6
/-! A def whose one default is an empty tuple. -/
namespace EV
open PySem PySem.Spec PyProof.Rows L2
/-- the empty tuple at A0, in the part that stays -/
def NilT (K : PySem.W.Frag) (A0 : Addr) : Prop := ∃ (o : Obj) (n : Nat), K.lookup A0 = some o ∧ o.cls = .type "tuple" ∧ o.data = .seq #[] n
theorem NilT.sq {K : PySem.W.Frag} {A0 : Addr} (h : NilT K A0) (H : Hp) : SqT K H A0 [] := by
  obtain ⟨o, n, h1, h2, h3⟩ := h
  exact .inr ⟨o, #[], n, h1, h2, h3, Nat.zero_le _, .nil⟩
structure FunE (K : PySem.W.Frag) (x qual : Str) (st : Stmt) (f : Addr) (fd : FuncData) (A0 : Addr) : Prop where
  fn : FunD K x qual (defArgs st) (defBody st) (defScope st) [.ref A0] [] f fd
  e0 : NilT K A0
section
variable {P : Program} {w : World} {K : PySem.W.Frag} {mg : Str → Option Value} {base : Heap} {x qual : Str} {st : Stmt} {f A0 : Addr} {fd : FuncData}
theorem FunE.ok {N ps : List Str} {k : Nat} {sp : Sp} (F : FunE K x qual st f fd A0) (S : FnScope N ps (defScope st)) (len : ∀ vs H Q E, sp vs H Q E → vs.length = ps.length)
    (body : ∀ (cdv : Value) (A : Around) (outer : List Env) (s : Shared) (H : Hp) (vs : List V) (Q : VK) (E : XK), Room k (A.deeper (envOfC qual (defScope st) s.heap.objs.size f cdv)) → sp vs H Q E →
      ∃ t, PSs (cxOf CX0 P w K mg base N qual (defScope st) f cdv A outer s H E).nox (defBody st) t ∧ t { nx := fun _ H' => Q .non H', rt := Q } (start N vs) H) : FnOk P w K mg base CX0 (k + 1) f fd ps sp :=
  F.fn.ok S len fun cdv A outer s H vs Q E hr h => by
    obtain ⟨t, p, q⟩ := body cdv A outer s H vs Q E hr h
    exact ⟨t, p.nox, q⟩
theorem funE_mk {oc : Value} {od an : Option Addr} {osl : Array (Option Value)} {kV doc pm cdv ct : Value} {T : Addr} {o o2 : Obj} {n n2 : Nat}
    (l : K.lookup f = some ⟨oc, od, .func (PySem.W.fnOf x qual (defArgs st) (defBody st) (defScope st) (.ref T) kV doc pm an cdv ct), osl⟩) (c : PySem.W.codeIn K cdv qual = true) (k : PySem.W.keepIn K (.ref f) = true)
    (lT : K.lookup T = some o) (dT : o.data = .seq #[.ref A0] n) (lA : K.lookup A0 = some o2) (cA : o2.cls = .type "tuple") (dA : o2.data = .seq #[] n2) :
    FunE K x qual st f (PySem.W.fnOf x qual (defArgs st) (defBody st) (defScope st) (.ref T) kV doc pm an cdv ct) A0 :=
  ⟨⟨⟨oc, od, .ref T, kV, doc, pm, an, cdv, ct, osl, rfl, l, c, .inr ⟨by simp, T, o, [.ref A0], n, rfl, lT, dT, .cons rfl .nil⟩, .inl rfl⟩, k⟩, ⟨o2, n2, lA, cA, dA⟩⟩
/-- the default fills up -/
theorem FunE.short {ps : List Str} (F : FunE K x qual st f fd A0) (n : Nat) (hn : n + 1 = ps.length)
    (h : ∀ (T : Addr) (kV doc pm : Value) (an : Option Addr) (cdv ct : Value) (us its : List Value), us.length = n → its.length = 1 →
      ∃ k, bindArgs (PySem.W.fnOf x qual (defArgs st) (defBody st) (defScope st) (.ref T) kV doc pm an cdv ct) ⟨us, []⟩ = seqItems? (.ref T) >>= k ∧ k (some its.toArray) = pure (ps.zip (us ++ its))) : ∃ ds, Vals [.ref A0] ds ∧ Binds K fd ps ds :=
  F.fn.binds1 n 0 (by simp) hn fun T kV doc pm an cdv ct us its h1 h2 => h T kV doc pm an cdv ct us its h1 h2
/-- all is given -/
theorem FunE.full {ps : List Str} (F : FunE K x qual st f fd A0)
    (h : ∀ (T : Addr) (kV doc pm : Value) (an : Option Addr) (cdv ct : Value) (us its : List Value), us.length = ps.length → its.length = 1 →
      ∃ k, bindArgs (PySem.W.fnOf x qual (defArgs st) (defBody st) (defScope st) (.ref T) kV doc pm an cdv ct) ⟨us, []⟩ = seqItems? (.ref T) >>= k ∧ k (some its.toArray) = pure (ps.zip us)) : Binds K fd ps [] := by
  obtain ⟨ds, r, b⟩ := F.fn.binds1 (ps := ps) ps.length 1 (by simp) (by simp) fun T kV doc pm an cdv ct us its h1 h2 => by
    obtain ⟨k, e1, e2⟩ := h T kV doc pm an cdv ct us its h1 h2
    refine ⟨k, e1, ?_⟩
    have z : its.drop 1 = [] := List.drop_eq_nil_of_le (by rw [h2]; exact Nat.le_refl 1)
    rw [z, List.append_nil]
    exact e2
  cases r
  exact b
end
end EV
namespace K6
open PySem PySem.Spec PyProof.Rows L2 LamX NdefX EV
/-- a row that is never reached -/
theorem ps_none {X : Cx} {st : Stmt} : PS X st (fun _ _ _ => False) := ⟨fun pins s σ H D I h => h.elim⟩
def spIsList (K : PySem.W.Frag) : Sp := fun vs H Q _ => ∃ (x : V) (t : Value) (b : Bool), vs = [x] ∧ (∀ H', Same H H' → TyX K H' x t) ∧ PySem.W.kitAny K t [.type "list", .type "tuple"] = some b ∧ ∀ H', Same H H' → Q (.bl b) H'
/-- names that are checked; others that are taken -/
def spChkNames (K : PySem.W.Frag) : Sp := fun vs H Q _ => ∃ (T U : Addr) (b c : Bool) (ns tk : List Str), vs = [.ref T, .ref U] ∧ (∀ H', Same H H' → Sq K b H' T (ns.map V.str)) ∧ (∀ H', Same H H' → Sq K c H' U (tk.map V.str)) ∧ ns.length ≤ 60 ∧ tk.length ≤ 60 ∧ (tk ++ ns).Nodup ∧ (∀ z ∈ ns, Name1 z) ∧ ∀ H', Same H H' → Q .non H'
section
variable {P : Program} {w : World} {K : PySem.W.Frag} {mg : Str → Option Value} {base : Heap} {f fI fL fW : Addr} {fd fdI fdL fdW : FuncData}
theorem scIsList : FnScope ["thing"] ["thing"] (defScope sIsList) := ⟨rfl, rfl, rfl, by decide +kernel, rfl, by decide +kernel, by decide +kernel⟩
theorem ok_isList (F : Fun K "is_list" "is_list" sIsList f fd) (mi : mg "isinstance" = none) (ml : mg "list" = none) (mt : mg "tuple" = none) : FnOk P w K mg base CX0 1 f fd ["thing"] (spIsList K) := by
  refine F.ok scIsList (fun vs H Q E h => ?_) (fun cdv A outer s H vs Q E hr h => ?_)
  · obtain ⟨x, t, b, rfl, _⟩ := h
    rfl
  · obtain ⟨x, t, b, rfl, ty, kit, k⟩ := h
    refine ⟨_, pss_one (ps_ret (pe_callB call_isiT (by rfl) mi (by decide +kernel) (pa_cons (pv 0) (pa_cons (pe_tup (pa_cons (pe_bltn (v := .ty "list") (by rfl) ml (by decide +kernel) rfl) (pa_cons (pe_bltn (v := .ty "tuple") (by rfl) mt (by decide +kernel) rfl) pa_nil))) pa_nil)))), ?_⟩
    refine ⟨_, rfl, by show 2 ≤ sizeLine; decide, fun tp htp => ⟨x, tp, _, t, _, b, rfl, upd_same, .cons (.ty "list") (.cons (.ty "tuple") .nil), ty _ (same_new htp), kit, k _ (same_new htp)⟩⟩
abbrev nChk : List Str := ["things", "taken", "seen", "name", "index", "thing"]
theorem scChk : FnScope nChk ["things", "taken"] (defScope sChkNames) := ⟨rfl, rfl, rfl, by decide +kernel, rfl, by decide +kernel, by decide +kernel⟩
def seenKv (n : Str) : Key × V := (Sum.inr n, .bl true)
theorem seen_none {n : Str} : ∀ ns : List Str, n ∉ ns → valV (ns.map seenKv) (Sum.inr n) = none
  | [], _ => rfl
  | m :: r, h => by
    have ne : ¬ (seenKv m).1 = Sum.inr n := fun q => by
      have q : (Sum.inr m : Key) = Sum.inr n := q
      injection q with q
      exact h (q ▸ List.mem_cons_self)
    rw [List.map_cons, valV_neg ne]
    exact seen_none r fun q => h (List.mem_cons_of_mem _ q)
theorem seen_some {n : Str} : ∀ ns : List Str, n ∈ ns → valV (ns.map seenKv) (Sum.inr n) = some (.bl true)
  | [], h => nomatch h
  | m :: r, h => by
    by_cases e : m = n
    · subst e
      exact valV_pos rfl
    · have ne : ¬ (seenKv m).1 = Sum.inr n := fun q => by
        have q : (Sum.inr m : Key) = Sum.inr n := q
        injection q with q
        exact e q
      rw [List.map_cons, valV_neg ne]
      exact seen_some r ((List.mem_cons.mp h).resolve_left fun q => e q.symm)
theorem not_before {α : Type} {xs : List α} {i : Nat} {x : α} (nd : xs.Nodup) (h : xs[i]? = some x) : x ∉ xs.take i := fun m => by
  obtain ⟨j, hj, hj2⟩ := List.getElem_of_mem m
  have ilt := (List.getElem?_eq_some_iff.mp h).1
  have jlt : j < i := by rw [List.length_take] at hj; omega
  have z : xs[j]? = some x := by
    rw [List.getElem_take] at hj2
    rw [← hj2]
    exact List.getElem?_eq_getElem _
  exact absurd ((List.getElem?_inj (by omega) nd).mp (z.trans h.symm)) (by omega)
theorem nodup_right {α : Type} {xs ys : List α} (h : (xs ++ ys).Nodup) : ys.Nodup := (List.nodup_append.mp h).2.1
theorem ok_chkNames {A0 : Addr} (F : FunE K "check_names" "check_names" sChkNames f fd A0) (GI : FnOk P w K mg base CX0 1 fI fdI ["thing"] spIsName) (mI : mg "is_name" = some (.ref fI)) (kI : PySem.W.keepIn K (.ref fI) = true) (bI : L2.Binds K fdI ["thing"] []) (me : mg "enumerate" = none) :
    FnOk P w K mg base CX0 2 f fd ["things", "taken"] (spChkNames K) := by
  refine F.ok scChk (fun vs H Q E h => ?_) (fun cdv A outer s H vs Q E hr h => ?_)
  · obtain ⟨T, U, b, c, ns, tk, rfl, _⟩ := h
    rfl
  · obtain ⟨T, U, b, c, ns, tk, rfl, hT', hU', hn, hm, nd, good, k⟩ := h
    have hu := hu_of hr
    refine ⟨_, pss_cons (ps_set (i := 2) scChk.nd rfl (.inl rfl) pe_dnewK)
      (pss_cons (ps_for PassesOwn.never rfl (pi_seq (pv 1)) (pg_name (i := 3) scChk.nd rfl (.inl rfl)) (pss_one (ps_dput hu (pv 2) (pv 3) pe_bl rfl)))
      (pss_one (ps_for PassesOwn.never rfl (pi_enumB (by rfl) me (pa_cons (pv 0) pa_nil)) (pg_tup rfl (pgs_cons (pg_name (i := 4) scChk.nd rfl (.inl rfl)) (pgs_cons (pg_name (i := 5) scChk.nd rfl (.inl rfl)) pgs_nil)))
        (pss_cons (ps_if (PW.pt (pw_or (pt_not (pt_val (pe_call GI hr (by rfl) mI kI bI .nil pass0 (pa_cons (pv 5) pa_nil)))) (pw_or1 (pt_cmp (pc_din hu (pv 5) (pv 2)))))) (pss_one ps_none) pss_nil)
        (pss_one (ps_dput hu (pv 2) (pv 5) pe_bl rfl)))))), ?_⟩
    refine fun d hd => ⟨_, rfl, c, U, _, rfl, hU' _ (same_new hd), for_it walk_sq (fun i σ H2 => ∃ o3 o4 o5, σ = [some (.ref T), some (.ref U), some (.ref d), o3, o4, o5] ∧ Same H H2 ∧ H2 d = some (.dK ((tk.take i).map seenKv))) ⟨_, _, _, rfl, same_new hd, upd_same⟩ (fun i σ H2 _ ⟨_, _, _, _, sm, _⟩ => hU' _ sm) ?_ ?_⟩
    · rintro i x σ H2 H3 hi ⟨o3, o4, o5, rfl, sm, hd2⟩ ⟨rfl, hv⟩
      obtain ⟨n, hn', rfl⟩ := get_map hv
      have fresh := not_before (List.nodup_append.mp nd).1 hn'
      refine ⟨_, rfl, _, rfl, d, _, rfl, DPut.k (k := Sum.inr n) hd2 (by rw [List.length_map, List.length_take, sizeLine_eq]; omega), _, _, _, rfl, fun c o h => (upd_ne (ne_of_none h hd)).trans (sm c o h), ?_⟩
      rw [upd_same, putK_new (seen_none _ fresh), List.take_succ, hn', List.map_append]
      rfl
    rintro σ H2 ⟨o3, o4, o5, rfl, sm, hd2⟩
    rw [List.length_map, List.take_length] at hd2
    refine ⟨_, rfl, b, T, _, rfl, hT' _ sm, for_it walk_enumB (fun i σ H3 => ∃ o3 o4 o5, σ = [some (.ref T), some (.ref U), some (.ref d), o3, o4, o5] ∧ Same H H3 ∧ H3 d = some (.dK ((tk ++ ns.take i).map seenKv))) ⟨_, _, _, rfl, sm, by rw [List.take_zero, List.append_nil]; exact hd2⟩ (fun i σ H2 _ ⟨_, _, _, _, sm, _⟩ => hT' _ sm) ?_ ?_⟩
    · rintro i x σ H2 H3 hi ⟨o3, o4, o5, rfl, sm, hd2⟩ ⟨t, v1, v2, rfl, ht, rfl, hv1, hv2⟩
      obtain ⟨n, hn', rfl⟩ := get_map hv2
      obtain rfl := Option.some.inj hv1
      have fresh : n ∉ tk ++ ns.take i := fun q => by
        rcases List.mem_append.mp q with q | q
        · exact (List.nodup_append.mp nd).2.2 n q n (List.mem_of_getElem? hn') rfl
        · exact not_before (nodup_right nd) hn' q
      have hd3 := (upd_ne (o := .tup [.int (i : Nat), .str n]) (ne_of_none hd2 ht)).trans hd2
      refine ⟨t, _, rfl, SqT.of upd_same, rfl, _, _, rfl, _, _, rfl, rfl, _, rfl, n, rfl, good n (List.mem_of_getElem? hn'), fun H4 sm4 => ?_⟩
      have hd4 := sm4 _ _ hd3
      have g : DGet H4 d (.str n) none := by
        have z := DGet.k (k := Sum.inr n) hd4
        rwa [seen_none _ fresh] at z
      refine ⟨_, rfl, iteF ⟨_, rfl, _, rfl, d, _, rfl, g, _, rfl, iteF ?_⟩⟩
      refine ⟨_, rfl, _, rfl, d, _, rfl, DPut.k (k := Sum.inr n) hd4 (by rw [List.length_map, List.length_append, List.length_take, sizeLine_eq]; omega), _, _, _, rfl, fun c o h => (upd_ne (ne_of_none h hd)).trans (sm4 _ _ ((same_new ht) _ _ (sm c o h))), ?_⟩
      rw [upd_same, putK_new (seen_none _ fresh), List.take_succ, hn', ← List.append_assoc, List.map_append (l₁ := tk ++ ns.take i)]
      rfl
    · rintro σ H2 ⟨o3, o4, o5, rfl, sm, hd2⟩
      exact k H2 sm
end
end K6
namespace K6
open PySem PySem.Spec PyProof.Rows L2 LamX NdefX EV
theorem lit_mem {ns : List Str} {q : Bool × Str} (h : q.2 ∈ ns) : lit q ∈ lits ns := by
  refine List.mem_flatMap.mpr ⟨q.2, h, ?_⟩
  unfold lit
  split
  · exact List.mem_cons_of_mem _ List.mem_cons_self
  · exact List.mem_cons_self
theorem plc_some {ns : List Str} {l : Str} (nd : ns.Nodup) (good : ∀ z ∈ ns, Name1 z) (h : l ∈ lits ns) : ∃ v, valV (plc ns) (Sum.inr l) = some v := by
  obtain ⟨j, hj, ej⟩ := List.getElem_of_mem h
  exact ⟨_, plcF_at _ 0 j (lits_nodup ns nd good) (by rw [← ej]; exact List.getElem?_eq_getElem hj)⟩
/-- a thing that may not stand behind these literals in a clause -/
inductive BadV (K : PySem.W.Frag) (H : Hp) (ns : List Str) (qs : List (Bool × Str)) : V → Prop
  | odd {x : V} (t : Value) (ty : ∀ H', Same H H' → TyX K H' x t) (kit : PySem.W.kitOne K t (.type "str") = some false) : BadV K H ns qs x
  | far {z : Str} (h : z ∉ lits ns) : BadV K H ns qs (.str z)
  | twice {q : Bool × Str} (h : q.2 ∈ ns) (h2 : q.2 ∈ qs.map Prod.snd) : BadV K H ns qs (.str (lit q))
/-- things as a clause of the names ns: all right, or wrong behind some literals -/
inductive Seen (K : PySem.W.Frag) (H : Hp) (ns : List Str) : Bool → List V → Prop
  | ok {qs : List (Bool × Str)} (h : Lits ns qs) : Seen K H ns true ((qs.map lit).map V.str)
  | bad {qs : List (Bool × Str)} {x : V} {rest : List V} (h : Lits ns qs) (b : BadV K H ns qs x) : Seen K H ns false ((qs.map lit).map V.str ++ x :: rest)
def spWrong (K : PySem.W.Frag) : Sp := fun vs H Q _ => ∃ (PL A : Addr) (b : Bool) (ns : List Str) (xs : List V) (r : Bool), vs = [.ref PL, .ref A] ∧ H PL = some (.dK (plc ns)) ∧ Sq K b H A xs ∧ (∀ H', Same H H' → Sq K b H' A xs) ∧ ns.length ≤ 60 ∧ ns.Nodup ∧ (∀ z ∈ ns, Name1 z) ∧ Seen K H ns r xs ∧
  ∀ H', Same H H' → if r = true then Q .non H' else ∀ i : Int, Q (.int i) H'
section
variable {P : Program} {w : World} {K : PySem.W.Frag} {mg : Str → Option Value} {base : Heap} {f fN : Addr} {fd fdN : FuncData}
abbrev nWrong : List Str := ["places", "things", "seen", "index", "thing"]
theorem scWrong : FnScope nWrong ["places", "things"] (defScope sWrong) := ⟨rfl, rfl, rfl, by decide +kernel, rfl, by decide +kernel, by decide +kernel⟩
theorem ok_wrong (F : Fun K "first_wrong" "first_wrong" sWrong f fd) (GN : FnOk P w K mg base CX0 1 fN fdN ["literal"] spNameOf) (mN : mg "name_of" = some (.ref fN)) (kN : PySem.W.keepIn K (.ref fN) = true) (bN : L2.Binds K fdN ["literal"] []) (me : mg "enumerate" = none) (mi : mg "isinstance" = none) (ms : mg "str" = none) :
    FnOk P w K mg base CX0 2 f fd ["places", "things"] (spWrong K) := by
  refine F.ok scWrong (fun vs H Q E h => ?_) (fun cdv A' outer s H vs Q E hr h => ?_)
  · obtain ⟨PL, A, b, ns, xs, r, rfl, _⟩ := h
    rfl
  · obtain ⟨PL, A, b, ns, xs, r, rfl, hPL, hA, hA', hn, nd, good, see, k⟩ := h
    have hu := hu_of hr
    refine ⟨_, pss_cons (ps_set (i := 2) scWrong.nd rfl (.inl rfl) pe_dnewK)
      (pss_cons (ps_for PassesOwn.never rfl (pi_enumB (by rfl) me (pa_cons (pv 1) pa_nil)) (pg_tup rfl (pgs_cons (pg_name (i := 3) scWrong.nd rfl (.inl rfl)) (pgs_cons (pg_name (i := 4) scWrong.nd rfl (.inl rfl)) pgs_nil)))
        (pss_cons (ps_if (PW.pt (pw_or (pt_not (pt_val (pe_callB call_isi (by rfl) mi (by decide +kernel) (pa_cons (pv 4) (pa_cons (pe_bltn (v := .ty "str") (by rfl) ms (by decide +kernel) rfl) pa_nil))))) (pw_or (pt_cmp (pc_dnotin hu (pv 4) (pv 0))) (pw_or1 (pt_cmp (pc_din hu (pe_call GN hr (by rfl) mN kN bN .nil pass0 (pa_cons (pv 4) pa_nil)) (pv 2))))))) (pss_one (ps_ret (pv 3))) pss_nil)
        (pss_one (ps_dput hu (pv 2) (pe_call GN hr (by rfl) mN kN bN .nil pass0 (pa_cons (pv 4) pa_nil)) pe_bl rfl))))
      (pss_one (ps_ret pe_non))), ?_⟩
    obtain ⟨qs, tail, hq, rfl, h1, h2⟩ : ∃ qs tail, Lits ns qs ∧ xs = (qs.map lit).map V.str ++ tail ∧ (tail = [] → r = true) ∧ (∀ x rest, tail = x :: rest → r = false ∧ BadV K H ns qs x) := by
      cases see with
      | @ok qs h => exact ⟨qs, [], h, (List.append_nil _).symm, fun _ => rfl, fun x rest e => (nomatch e)⟩
      | @bad qs x rest h b =>
        refine ⟨qs, x :: rest, h, rfl, (fun e => (nomatch e)), fun y s e => ⟨rfl, ?_⟩⟩
        injection e with e1 _
        exact e1 ▸ b
    have few : qs.length ≤ ns.length := by
      have z := nodup_le (qs.map Prod.snd) ns hq.nd fun n hn => by
        obtain ⟨q, hq', rfl⟩ := List.mem_map.mp hn
        exact hq.sub q hq'
      rwa [List.length_map] at z
    have ll : ((qs.map lit).map V.str).length = qs.length := by rw [List.length_map, List.length_map]
    refine fun d hd => ⟨_, rfl, b, A, _, rfl, hA' _ (same_new hd), for_it walk_enumB (fun i σ H2 => ∃ o3 o4, σ = [some (.ref PL), some (.ref A), some (.ref d), o3, o4] ∧ i ≤ qs.length ∧ Same H H2 ∧ H2 d = some (.dK (((qs.map Prod.snd).take i).map seenKv))) ⟨_, _, rfl, Nat.zero_le _, same_new hd, upd_same⟩ (fun i σ H2 _ ⟨_, _, _, _, sm, _⟩ => hA' _ sm) ?_ ?_⟩
    · rintro i x σ H2 H3 hi ⟨o3, o4, rfl, ile, sm, hd2⟩ ⟨t, v1, v2, rfl, ht, rfl, hv1, hv2⟩
      obtain rfl := Option.some.inj hv1
      replace hv2 : ((qs.map lit).map V.str ++ tail)[i]? = some v2 := hv2
      have hd3 := (upd_ne (o := .tup [.int (i : Nat), v2]) (ne_of_none hd2 ht)).trans hd2
      have sm3 : Same H (upd H2 t (.tup [.int (i : Nat), v2])) := sm.trans (same_new ht)
      have hPL3 := sm3 _ _ hPL
      refine ⟨t, _, rfl, SqT.of upd_same, rfl, _, _, rfl, _, _, rfl, rfl, _, rfl, ?_⟩
      by_cases ilt : i < qs.length
      · -- a literal that may stand here
        obtain ⟨q, hqi⟩ : ∃ q, qs[i]? = some q := ⟨_, List.getElem?_eq_getElem ilt⟩
        have ev : v2 = .str (lit q) := by
          rw [List.getElem?_append_left (by rw [ll]; exact ilt), List.getElem?_map, List.getElem?_map, hqi] at hv2
          exact (Option.some.inj hv2).symm
        subst ev
        have mem := List.mem_of_getElem? hqi
        have qn : (qs.map Prod.snd)[i]? = some q.2 := by rw [List.getElem?_map, hqi]; rfl
        have fresh := not_before hq.nd qn
        obtain ⟨v, hv⟩ := plc_some nd good (lit_mem (hq.sub q mem))
        have g1 : DGet (upd H2 t (.tup [.int (i : Nat), .str (lit q)])) PL (.str (lit q)) (some v) := by
          have z := DGet.k (k := Sum.inr (lit q)) hPL3
          rwa [hv] at z
        have g2 : DGet (upd H2 t (.tup [.int (i : Nat), .str (lit q)])) d (.str q.2) none := by
          have z := DGet.k (k := Sum.inr q.2) hd3
          rwa [seen_none _ fresh] at z
        refine ⟨_, _, _, _, true, rfl, .ty "str", .base (.str _), kit_ty (by decide +kernel), _, rfl, iteF ⟨_, rfl, _, rfl, PL, _, rfl, g1, _, rfl, iteF ⟨_, rfl, q, rfl, good _ (hq.sub q mem), _, rfl, d, _, rfl, g2, _, rfl, iteF ?_⟩⟩⟩
        refine ⟨_, rfl, _, rfl, q, rfl, good _ (hq.sub q mem), d, _, rfl, DPut.k (k := Sum.inr q.2) hd3 (by rw [List.length_map, List.length_take, sizeLine_eq]; omega), _, _, rfl, ilt, fun c o h => (upd_ne (ne_of_none h hd)).trans (sm3 c o h), ?_⟩
        rw [upd_same, putK_new (seen_none _ fresh), List.take_succ, qn, List.map_append]
        rfl
      · -- the thing that may not
        have ie : i = qs.length := by omega
        obtain ⟨rest, et⟩ : ∃ rest, tail = v2 :: rest := by
          rw [List.getElem?_append_right (by rw [ll]; omega), ll, ie, Nat.sub_self] at hv2
          cases tail with
          | nil => cases hv2
          | cons y s => exact ⟨s, by rw [← Option.some.inj hv2]⟩
        obtain ⟨er, bad⟩ := h2 v2 rest et
        have fin : ∀ H', Same H H' → Q (.int (i : Int)) H' := fun H' s' => by
          have z := k H' s'
          rw [er] at z
          exact z i
        have hd3' := hd3
        rw [ie, List.take_of_length_le (by rw [List.length_map]; exact Nat.le_refl _)] at hd3'
        cases bad with
        | odd ty0 ty kit => exact ⟨_, _, _, _, false, rfl, .ty "str", ty _ sm3, kit, _, rfl, iteT ⟨_, rfl, fin _ sm3⟩⟩
        | @far z h =>
          have g1 : DGet (upd H2 t (.tup [.int (i : Nat), .str z])) PL (.str z) none := by
            have y := DGet.k (k := Sum.inr z) hPL3
            rwa [plcF_none _ 0 h] at y
          exact ⟨_, _, _, _, true, rfl, .ty "str", .base (.str _), kit_ty (by decide +kernel), _, rfl, iteF ⟨_, rfl, _, rfl, PL, _, rfl, g1, _, rfl, iteT ⟨_, rfl, fin _ sm3⟩⟩⟩
        | @twice q hq1 hq2 =>
          obtain ⟨v, hv⟩ := plc_some nd good (lit_mem hq1)
          have g1 : DGet (upd H2 t (.tup [.int (i : Nat), .str (lit q)])) PL (.str (lit q)) (some v) := by
            have z := DGet.k (k := Sum.inr (lit q)) hPL3
            rwa [hv] at z
          have g2 : DGet (upd H2 t (.tup [.int (i : Nat), .str (lit q)])) d (.str q.2) (some (.bl true)) := by
            have z := DGet.k (k := Sum.inr q.2) hd3'
            rw [seen_some _ hq2] at z
            rw [ie] at *
            exact z
          exact ⟨_, _, _, _, true, rfl, .ty "str", .base (.str _), kit_ty (by decide +kernel), _, rfl, iteF ⟨_, rfl, _, rfl, PL, _, rfl, g1, _, rfl, iteF ⟨_, rfl, q, rfl, good _ hq1, _, rfl, d, _, rfl, g2, _, rfl, iteT ⟨_, rfl, fin _ sm3⟩⟩⟩⟩
    · rintro σ H2 ⟨o3, o4, rfl, ile, sm, hd2⟩
      rw [List.length_append, ll] at ile
      have et : tail = [] := List.eq_nil_of_length_eq_zero (by omega)
      have z := k H2 sm
      rw [h1 et] at z
      exact z
end
end K6
namespace K6
open PySem PySem.Spec PyProof.Rows L2 LamX NdefX EV
/-- what the program asks of a thing: is it a clause of these names -/
inductive Ask (K : PySem.W.Frag) (H : Hp) (ns : List Str) : Bool → V → Prop
  | seq {b : Bool} {A : Addr} {xs : List V} {r : Bool} (t : Value) (ty : ∀ H', Same H H' → TyX K H' (.ref A) t) (kit : PySem.W.kitAny K t [.type "list", .type "tuple"] = some true) (sq : ∀ H', Same H H' → Sq K b H' A xs) (see : ∀ H', Same H H' → Seen K H' ns r xs) : Ask K H ns r (.ref A)
  | odd {x : V} (t : Value) (ty : ∀ H', Same H H' → TyX K H' x t) (kit : PySem.W.kitAny K t [.type "list", .type "tuple"] = some false) : Ask K H ns false x
theorem Ask.same {K : PySem.W.Frag} {H H' : Hp} {ns : List Str} {r : Bool} {x : V} (sm : Same H H') (a : Ask K H ns r x) : Ask K H' ns r x := by
  cases a with
  | seq t ty kit sq see => exact .seq t (fun H2 s2 => ty H2 (sm.trans s2)) kit (fun H2 s2 => sq H2 (sm.trans s2)) fun H2 s2 => see H2 (sm.trans s2)
  | odd t ty kit => exact .odd t (fun H2 s2 => ty H2 (sm.trans s2)) kit
def spIsClause (K : PySem.W.Frag) : Sp := fun vs H Q _ => ∃ (PL : Addr) (x : V) (ns : List Str) (r : Bool), vs = [.ref PL, x] ∧ H PL = some (.dK (plc ns)) ∧ ns.length ≤ 60 ∧ ns.Nodup ∧ (∀ z ∈ ns, Name1 z) ∧ Ask K H ns r x ∧ ∀ H', Same H H' → Q (.bl r) H'
section
variable {P : Program} {w : World} {K : PySem.W.Frag} {mg : Str → Option Value} {base : Heap} {f fL fW fC : Addr} {fd fdL fdW fdC : FuncData}
theorem scIsClause : FnScope ["places", "thing"] ["places", "thing"] (defScope sIsClause) := ⟨rfl, rfl, rfl, by decide +kernel, rfl, by decide +kernel, by decide +kernel⟩
theorem ok_isClause (F : Fun K "is_clause" "is_clause" sIsClause f fd) (GL : FnOk P w K mg base CX0 1 fL fdL ["thing"] (spIsList K)) (mL : mg "is_list" = some (.ref fL)) (kL : PySem.W.keepIn K (.ref fL) = true) (bL : L2.Binds K fdL ["thing"] [])
    (GW : FnOk P w K mg base CX0 2 fW fdW ["places", "things"] (spWrong K)) (mW : mg "first_wrong" = some (.ref fW)) (kW : PySem.W.keepIn K (.ref fW) = true) (bW : L2.Binds K fdW ["places", "things"] []) :
    FnOk P w K mg base CX0 3 f fd ["places", "thing"] (spIsClause K) := by
  refine F.ok scIsClause (fun vs H Q E h => ?_) (fun cdv A' outer s H vs Q E hr h => ?_)
  · obtain ⟨PL, x, ns, r, rfl, _⟩ := h
    rfl
  · obtain ⟨PL, x, ns, r, rfl, hPL, hn, nd, good, ask, k⟩ := h
    have hr1 : Room 1 _ := hr.mono (by decide)
    refine ⟨_, pss_one (ps_ret (pe_and (pe_call GL hr1 (by rfl) mL kL bL .nil pass0 (pa_cons (pv 1) pa_nil)) (pe_one (pe_cmpR op_isN (pe_call GW hr (by rfl) mW kW bW .nil pass0 (pa_cons (pv 0) (pa_cons (pv 1) pa_nil))) pe_non rfl)))), ?_⟩
    cases ask with
    | @seq b A xs _ t ty kit sq see =>
      refine ⟨_, rfl, .ref A, t, true, rfl, ty, kit, fun H1 sm1 => ⟨_, rfl, iteT ⟨_, rfl, _, rfl, PL, A, b, ns, xs, r, rfl, sm1 _ _ hPL, sq H1 sm1, (fun H2 s2 => sq H2 (sm1.trans s2)), hn, nd, good, see H1 sm1, fun H2 sm2 => ?_⟩⟩⟩
      cases r with
      | true => exact ⟨rfl, k H2 (sm1.trans sm2)⟩
      | false => exact fun i => ⟨rfl, k H2 (sm1.trans sm2)⟩
    | odd t ty kit => exact ⟨_, rfl, x, t, false, rfl, ty, kit, fun H1 sm1 => ⟨_, rfl, iteF (k H1 sm1)⟩⟩
end
end K6
/-! set(xs) of a tuple or list of distinct keys; set == set. -/
namespace EV
open PySem PySem.Spec PyProof.Rows L2
section
variable {prog : Program} {w : World} {K : Type} [DecidableEq K] [BEq K] [LawfulBEq K] {knd : KeyKind prog w K} {A : Around}
/-- the loop that fills a set from a walk: each key is new -/
theorem fill_loop {R : Result → Shared → Prop} {I : Addr} {fp wr : List Addr} {G : Array GenState → Array GenState → Prop} {n : Nat} {Pv : Nat → Value → Prop} {St : Nat → Shared → Prop}
    (W : WalksS prog w A.in1 I fp wr G n Pv St) (D : Addr) (off : D ∉ fp) (ks : List K) (len : ks.length = n) (few : n < 4000) (nd : ks.Nodup)
    (val : ∀ i v, Pv i v → ∃ k, ks[i]? = some k ∧ knd.is k v = true ∧ v.scannable = true) : ∀ (m i : Nat) (s : Shared), i + m = n → St i s → s.heap.SetOf knd D (fun j => decide (j ∈ ks.take i)) i →
      (∀ s', Moved (D :: wr) G s s' → s'.heap.SetOf knd D (fun j => decide (j ∈ ks)) n → R (.ok (.ret .none)) s') →
      codeAny (model prog w) A (.builtin "set.update.loop" ⟨[.ref D, .ref I], []⟩) R s := by
  have offw : D ∉ wr := fun h => off (W.sub _ h)
  have wide : ∀ b ∈ wr, b ∈ D :: wr := fun b hb => List.mem_cons_of_mem _ hb
  have stays : ∀ {h h' : Heap} {S : K → Bool} {c : Nat}, h.SetOf knd D S c → (∀ o, h.get? D = some o → h'.get? D = some o) → h'.SetOf knd D S c := fun x k => by
    obtain ⟨o, es, ep, t, ho, rest⟩ := x
    exact ⟨o, es, ep, t, k o ho, rest⟩
  intro m
  induction m with
  | zero =>
    intro i s sum st hS fin
    obtain rfl : i = n := sum
    refine codeAny_builtin PyProof.Rows.F.entry_set_update_loop ?_
    rw [Around.under_plainId PyProof.Rows.F.plain_set_update_loop _]
    show wpAny _ A.in1 (pyNext (.ref I) >>= _) _ _ s
    refine wpAny_bind (W.done s _ _ st fun s' mv => ?_)
    show wpAny _ A.in1 (ret Value.none) _ _ s'
    rw [← len, List.take_length] at hS
    exact wpAny_pure (fin s' (mv.mono wide) (len ▸ stays hS fun o e => mv.heap D _ offw e))
  | succ m ih =>
    intro i s sum st hS fin
    have lt : i < n := by omega
    refine codeAny_builtin PyProof.Rows.F.entry_set_update_loop ?_
    rw [Around.under_plainId PyProof.Rows.F.plain_set_update_loop _]
    show wpAny _ A.in1 (pyNext (.ref I) >>= _) _ _ s
    refine wpAny_bind (W.item i s _ _ lt st fun v s' hv st' mv => ?_)
    obtain ⟨k, hk, isk, sc⟩ := val i v hv
    have hS' : s'.heap.SetOf knd D (fun j => decide (j ∈ ks.take i)) i := stays hS fun o e => mv.heap D _ offw e
    show wpAny _ A.in1 (holding [v] (setAdd D v) >>= _) _ _ s'
    refine wpAny_bind (wpAny_holding ?_)
    unfold setAdd
    refine wpAny_holding (wpAny_bind (knd.pyHash (k := k) isk ?_))
    refine wpAny_setAddHashed_of (knd := knd) (s := { s' with toks := s'.toks + 1 }) isk sc hS' (by unfold scanBound; omega) fun h' sb hS2 => ?_
    have new : k ∉ ks.take i := fun q => by
      obtain ⟨j, hj, e⟩ := List.getElem_of_mem q
      have il := (List.getElem?_eq_some_iff.mp hk).1
      have jl : j < i := by rw [List.length_take] at hj; omega
      rw [List.getElem_take] at e
      have z : ks[j]? = some k := by rw [← e]; exact List.getElem?_eq_getElem _
      exact absurd ((List.getElem?_inj (by omega) nd).mp (z.trans hk.symm)) (by omega)
    have hS3 : h'.SetOf knd D (fun j => decide (j ∈ ks.take (i + 1))) (i + 1) := by
      refine SetOf_congr hS2 (fun j => ?_) (by rw [decide_eq_false new]; rfl)
      rw [List.take_succ, hk]
      show (decide (j ∈ ks.take i) || decide (j = k)) = decide (j ∈ ks.take i ++ [k])
      rw [← Bool.decide_or]
      exact decide_eq_decide.mpr (by rw [List.mem_append, List.mem_singleton])
    refine wpAny_pure ⟨plainId_quiet PyProof.Rows.F.plain_set_update_loop _, ih (i + 1) _ (by omega) (W.frame _ s' _ _ st' (Nat.le_succ _) fun b hb o e => ?_) hS3 fun s2 mv2 hS4 => ?_⟩
    · exact (sb.2 b fun q => off (q ▸ hb)).trans e
    · refine fin s2 (Moved.trans W.gtrans ((mv.mono wide).then_heap (Nat.le_succ _) fun b o hb e => ?_) mv2) hS4
      exact (sb.2 b fun q => hb (q ▸ List.mem_cons_self)).trans e
end
section
variable {prog : Program} {w : World} {K : Type} [DecidableEq K] [BEq K] [LawfulBEq K] {knd : KeyKind prog w K} {A : Around} {E : Value → Shared → Prop} {s : Shared}
/-- set(t), t a tuple of distinct keys -/
theorem call_setOf {l : Addr} {items : Array Value} {ks : List K} {Q : Value → Shared → Prop} (hh : A.handled = none) (hl : s.heap.IsTuple l items) (len : ks.length = items.size) (few : items.size < 4000) (nd : ks.Nodup)
    (val : ∀ (i : Nat) (v : Value), items[i]? = some v → ∃ k, ks[i]? = some k ∧ knd.is k v = true ∧ v.scannable = true)
    (h : ∀ (h' : Heap) (tk : Nat), h'.SetOf knd s.heap.objs.size (fun j => decide (j ∈ ks)) items.size → (∀ b o, b < s.heap.objs.size → s.heap.get? b = some o → h'.get? b = some o) → Q (.ref s.heap.objs.size) { s with heap := h', toks := tk }) :
    wpAny (model prog w) A (call (.type "set") [.ref l]) Q E s := by
  have made := PySem.F.called_set.made
  have subs := PySem.F.called_set.sub
  have nt := PySem.F.called_set.notType
  have cc := PySem.F.called_set.canCreate
  have tc := PySem.F.typeCall_set_1 (.ref l)
  obtain ⟨c, tl, mro⟩ := PySem.F.called_set.mro
  refine wpAny_call (codeAny_of_tree ?_)
  show wpAny _ _ (callAny (.type "set") _) _ _ _
  refine wpAny_pure ⟨Code.quiet_builtin _ (by decide +kernel), codeAny_builtin PySem.F.entry_type_call ?_⟩
  rw [Around.under_plain (weight_type_call_type "set" [.ref l] []) rfl]
  repeat (any_goals (first | assumption | wp_step))
  refine codeAny_mono (code_set_new_1 (.ref l) (E := E) (Q₁ := fun obj s₁ => ∃ led : Bool, obj = .ref s.heap.objs.size ∧ s₁ = { s with heap := s.heap.push { cls := .type "set", dict := none, data := .set #[] 0 (.fresh 0 0 led) } }) fun led => ⟨led, rfl, rfl⟩) fun res s₁ got => ?_
  match res, got with
  | .error _, got => exact got
  | .ok .next, got => exact got.elim
  | .ok .brk, got => exact got.elim
  | .ok .cont, got => exact got.elim
  | .ok (.ret _), ⟨led, e1, e2⟩ =>
  subst e1 e2
  have hS : (s.heap.push { cls := .type "set", dict := none, data := .set #[] 0 (.fresh 0 0 led) }).get? s.heap.objs.size = some { cls := .type "set", dict := none, data := .set #[] 0 (.fresh 0 0 led) } := Heap.get?_push_size _ rfl
  have hT : Shared.TypeIs { s with heap := s.heap.push { cls := .type "set", dict := none, data := .set #[] 0 (.fresh 0 0 led) } } (.ref s.heap.objs.size) "set" := ⟨_, hS, rfl⟩
  have il := PySem.F.called_set.init.lookup
  have ib := PySem.F.called_set.init.bind (.ref s.heap.objs.size)
  repeat (any_goals (first | assumption | wp_step))
  refine codeAny_mono (codeAny_call_builtin (R := wants (fun r s₂ => r = .none ∧ Q (.ref s.heap.objs.size) s₂) E) PySem.F.called_set.init.plain PySem.F.entry_set_init (check_set_init_1 hT ?_)) fun res s₂ got => ?_
  rotate_left
  · match res, got with
    | .error _, got => exact got
    | .ok .next, got => exact got.elim
    | .ok .brk, got => exact got.elim
    | .ok .cont, got => exact got.elim
    | .ok (.ret _), ⟨e1, q⟩ =>
      subst e1
      repeat (any_goals (first | assumption | wp_step))
  obtain ⟨⟨oc, od, dt, osl⟩, at0, hc, n, hd⟩ := hl
  obtain rfl : oc = .type "tuple" := hc
  obtain rfl : dt = .seq items n := hd
  have at1 : (s.heap.push { cls := .type "set", dict := none, data := .set #[] 0 (.fresh 0 0 led) }).get? l = some { cls := .type "tuple", dict := od, data := .seq items n, slots := osl } := Heap.get?_push_of_some _ at0
  have s1 := PySem.F.sub_tuple_set
  have s2 := PySem.F.sub_tuple_frozenset
  have nd1 : (Value.type "tuple" == Value.type "dict") = false := by decide
  have tup : (s.heap.push { cls := .type "set", dict := none, data := .set #[] 0 (.fresh 0 0 led) }).IsTuple l items := ⟨_, at1, rfl, n, rfl⟩
  unfold Builtin.«set.__init__» noKeywords Builtin.Frozenset.updateFrom
  generalize hPI : pyIter = PI
  wp_walk
  subst hPI
  refine wpAny_pyIter_tuple tup ?_
  refine wpAny_bind (wpAny_runValue ?_)
  have ll : l < s.heap.objs.size := Heap.lt_size at0
  have hh3 : A.in1.in1.in1.handled = none := by simp [hh]
  have up : (s.heap.push { cls := .type "set", dict := none, data := .set #[] 0 (.fresh 0 0 led) }).objs.size = s.heap.objs.size + 1 := Heap.size_push ..
  have ne : l ≠ (s.heap.push { cls := .type "set", dict := none, data := .set #[] 0 (.fresh 0 0 led) }).objs.size := by
    rw [up]
    exact Nat.ne_of_lt (Nat.lt_succ_of_lt ll)
  have off : s.heap.objs.size ∉ [(s.heap.push { cls := .type "set", dict := none, data := .set #[] 0 (.fresh 0 0 led) }).objs.size, l] := fun q => by
    rcases List.mem_cons.mp q with q | q
    · rw [up] at q
      exact Nat.ne_of_lt (Nat.lt_succ_self _) q
    · exact Nat.ne_of_gt ll (List.mem_singleton.mp q)
  refine fill_loop (knd := knd) ((Walks.tuple hh3 _ l ne items).toS) s.heap.objs.size off ks len few nd val items.size 0 _ (Nat.zero_add _) ⟨⟨_, Heap.get?_push_size _ rfl, rfl, rfl⟩, tup.push _⟩ ?_ fun s' mv hS' => ?_
  · exact SetOf_congr ((PyProof.Rows.setObjOf_fresh (knd := knd) led).setOf (Heap.get?_push_of_some _ hS) (by unfold scanBound; omega)) (fun j => (decide_eq_false (by rw [List.take_zero]; exact List.not_mem_nil)).symm) rfl
  · obtain ⟨h', g', d', tk', os'⟩ := s'
    obtain rfl : g' = s.gens := mv.gens
    obtain rfl : d' = s.drawn := mv.drawn
    obtain rfl : os' = s.os := mv.os
    show wpAny _ _ _ _ _ _
    refine wpAny_pure ?_
    show wpAny _ _ (ret Value.none) _ _ _
    refine wpAny_pure ⟨rfl, h h' tk' hS' fun b o hb e => ?_⟩
    refine mv.heap b o (fun q => ?_) (Heap.get?_push_of_some _ (Heap.get?_push_of_some _ e))
    rcases List.mem_cons.mp q with q | q
    · exact Nat.ne_of_lt hb q
    · have z := List.mem_singleton.mp q
      rw [up] at z
      exact Nat.ne_of_lt (Nat.lt_succ_of_lt hb) z
end
theorem entry_setEq : entryFor table "set.__eq__" = some Builtin.«frozenset.__eq__» :=
  entryFor_alias (id' := "frozenset.__eq__") (by kernel_rfl) rfl (by decide +kernel) (by kernel_rfl)
section
variable {prog : Program} {w : World} {K : Type} [DecidableEq K] [BEq K] [LawfulBEq K] {knd : KeyKind prog w K} {A : Around} {E : Value → Shared → Prop} {s : Shared}
theorem quiet_of {M : Model} {x : Value} {Q : Bool → Shared → Prop} (h : x.scannable = true) (k : Q true s) : wpAny M A (Builtin.Frozenset.quietEq x) Q E s := by
  cases x <;> first | exact wpAny_pure k | exact Bool.noConfusion h
/-- is one set part of the other -/
theorem sub_sets {nm : String} {a b : Addr} {S T : K → Bool} {n m : Nat} {r : Bool} {Q : Bool → Shared → Prop} (ha : s.heap.SetOf knd a S n) (hb : s.heap.SetOf knd b T m) (le : n ≤ m) (hr : r = true ↔ ∀ k, S k = true → T k = true) (h : Q r s) :
    wpAny (model prog w) A (Builtin.Frozenset.subsetOf nm a b) Q E s := by
  obtain ⟨oa, es, ep, ta, hoa, hxa, hda, hka, hma, hba, hfa, rfl⟩ := id ha
  obtain ⟨ob, es', ep', tb, hob, hxb, hdb, hkb, hmb, hbb, hfb, rfl⟩ := id hb
  unfold Builtin.Frozenset.subsetOf Builtin.Frozenset.sizeOf
  refine wpAny_bind (wpAny_bind (wpAny_setEntries_of hoa hda hfa (wpAny_pure ?_)))
  refine wpAny_bind (wpAny_bind (wpAny_setEntries_of hob hdb hfb (wpAny_pure ?_)))
  rw [if_neg (Nat.not_lt.mpr le)]
  refine wpAny_bind (wpAny_setEpoch_of hoa hda hfa ?_)
  refine wpAny_bind ?_
  unfold Builtin.Frozenset.walkUnseen
  refine wpAny_bind (wpAny_setEntries_of hoa hda hfa ?_)
  refine wpAny_bind (wpAny_setEntries_of hob hdb hfb ?_)
  refine wpAny_bind (wpAny_forIn_list _ (fun rest q s' => s' = s ∧ q = (none, ()) ∧ ∀ e ∈ rest, e.2.scannable = true) _ ?_ ?_ _ _ ⟨rfl, rfl, fun e he => (List.mem_append.mp he).elim (fun z => (hka e z).2) fun z => (hkb e z).2⟩)
  · rintro ⟨hx, x⟩ rest q s1 ⟨rfl, rfl, sc⟩
    refine wpAny_bind (quiet_of (sc _ List.mem_cons_self) ?_)
    rw [if_neg (by decide)]
    exact wpAny_pure ⟨rfl, rfl, fun e he => sc e (List.mem_cons_of_mem _ he)⟩
  · rintro q s1 ⟨rfl, rfl, _⟩
    refine wpAny_pure ?_
    refine wpAny_bind (wpAny_forIn_list _ (fun rest q s' => s' = s1 ∧ q = (none, ()) ∧ (∀ e ∈ rest, e ∈ es.toList) ∧ ((∀ e ∈ rest, ∀ k, knd.is k e.2 = true → T k = true) → r = true)) _ ?_ ?_ _ _ ⟨rfl, rfl, fun e he => he, fun z => hr.2 fun k hk => ?_⟩)
    · rintro ⟨hx, x⟩ rest q s2 ⟨rfl, rfl, sub, up⟩
      obtain ⟨⟨k, isk, rfl⟩, sc⟩ := hka _ (sub _ List.mem_cons_self)
      refine wpAny_bind (wpAny_holding (wpAny_setFind_of isk sc hb fun i hi => ?_))
      have inS : S k = true := (hma k).2 ⟨_, sub _ List.mem_cons_self, isk⟩
      cases hT : T k with
      | true =>
        rw [hT] at hi
        obtain ⟨j, rfl⟩ := Option.isSome_iff_exists.mp hi
        rw [if_neg (by simp)]
        unfold Builtin.Frozenset.unchanged
        refine wpAny_bind (wpAny_bind (wpAny_setEpoch_of hoa hda hfa ?_))
        rw [if_neg (by simp)]
        refine wpAny_pure (wpAny_pure ⟨rfl, rfl, fun e he => sub e (List.mem_cons_of_mem _ he), fun z => up fun e he => ?_⟩)
        rcases List.mem_cons.mp he with rfl | he
        · intro k' hk'
          obtain rfl := knd.inj _ _ _ hk' isk
          exact hT
        · exact z e he
      | false =>
        rw [hT] at hi
        obtain rfl : i = none := by simpa using hi
        rw [if_pos (show (none : Option Nat).isNone = true from rfl)]
        have rf : r = false := by
          cases r with
          | false => rfl
          | true => exact absurd (hr.1 rfl k inS) (by rw [hT]; decide)
        rw [rf] at h
        exact wpAny_pure (wpAny_pure h)
    · rintro q s2 ⟨rfl, rfl, _, up⟩
      have rt : r = true := up fun e he => nomatch he
      rw [rt] at h
      exact wpAny_pure h
    · obtain ⟨e, he, q⟩ := (hma k).1 hk
      exact z e he k q
end
end EV
/-! set == set. -/
namespace EV
open PySem PySem.Spec PyProof.Rows L2
section
variable {prog : Program} {w : World} {K : Type} [DecidableEq K] [BEq K] [LawfulBEq K] {knd : KeyKind prog w K} {A : Around} {E : Value → Shared → Prop} {s : Shared}
/-- set == set -/
theorem eq_sets {a b : Addr} {S T : K → Bool} {n m : Nat} {r : Bool} {Q : Value → Shared → Prop} (hu : A.units < cLine) (ha : s.heap.SetOf knd a S n) (hb : s.heap.SetOf knd b T m) (hr : r = true ↔ n = m ∧ ∀ k, S k = true → T k = true) (h : Q (.bool r) s) :
    wpAny (model prog w) A (richCompare .Eq (.ref a) (.ref b)) Q E s := by
  refine wpAny_richCompare_same_room (op := .Eq) ha.typeIs hb.typeIs PySem.F.slot_set_eq (wpAny_call_entry PySem.F.slot_set_eq ha.typeIs entry_setEq ?_ (PySem.F.args_set_eq_2 _ _)) hu
  unfold Builtin.«frozenset.__eq__»
  wp_delta
  refine wpAny_bind ?_
  unfold Builtin.Frozenset.slot1 slotArgs
  simp only [List.isEmpty_nil, Bool.not_true, Bool.false_eq_true, ↓reduceIte, bind_assoc, List.length_cons, List.length_nil, bne_self_eq_false]
  refine wpAny_bind (wpAny_pure ?_)
  try dsimp only
  refine wpAny_pure ?_
  try dsimp only
  unfold Builtin.Frozenset.isAnySet
  refine wpAny_bind ?_
  unfold orM
  refine wpAny_bind (wpAny_isInstance (b := true) hb.typeIs PySem.F.sub_set_set ?_)
  refine wpAny_pure ?_
  rw [if_neg (by decide)]
  unfold Builtin.Frozenset.addrOf Builtin.Frozenset.sizeOf
  refine wpAny_bind (wpAny_pure ?_)
  refine wpAny_bind (wpAny_pure ?_)
  obtain ⟨oa, es, ep, ta, hoa, hxa, hda, hka, hma, hba, hfa, rfl⟩ := id ha
  obtain ⟨ob, es', ep', tb, hob, hxb, hdb, hkb, hmb, hbb, hfb, rfl⟩ := id hb
  refine wpAny_bind (wpAny_bind (wpAny_setEntries_of hoa hda hfa (wpAny_pure ?_)))
  refine wpAny_bind (wpAny_bind (wpAny_setEntries_of hob hdb hfb (wpAny_pure ?_)))
  refine wpAny_bind ?_
  by_cases e : es.size = es'.size
  · rw [if_neg (by rw [e]; simp)]
    refine wpAny_bind ?_
    unfold andM
    refine wpAny_bind (wpAny_isInstance (b := false) ha.typeIs PySem.F.sub_set_frozenset ?_)
    refine wpAny_pure ?_
    rw [if_neg (by decide)]
    refine sub_sets (r := r) ha hb (Nat.le_of_eq e) (hr.trans ⟨fun z => z.2, fun z => ⟨e, z⟩⟩) ?_
    exact wpAny_pure ⟨_, rfl, (fun z => nomatch z), h⟩
  · rw [if_pos (by simpa using e)]
    have rf : r = false := by
      cases r with
      | false => rfl
      | true => exact absurd (hr.1 rfl).1 e
    rw [rf] at h
    exact wpAny_pure (wpAny_pure ⟨_, rfl, (fun z => nomatch z), h⟩)
end
end EV
/-! set(t) of a tuple of distinct texts, == of such sets, as rules. -/
namespace EV
open PySem PySem.Spec PyProof.Rows L2
/-- the set of these texts, distinct -/
def SetX (P : Program) (w : World) (a : Addr) (xs : List Str) : HO := .ext fun h => h.SetOf (PySem.strKind P w) a (fun j => decide (j ∈ xs)) xs.length
theorem setX_new {P : Program} {w : World} {H : Hp} {h : Heap} {a : Addr} {xs : List Str} (R : h.SetOf (PySem.strKind P w) a (fun j => decide (j ∈ xs)) xs.length) : ObjOk P w H h a (SetX P w a xs) := by
  have ⟨o, _, _, _, ho, _⟩ := R
  exact ⟨R, ⟨o, ho⟩, fun h1 h2 p k => by
    obtain ⟨o, es, ep, t, ho, r⟩ := p
    exact ⟨o, es, ep, t, k o ho, r⟩⟩
theorem txt_at : ∀ {xs : List Str} {us : List Value}, Vals (xs.map V.str) us → ∀ (i : Nat) (v : Value), us[i]? = some v → ∃ k t, xs[i]? = some k ∧ v = .str k t
  | [], _, .nil, i, v, h => by simp at h
  | x :: xs, _, .cons ⟨t, e⟩ r, 0, v, h => ⟨x, t, rfl, (Option.some.inj h).symm.trans e⟩
  | x :: xs, _, .cons _ r, i + 1, v, h => txt_at r i v h
section
variable {X : Cx}
def rSetX (K : PySem.W.Frag) (P : Program) (w : World) : List V → Hp → VK → Prop := fun vs H Q => ∃ (l : Addr) (xs : List Str), vs = [V.ref l] ∧ SqT K H l (xs.map V.str) ∧ xs.Nodup ∧ xs.length < 4000 ∧ ∀ a, H a = none → Q (.ref a) (upd H a (SetX P w a xs))
theorem cr_setX (hc : X.calm = true) : CallR X (.type "set") (rSetX X.K X.prog X.w) := by
  intro pins s σ H vs us Q I r h
  obtain ⟨l, xs, rfl, hl, nd, few, q⟩ := h
  rw [Vals.ref1 r]
  obtain ⟨its, rv, p, hz⟩ := I.tuple hl
  have hp : s.heap.IsTuple l its.toArray := p
  have len : xs.length = its.length := by
    have z := rv.length
    rwa [List.length_map] at z
  refine call_setOf (knd := PySem.strKind X.prog X.w) (ks := xs) (I.ok.hd hc) hp (by simpa using len) (by simp; omega) nd (fun i v hv => ?_) fun h' tk R k => ?_
  · obtain ⟨k, t, h1, rfl⟩ := txt_at rv i v (by simpa using hv)
    exact ⟨k, h1, strKind_is _ _ _ _, rfl⟩
  · have R2 : h'.SetOf (PySem.strKind X.prog X.w) s.heap.objs.size (fun j => decide (j ∈ xs)) xs.length := by
      have e : its.toArray.size = xs.length := by simpa using len.symm
      rw [← e]
      exact R
    exact ⟨.ref s.heap.objs.size, upd H s.heap.objs.size (SetX X.prog X.w s.heap.objs.size xs), I.laid (t' := tk) (fun b u e => k b u (Heap.lt_size e) e) (Nat.le_refl _) (setX_new R2), rfl, q _ (I.hok.fresh (Nat.le_refl _))⟩
/-- do two lists of distinct texts have the same members -/
def sameMem (xs ys : List Str) : Bool := xs.length == ys.length && xs.all fun x => decide (x ∈ ys)
theorem sameMem_iff {xs ys : List Str} : sameMem xs ys = true ↔ xs.length = ys.length ∧ ∀ x ∈ xs, x ∈ ys := by
  unfold sameMem
  rw [Bool.and_eq_true, beq_iff_eq, List.all_eq_true]
  exact ⟨fun h => ⟨h.1, fun x hx => of_decide_eq_true (h.2 x hx)⟩, fun h => ⟨h.1, fun x hx => decide_eq_true (h.2 x hx)⟩⟩
def rEqX (P : Program) (w : World) : V → V → Hp → VK → Prop := fun x y H Q => ∃ (a b : Addr) (xs ys : List Str), x = .ref a ∧ y = .ref b ∧ H a = some (SetX P w a xs) ∧ H b = some (SetX P w b ys) ∧ Q (.bl (sameMem xs ys)) H
theorem op_eqX (hu : X.A.units < cLine) : OpR X (compareOp .Eq) (rEqX X.prog X.w) := by
  intro pins s σ H x y v u Q I rx ry h
  obtain ⟨a, b, xs, ys, rfl, rfl, ha, hb, q⟩ := h
  obtain rfl : v = Value.ref a := rx
  obtain rfl : u = Value.ref b := ry
  have ra : s.heap.SetOf (PySem.strKind X.prog X.w) a (fun j => decide (j ∈ xs)) xs.length := (I.hok a _ ha).1
  have rb : s.heap.SetOf (PySem.strKind X.prog X.w) b (fun j => decide (j ∈ ys)) ys.length := (I.hok b _ hb).1
  show wpAny (model X.prog X.w) X.A (richCompare .Eq (.ref a) (.ref b)) (EP X pins σ Q) X.xe s
  refine eq_sets (r := sameMem xs ys) hu ra rb (sameMem_iff.trans ?_) ⟨.bl (sameMem xs ys), H, I, rfl, q⟩
  refine ⟨fun h => ⟨h.1, fun k hk => decide_eq_true (h.2 k (of_decide_eq_true hk))⟩, fun h => ⟨h.1, fun x hx => of_decide_eq_true (h.2 x (decide_eq_true hx))⟩⟩
end
end EV
/-! len, in, == and != of instances with methods of their own for them: any answer. -/
namespace EV
open PySem PySem.Spec PyProof.Rows L2
section
variable {X : Cx} {CX : CXT} {n : Nat} {C f : Addr} {fd : FuncData} {ps : List Str} {sp : Sp} {E : XK}
/-- an own function, called by the machine with values that stand for these -/
theorem own_call {A : Around} {pins : List (Addr × Obj)} {σ : L2.St} {H : Hp} {s : Shared} {vs : List V} {us : List Value} {Q : VK} (sb : L2.Sub X n A) (I : Inv X pins σ H s) (F : FnOk X.prog X.w X.K X.mg X.base CX n f fd ps sp) (hb : L2.Binds X.K fd ps []) (hx : Passes CX X E) (r : Vals vs us) (hsp : sp vs H Q E) :
    wpAny (model X.prog X.w) A (call (.ref f) us) (fun v s' => ∃ z H', Inv X pins σ H' s' ∧ RelV z v ∧ Q z H') X.xe s := by
  have e0 : Env0 X.prog X.w X.K X.mg X.base A X.stack s H := by
    have e := I.env0
    exact ⟨by rw [sb.fr]; exact e.frames, e.mod, e.bs, e.bsz, e.funs, e.frf, e.hok, e.bare⟩
  have hl := F.len _ _ _ _ hsp
  have hl2 : us.length = ps.length := r.length.symm.trans hl
  refine wpAny_call (codeAny_mono (F.run A X.stack s H ⟨us, []⟩ us vs _ E sb.room e0 (by
    have z := hb s us I.kIn (by simpa using hl2)
    simpa using z) r hsp) fun r s' hq => ?_)
  cases r with
  | error e => exact hx pins σ H s e s' I hq
  | ok fl =>
    cases fl with
    | ret w =>
      obtain ⟨z, H', I', rz, q⟩ := I.after hq
      exact ⟨z, H', I', rz, q⟩
    | next => exact False.elim hq
    | brk => exact False.elim hq
    | cont => exact False.elim hq
/-- what an own method for a question asks: it answers with a truth value -/
def rOwn (C : Addr) (sp : Sp) (E : XK) (x y : V) (H : Hp) (Q : Bool → Hp → Prop) : Prop := ∃ a dx fs, x = .ref a ∧ H a = some (.ins C dx fs) ∧ sp [.ref a, y] H (fun v H' => ∃ b, v = .bl b ∧ Q b H') E
theorem op_inOwn (F : FnOk X.prog X.w X.K X.mg X.base CX n f fd ps sp) (hs : PySem.W.findIn X.K (.ref C) "__contains__" = some (some (.ref f))) (hf : PySem.W.isFn X.K (.ref f) = true) (hb : L2.Binds X.K fd ps []) (hx : Passes CX X E) (hr : Room n X.A) :
    OpR X (compareOp .In) fun x y H Q => rOwn C sp E y x H fun b H' => Q (.bl b) H' := by
  intro pins s σ H x y v u Q I rx ry h
  obtain ⟨a, dx, fs, rfl, ha, hsp⟩ := h
  obtain rfl : u = Value.ref a := ry
  obtain ⟨mA, J, _⟩ := ins_get I.hok ha
  obtain ⟨od, J, _⟩ := J.look
  obtain ⟨m, hF⟩ := I.fr
  refine PySem.W.in_K hF I.ok.mod.kin J hs hf (wpAny_mono (own_call (Q := fun v H' => ∃ b, v = .bl b ∧ Q (.bl b) H') ⟨hr, rfl⟩ I F hb hx (.cons (show RelV (.ref a) (.ref a) from rfl) (.cons rx .nil)) hsp) (fun w s' z => ?_) fun _ _ e => e)
  obtain ⟨z, H', I', rz, b, rfl, q⟩ := z
  obtain rfl : w = Value.bool b := rz
  exact wpAny_truthy_bool ⟨.bl b, H', I', rfl, q⟩
theorem call_lenOwn (F : FnOk X.prog X.w X.K X.mg X.base CX n f fd ps sp) (hs : PySem.W.findIn X.K (.ref C) "__len__" = some (some (.ref f))) (hf : PySem.W.isFn X.K (.ref f) = true) (hb : L2.Binds X.K fd ps []) (hx : Passes CX X E) (hr : Room (n + 1) X.A) :
    CallR X (.builtin "len") fun vs H Q => ∃ a dx fs, vs = [.ref a] ∧ H a = some (.ins C dx fs) ∧ sp [.ref a] H (fun v H' => ∃ k : Nat, v = .int (k : Int) ∧ k < 1000000 ∧ Q (.int (k : Int)) H') E := by
  intro pins s σ H xs us Q I r h
  obtain ⟨a, dx, fs, rfl, ha, hsp⟩ := h
  obtain ⟨u, rfl, ru⟩ := vals1 r
  obtain rfl : u = Value.ref a := ru
  obtain ⟨mA, J, _⟩ := ins_get I.hok ha
  obtain ⟨od, J, _⟩ := J.look
  obtain ⟨m, hF⟩ := I.fr
  have sb : L2.Sub X (n + 1) X.A := ⟨hr, rfl⟩
  refine PySem.W.len_K hF I.ok.mod.kin J hs hf (wpAny_mono (own_call (Q := fun v H' => ∃ k : Nat, v = .int (k : Int) ∧ k < 1000000 ∧ Q (.int (k : Int)) H') sb.in1 I F hb hx (.cons (show RelV (.ref a) (.ref a) from rfl) .nil) hsp) (fun w s' z => ?_) fun _ _ e => e)
  obtain ⟨z, H', I', rz, k, rfl, lt, q⟩ := z
  obtain ⟨t, rfl⟩ := rz
  exact ⟨⟨by omega, by omega⟩, .int (k : Int), H', I'.tok _, ⟨_, rfl⟩, q⟩
/-- ==, the left one an instance whose class has a method of its own for it; the other one of a class that does not come first -/
theorem op_eqOwn (F : FnOk X.prog X.w X.K X.mg X.base CX n f fd ps sp) (hs : PySem.W.findIn X.K (.ref C) "__eq__" = some (some (.ref f))) (hf : PySem.W.isFn X.K (.ref f) = true) (hb : L2.Binds X.K fd ps []) (hx : Passes CX X E) (hr : Room n X.A) :
    OpR X (compareOp .Eq) fun x y H Q => ∃ t, TyX X.K H y t ∧ PySem.W.notFirst X.K C t = true ∧ rOwn C sp E x y H fun b H' => Q (.bl b) H' := by
  intro pins s σ H x y v u Q I rx ry h
  obtain ⟨t, ty, nf, a, dx, fs, rfl, ha, hsp⟩ := h
  obtain rfl : v = Value.ref a := rx
  obtain ⟨mA, J, _⟩ := ins_get I.hok ha
  obtain ⟨od, J, _⟩ := J.look
  obtain ⟨m, hF⟩ := I.fr
  obtain ⟨P, Z, hP, _⟩ := kit_of I ry ty
  show wpAny (model X.prog X.w) X.A (richCompare .Eq (.ref a) u) (EP X pins σ Q) X.xe s
  refine PySem.W.cmp_K (op := .Eq) (tb := t) hr.units0 hF I.ok.mod.kin J (Z.ty _ _ I.kIn hP) nf hs hf (wpAny_mono (own_call (Q := fun v H' => ∃ b, v = .bl b ∧ Q (.bl b) H') ⟨hr, rfl⟩ I F hb hx (.cons (show RelV (.ref a) (.ref a) from rfl) (.cons ry .nil)) hsp) (fun w s' z => ?_) fun _ _ e => e)
  obtain ⟨z, H', I', rz, b, rfl, q⟩ := z
  obtain rfl : w = Value.bool b := rz
  exact ⟨.bl b, H', I', rfl, q⟩
end
end EV
/-! != of instances by object.__ne__ and an own __eq__; of things of built-in types and an instance. -/
namespace EV
open PySem PySem.Spec PyProof.Rows L2
open AutoSeq1 (wpAny_loadPart')
section
variable {M : Model} {prog : Program} {w : World} {A : Around} {E : Value → Shared → Prop} {s : Shared} {K : PySem.W.Frag} {x C dx : Addr} {od : Option Obj}
theorem not_inst {T : String} {Q : Bool → Shared → Prop} (X : K.In s.heap) (at0 : s.heap.get? x = some (PySem.W.instObj C dx)) (e : PySem.W.subIn K (.ref C) (.type T) = some false) (h : Q false s) : wpAny M A (isInstance (.ref x) (.type T)) Q E s := by
  unfold isInstance
  exact wpAny_bind (wpAny_typeOf_ref at0 ((PySem.W.looks_subIn X e).here h))
theorem no_str {Q : Option Str → Shared → Prop} (at0 : s.heap.get? x = some (PySem.W.instObj C dx)) (h : Q none s) : wpAny M A (asStr? (.ref x)) Q E s := by
  unfold asStr?
  exact wpAny_bind (wpAny_load at0 (wpAny_pure h))
theorem no_int {Q : Option Int → Shared → Prop} (at0 : s.heap.get? x = some (PySem.W.instObj C dx)) (h : Q none s) : wpAny M A (asInt? (.ref x)) Q E s := by
  unfold asInt?
  exact wpAny_bind (wpAny_load at0 (wpAny_pure h))
theorem ne_none {Q : Value → Shared → Prop} (h : Q .notImplemented s) : wpAny (model prog w) A (call (.builtin "NoneType.__ne__") [.none, .ref x]) Q E s :=
  call_gives F.slot_NoneType_ne rfl F.entry_NoneType_ne (F.args_NoneType_ne_2 _ _) (PySem.SeqAt.NoneType___ne___none_ref_0 x) h
theorem ne_int {i : Int} {t : Tok} {Q : Value → Shared → Prop} (at0 : s.heap.get? x = some (PySem.W.instObj C dx)) (h : Q .notImplemented s) : wpAny (model prog w) A (call (.builtin "int.__ne__") [.int i t, .ref x]) Q E s := by
  refine wpAny_call_entry F.slot_int_ne (show s.TypeIs (.int i t) "int" from typeIs_int s i t) F.entry_int_ne ?_ (F.args_int_ne_2 _ _)
  obtain ⟨hp, g, d, tk, os⟩ := s
  wp_walk using wpAny_load at0
  exact ⟨_, rfl, h⟩
theorem ne_str {y : Str} {t : Tok} {Q : Value → Shared → Prop} (at0 : s.heap.get? x = some (PySem.W.instObj C dx)) (h : Q .notImplemented s) : wpAny (model prog w) A (call (.builtin "str.__ne__") [.str y t, .ref x]) Q E s := by
  refine wpAny_call_entry F.slot_str_ne (show s.TypeIs (.str y t) "str" from typeIs_str s y t) F.entry_str_ne ?_ (F.args_str_ne_2 _ _)
  obtain ⟨hp, g, d, tk, os⟩ := s
  wp_walk using wpAny_load at0
  exact ⟨_, rfl, h⟩
theorem ne_list {l : Addr} {Q : Value → Shared → Prop} (X : K.In s.heap) (at0 : s.heap.get? x = some (PySem.W.instObj C dx)) (e : PySem.W.subIn K (.ref C) (.type "list") = some false) (hl : s.TypeIs (.ref l) "list") (h : Q .notImplemented s) :
    wpAny (model prog w) A (call (.builtin "list.__ne__") [.ref l, .ref x]) Q E s := by
  refine wpAny_call_entry F.slot_list_ne hl F.entry_list_ne ?_ (F.args_list_ne_2 _ _)
  wp_walk using not_inst X at0 e
  exact ⟨_, rfl, h⟩
theorem ne_tuple {l : Addr} {Q : Value → Shared → Prop} (X : K.In s.heap) (at0 : s.heap.get? x = some (PySem.W.instObj C dx)) (e : PySem.W.subIn K (.ref C) (.type "tuple") = some false) (hl : s.TypeIs (.ref l) "tuple") (h : Q .notImplemented s) :
    wpAny (model prog w) A (call (.builtin "tuple.__ne__") [.ref l, .ref x]) Q E s := by
  refine wpAny_call_entry F.slot_tuple_ne hl F.entry_tuple_ne ?_ (F.args_tuple_ne_2 _ _)
  wp_walk using not_inst X at0 e
  exact ⟨_, rfl, h⟩
theorem ne_dict {l : Addr} {Q : Value → Shared → Prop} (X : K.In s.heap) (at0 : s.heap.get? x = some (PySem.W.instObj C dx)) (e : PySem.W.subIn K (.ref C) (.type "dict") = some false) (hl : s.TypeIs (.ref l) "dict") (h : Q .notImplemented s) :
    wpAny (model prog w) A (call (.builtin "dict.__ne__") [.ref l, .ref x]) Q E s := by
  refine wpAny_call_entry F.slot_dict_ne hl F.entry_dict_ne ?_ (F.args_dict_ne_2 _ _)
  show wpAny _ _ (Builtin.Dict.dictSlotArgs "__ne__" ⟨[.ref l, .ref x], []⟩ >>= _) _ _ s
  refine wpAny_bind ?_
  unfold Builtin.Dict.dictSlotArgs
  refine wpAny_bind (wpAny_notOrdered_dict hl ?_)
  show wpAny _ _ (pure (Value.ref l, Value.ref x)) _ _ s
  refine wpAny_pure ?_
  refine wpAny_bind (not_inst X at0 e ?_)
  rw [if_pos (by decide)]
  exact wpAny_bind (wpAny_rule (wpAny_pure ⟨_, rfl, h⟩))
/-- object.__ne__ of an instance asks its own __eq__ -/
theorem call_objNe {f : Addr} {b : Value} {ox : Obj} {Q : Value → Shared → Prop} (hu : A.units + 1 < cLine) (X : K.In s.heap) (I : PySem.W.InstAt s.heap x ox C od) (hm : PySem.W.mroIn K C (.type "object") = some true) (hs : PySem.W.findIn K (.ref C) "__eq__" = some (some (.ref f))) (hf : PySem.W.isFn K (.ref f) = true)
    (h : wpAny (model prog w) A.in1 (call (.ref f) [.ref x, b]) (fun v s' => ∃ r, v = .bool r ∧ Q (.bool (!r)) s') E s) : wpAny (model prog w) A (call (.builtin "object.__ne__") [.ref x, b]) Q E s := by
  refine wpAny_call (codeAny_call_builtin F.cmp_object.ne.plain F.cmpEntry_ne (PySem.W.check_slot F.cmpKind_ne F.cmpSplit_ne (I.type.andThen (PySem.W.looks_mroIn X hm)) (F.cmpArgs_ne _ _) ?_))
  unfold Builtin.«object.__ne__»
  refine wpAny_bind (m := slotArgs "__ne__" 1 ⟨[.ref x, b], []⟩) (wpAny_pure ?_)
  dsimp only
  refine wpAny_bind (wpAny_cRoomFor hu ?_)
  refine wpAny_bind (PySem.W.ifBound_K X I hs hf (wpAny_mono h (fun v s' hv => ?_) fun _ _ e => e))
  obtain ⟨r, rfl, q⟩ := hv
  show wpAny _ _ (truthy (Value.bool r) >>= _) _ _ _
  refine wpAny_bind (wpAny_truthy_bool ?_)
  exact wpAny_pure q
theorem bound_ne {args : List Value} {ox : Obj} {Q : Option Value → Shared → Prop} (X : K.In s.heap) (I : PySem.W.InstAt s.heap x ox C od) (hs : PySem.W.findIn K (.ref C) "__ne__" = some (some (.builtin "object.__ne__")))
    (h : wpAny M A (call (.builtin "object.__ne__") (.ref x :: args)) (fun v => Q (some v)) E s) : wpAny M A (callSpecialIfBound? (.ref x) "__ne__" args) Q E s := by
  simp only [callSpecialIfBound?, bindSpecialIfBound?]
  refine wpAny_holding (wpAny_bind (wpAny_bind (wpAny_bind (I.type.here ((PySem.W.looks_findIn X hs).here ?_)))))
  have last : wpAny M A (call (.builtin "object.__ne__") ([.ref x] ++ args) >>= fun v => pure (some v)) Q E s := wpAny_bind (wpAny_mono h (fun v s' q => wpAny_pure q) fun _ _ q => q)
  refine wpAny_bind (wpAny_askSetting (wpAny_ite ?_))
  split
  · exact wpAny_bind (wpAny_of_eq (F.cmp_object.ne.bind _) (wpAny_pure (by exact last)))
  · exact wpAny_tryCatch (wpAny_bind (wpAny_of_eq (F.cmp_object.ne.bind _) (wpAny_pure (by exact last))))
/-- x.__ne__(b), x an instance -/
theorem try_ne {f : Addr} {b : Value} {ox : Obj} {Q : Value → Shared → Prop} (hu : A.units + 1 < cLine) (X : K.In s.heap) (I : PySem.W.InstAt s.heap x ox C od) (hm : PySem.W.mroIn K C (.type "object") = some true) (hs : PySem.W.findIn K (.ref C) "__eq__" = some (some (.ref f))) (hf : PySem.W.isFn K (.ref f) = true) (hn : PySem.W.findIn K (.ref C) "__ne__" = some (some (.builtin "object.__ne__")))
    (h : wpAny (model prog w) A.in1 (call (.ref f) [.ref x, b]) (fun v s' => ∃ r, v = .bool r ∧ Q (.bool (!r)) s') E s) : wpAny (model prog w) A (tryCompare (.ref x) "__ne__" b) (fun r s' => ∃ v, r = some v ∧ Q v s') E s := by
  unfold tryCompare
  refine wpAny_bind (bound_ne X I hn (call_objNe hu X I hm hs hf (wpAny_mono h (fun v s' hv => ?_) fun _ _ e => e)))
  obtain ⟨r, rfl, q⟩ := hv
  exact ⟨r, rfl, wpAny_pure ⟨_, rfl, q⟩⟩
/-- x != b, x an instance -/
theorem rc_neL {f : Addr} {b tb : Value} {ox : Obj} {Q : Value → Shared → Prop} (hu : A.units + 1 < cLine) (X : K.In s.heap) (I : PySem.W.InstAt s.heap x ox C od) (hb : PySem.W.Looks (model prog w) s.heap (typeOf b) tb) (nf : PySem.W.notFirst K C tb = true) (hm : PySem.W.mroIn K C (.type "object") = some true) (hs : PySem.W.findIn K (.ref C) "__eq__" = some (some (.ref f))) (hf : PySem.W.isFn K (.ref f) = true) (hn : PySem.W.findIn K (.ref C) "__ne__" = some (some (.builtin "object.__ne__")))
    (h : wpAny (model prog w) A.in1 (call (.ref f) [.ref x, b]) (fun v s' => ∃ r, v = .bool r ∧ Q (.bool (!r)) s') E s) : wpAny (model prog w) A (richCompare .NotEq (.ref x) b) Q E s := by
  have one := try_ne hu X I hm hs hf hn h
  unfold richCompare
  simp only [oneThing_ref]
  refine wpAny_holding (wpAny_bind (wpAny_cRoomFor (Nat.lt_of_succ_lt hu) ?_))
  rw [cmpInfo_NotEq]
  dsimp only
  refine wpAny_bind (I.type.here (wpAny_bind (hb.here ?_)))
  split
  · rename_i q
    have e : PySem.W.subIn K tb (.ref C) = some false := by
      rcases Bool.or_eq_true_iff.mp nf with e | e
      · rw [beq_iff_eq.mp e] at q
        simp at q
      · exact beq_iff_eq.mp e
    refine wpAny_bind ((PySem.W.looks_subIn X e).here ?_)
    simp only [Bool.false_eq_true, if_false]
    refine wpAny_bind (wpAny_mono one (fun r s' z => ?_) fun _ _ e => e)
    obtain ⟨v, rfl, hq⟩ := z
    exact wpAny_pure hq
  · refine wpAny_bind (wpAny_pure ?_)
    simp only [Bool.false_eq_true, if_false]
    refine wpAny_bind (wpAny_mono one (fun r s' z => ?_) fun _ _ e => e)
    obtain ⟨v, rfl, hq⟩ := z
    exact wpAny_pure hq
/-- a != x, a of a built-in type whose __ne__ declines -/
theorem rc_neR {f : Addr} {a : Value} {T id : String} {ox : Obj} {Q : Value → Shared → Prop} (hu : A.units + 1 < cLine) (X : K.In s.heap) (I : PySem.W.InstAt s.heap x ox C od) (ha : s.TypeIs a T) (one : oneThing? .NotEq a (.ref x) = none) (ns : PySem.W.subIn K (.ref C) (.type T) = some false) (sl : Slot T "__ne__" id) (dec : ∀ (Q : Value → Shared → Prop), Q .notImplemented s → wpAny (model prog w) A (call (.builtin id) [a, .ref x]) Q E s)
    (hm : PySem.W.mroIn K C (.type "object") = some true) (hs : PySem.W.findIn K (.ref C) "__eq__" = some (some (.ref f))) (hf : PySem.W.isFn K (.ref f) = true) (hn : PySem.W.findIn K (.ref C) "__ne__" = some (some (.builtin "object.__ne__")))
    (h : wpAny (model prog w) A.in1 (call (.ref f) [.ref x, a]) (fun v s' => ∃ r, v = .bool r ∧ Q (.bool (!r)) s') E s) : wpAny (model prog w) A (richCompare .NotEq a (.ref x)) Q E s := by
  have two := try_ne hu X I hm hs hf hn h
  unfold richCompare
  simp only [one]
  refine wpAny_holding (wpAny_bind (wpAny_cRoomFor (Nat.lt_of_succ_lt hu) ?_))
  rw [cmpInfo_NotEq]
  dsimp only
  refine wpAny_bind (wpAny_typeOf ha (wpAny_bind (I.type.here ?_)))
  have rest : wpAny (model prog w) A (do
      if let some v ← tryCompare a "__ne__" (.ref x) then return v
      if let some v ← tryCompare (.ref x) "__ne__" a then return v
      rule "compare.ne-identity"; return .bool (!(← isSame a (.ref x)))) Q E s := by
    refine wpAny_bind (wpAny_tryCompare_declines ha sl (dec _ ⟨rfl, ?_⟩))
    refine wpAny_bind (wpAny_mono two (fun r s' z => ?_) fun _ _ e => e)
    obtain ⟨v, rfl, hq⟩ := z
    exact wpAny_pure hq
  split
  · refine wpAny_bind ((PySem.W.looks_subIn X ns).here ?_)
    simp only [Bool.false_eq_true, if_false, Bool.not_false, if_true]
    exact rest
  · refine wpAny_bind (wpAny_pure ?_)
    simp only [Bool.false_eq_true, if_false, Bool.not_false, if_true]
    exact rest
end
end EV
/-! != of an instance with an own __eq__ and any other thing, as a rule. -/
namespace EV
open PySem PySem.Spec PyProof.Rows L2
def oddTypes : List String := ["NoneType", "int", "str", "list", "tuple", "dict"]
structure NeTxt (K : PySem.W.Frag) (C f : Addr) : Prop where
  eq : PySem.W.findIn K (.ref C) "__eq__" = some (some (.ref f))
  fn : PySem.W.isFn K (.ref f) = true
  ne : PySem.W.findIn K (.ref C) "__ne__" = some (some (.builtin "object.__ne__"))
  obj : PySem.W.mroIn K C (.type "object") = some true
  sub : ∀ T ∈ oddTypes, PySem.W.subIn K (.ref C) (.type T) = some false
/-- things of built-in types, as left ones -/
inductive OddL (K : PySem.W.Frag) (H : Hp) : V → Prop
  | non : OddL K H .non
  | int (i : Int) : OddL K H (.int i)
  | str (z : Str) : OddL K H (.str z)
  | lst {a : Addr} {xs : List V} (h : SqL K H a xs) : OddL K H (.ref a)
  | tup {a : Addr} {xs : List V} (h : SqT K H a xs) : OddL K H (.ref a)
  | dct {a : Addr} {kvs : List (Key × V)} (h : H a = some (.dK kvs)) : OddL K H (.ref a)
section
variable {X : Cx} {CX : CXT} {n : Nat} {C f : Addr} {fd : FuncData} {ps : List Str} {sp : Sp} {E : XK}
def rNeL (K : PySem.W.Frag) (C : Addr) (sp : Sp) (E : XK) (x y : V) (H : Hp) (Q : VK) : Prop := ∃ a dx fs t, x = .ref a ∧ H a = some (.ins C dx fs) ∧ TyX K H y t ∧ PySem.W.notFirst K C t = true ∧ sp [.ref a, y] H (fun v H' => ∃ b, v = .bl b ∧ Q (.bl !b) H') E
def rNeR (K : PySem.W.Frag) (C : Addr) (sp : Sp) (E : XK) (x y : V) (H : Hp) (Q : VK) : Prop := ∃ a dx fs, y = .ref a ∧ H a = some (.ins C dx fs) ∧ OddL K H x ∧ sp [.ref a, x] H (fun v H' => ∃ b, v = .bl b ∧ Q (.bl !b) H') E
theorem op_neOwn (F : FnOk X.prog X.w X.K X.mg X.base CX n f fd ps sp) (T : NeTxt X.K C f) (hb : L2.Binds X.K fd ps []) (hx : Passes CX X E) (hr : Room (n + 1) X.A) :
    OpR X (compareOp .NotEq) fun x y H Q => rNeL X.K C sp E x y H Q ∨ rNeR X.K C sp E x y H Q := by
  intro pins s σ H x y v u Q I rx ry h
  have sb : L2.Sub X (n + 1) X.A := ⟨hr, rfl⟩
  have hu : X.A.units + 1 < cLine := hu_of hr
  show wpAny (model X.prog X.w) X.A (richCompare .NotEq v u) (EP X pins σ Q) X.xe s
  rcases h with ⟨a, dx, fs, t, rfl, ha, ty, nf, hsp⟩ | ⟨a, dx, fs, rfl, ha, odd, hsp⟩
  · obtain rfl : v = Value.ref a := rx
    obtain ⟨mA, J, _⟩ := ins_get I.hok ha
    obtain ⟨od, J, _⟩ := J.look
    obtain ⟨P, Z, hP, _⟩ := kit_of I ry ty
    refine rc_neL hu I.kIn J (Z.ty _ _ I.kIn hP) nf T.obj T.eq T.fn T.ne (wpAny_mono (own_call (Q := fun v H' => ∃ b, v = .bl b ∧ Q (.bl !b) H') sb.in1 I F hb hx (.cons (show RelV (.ref a) (.ref a) from rfl) (.cons ry .nil)) hsp) (fun w s' z => ?_) fun _ _ e => e)
    obtain ⟨z, H', I', rz, b, rfl, q⟩ := z
    obtain rfl : w = Value.bool b := rz
    exact ⟨b, rfl, .bl !b, H', I', rfl, q⟩
  · obtain rfl : u = Value.ref a := ry
    obtain ⟨mA, J0, _⟩ := ins_get I.hok ha
    have at0 := J0.obj
    obtain ⟨od, J, _⟩ := J0.look
    have inner : ∀ {w : Value}, RelV x w → wpAny (model X.prog X.w) X.A.in1 (call (.ref f) [.ref a, w]) (fun v s' => ∃ r, v = .bool r ∧ EP X pins σ Q (.bool (!r)) s') X.xe s := fun rw' => by
      refine wpAny_mono (own_call (Q := fun v H' => ∃ b, v = .bl b ∧ Q (.bl !b) H') sb.in1 I F hb hx (.cons (show RelV (.ref a) (.ref a) from rfl) (.cons rw' .nil)) hsp) (fun w s' z => ?_) fun _ _ e => e
      obtain ⟨z, H', I', rz, b, rfl, q⟩ := z
      obtain rfl : w = Value.bool b := rz
      exact ⟨b, rfl, .bl !b, H', I', rfl, q⟩
    have sub : ∀ T' ∈ oddTypes, PySem.W.subIn X.K (.ref C) (.type T') = some false := T.sub
    cases odd with
    | non =>
      obtain rfl : v = Value.none := rx
      exact rc_neR hu I.kIn J rfl rfl (sub "NoneType" (by decide)) PySem.F.slot_NoneType_ne (fun Q q => ne_none q) T.obj T.eq T.fn T.ne (inner rfl)
    | int i =>
      obtain ⟨t, rfl⟩ := rx
      exact rc_neR hu I.kIn J (typeIs_int s i t) rfl (sub "int" (by decide)) PySem.F.slot_int_ne (fun Q q => ne_int at0 q) T.obj T.eq T.fn T.ne (inner ⟨t, rfl⟩)
    | str z =>
      obtain ⟨t, rfl⟩ := rx
      exact rc_neR hu I.kIn J (typeIs_str s z t) rfl (sub "str" (by decide)) PySem.F.slot_str_ne (fun Q q => ne_str at0 q) T.obj T.eq T.fn T.ne (inner ⟨t, rfl⟩)
    | @lst l xs hl =>
      obtain rfl : v = Value.ref l := rx
      obtain ⟨its, _, p, _⟩ := I.list hl
      have tl : s.TypeIs (.ref l) "list" := p.isList.elim fun o q => ⟨o, q.1, q.2.1⟩
      exact rc_neR hu I.kIn J tl rfl (sub "list" (by decide)) PySem.F.slot_list_ne (fun Q q => ne_list I.kIn at0 (sub "list" (by decide)) tl q) T.obj T.eq T.fn T.ne (inner rfl)
    | @tup l xs hl =>
      obtain rfl : v = Value.ref l := rx
      obtain ⟨its, _, p, _⟩ := I.tuple hl
      have hp : s.heap.IsTuple l its.toArray := p
      have tl : s.TypeIs (.ref l) "tuple" := hp.elim fun o q => ⟨o, q.1, q.2.1⟩
      exact rc_neR hu I.kIn J tl rfl (sub "tuple" (by decide)) PySem.F.slot_tuple_ne (fun Q q => ne_tuple I.kIn at0 (sub "tuple" (by decide)) tl q) T.obj T.eq T.fn T.ne (inner rfl)
    | @dct l kvs hl =>
      obtain rfl : v = Value.ref l := rx
      obtain ⟨_, hd, vs, rel, dd⟩ := dk_of I.hok hl
      have tl : s.TypeIs (.ref l) "dict" := dd.typeIs
      exact rc_neR hu I.kIn J tl rfl (sub "dict" (by decide)) PySem.F.slot_dict_ne (fun Q q => ne_dict I.kIn at0 (sub "dict" (by decide)) tl q) T.obj T.eq T.fn T.ne (inner rfl)
end
end EV
namespace K6
open PySem PySem.Spec PyProof.Rows L2 LamX NdefX EV
/-! ### rows as literals of distinct names -/
theorem lit_inj {p q : Bool × Str} (hp : Name1 p.2) (hq : Name1 q.2) (e : lit p = lit q) : p = q := by
  obtain ⟨a, m⟩ := p
  obtain ⟨b, n⟩ := q
  unfold lit at e
  cases a <;> cases b <;> simp at e
  · rw [e]
  · exact (name_neg hp e).elim
  · exact (name_neg hq e.symm).elim
  · rw [neg_inj e]
def pairs (ns : List Str) : List (Bool × Str) := ns.flatMap fun n => [(false, n), (true, n)]
theorem pairs_lit : ∀ ns : List Str, (pairs ns).map lit = lits ns
  | [] => rfl
  | n :: r => by
    show lit (false, n) :: lit (true, n) :: (pairs r).map lit = n :: neg n :: lits r
    rw [pairs_lit r]
    rfl
theorem pairs_mem {ns : List Str} {q : Bool × Str} : q ∈ pairs ns ↔ q.2 ∈ ns := by
  unfold pairs
  rw [List.mem_flatMap]
  constructor
  · rintro ⟨n, hn, h⟩
    rcases List.mem_cons.mp h with h | h
    · rw [h]; exact hn
    · rw [List.mem_singleton.mp h]; exact hn
  · intro h
    refine ⟨q.2, h, ?_⟩
    obtain ⟨b, n⟩ := q
    cases b <;> simp
theorem pairs_nodup : ∀ (ns : List Str) (p : Bool × Str → Bool), ns.Nodup → (∀ n ∈ ns, ¬ (p (false, n) = true ∧ p (true, n) = true)) → (((pairs ns).filter p).map Prod.snd).Nodup
  | [], _, _, _ => List.nodup_nil
  | n :: r, p, nd, one => by
    obtain ⟨n1, n2⟩ := List.nodup_cons.mp nd
    have ih := pairs_nodup r p n2 fun m hm => one m (List.mem_cons_of_mem _ hm)
    have fresh : n ∉ ((pairs r).filter p).map Prod.snd := fun q => by
      obtain ⟨z, hz, e⟩ := List.mem_map.mp q
      have z2 := pairs_mem.mp (List.mem_filter.mp hz).1
      rw [e] at z2
      exact n1 z2
    have o := one n List.mem_cons_self
    show ((((false, n) :: (true, n) :: pairs r).filter p).map Prod.snd).Nodup
    cases h1 : p (false, n) with
    | true =>
      have h2 : p (true, n) = false := by
        cases h2 : p (true, n) with
        | false => rfl
        | true => exact absurd ⟨h1, h2⟩ o
      rw [List.filter_cons_of_pos h1, List.filter_cons_of_neg (by rw [h2]; decide), List.map_cons]
      exact List.nodup_cons.mpr ⟨fresh, ih⟩
    | false =>
      rw [List.filter_cons_of_neg (by rw [h1]; decide)]
      cases h2 : p (true, n) with
      | true =>
        rw [List.filter_cons_of_pos h2, List.map_cons]
        exact List.nodup_cons.mpr ⟨fresh, ih⟩
      | false =>
        rw [List.filter_cons_of_neg (by rw [h2]; decide)]
        exact ih
/-- a row is a clause again -/
theorem RowOf.lits {ns r : List Str} (nd : ns.Nodup) (good : ∀ z ∈ ns, Name1 z) (h : RowOf ns r) : ∃ qs, Lits ns qs ∧ r = qs.map lit := by
  obtain ⟨qs, hq, rfl⟩ := h
  refine ⟨(pairs ns).filter fun q => decide (lit q ∈ qs.map lit), ⟨pairs_nodup ns _ nd ?_, fun q h => pairs_mem.mp (List.mem_filter.mp h).1⟩, ?_⟩
  · rintro n hn ⟨h1, h2⟩
    obtain ⟨p, hp, e1⟩ := List.mem_map.mp (of_decide_eq_true h1)
    obtain ⟨q, hq', e2⟩ := List.mem_map.mp (of_decide_eq_true h2)
    have p1 := lit_inj (good _ (hq.sub p hp)) (good n hn) e1
    have q1 := lit_inj (good _ (hq.sub q hq')) (good n hn) e2
    subst p1 q1
    have same : ∀ {qs : List (Bool × Str)} {p q : Bool × Str}, (qs.map Prod.snd).Nodup → p ∈ qs → q ∈ qs → p.2 = q.2 → p = q := fun {qs} => by
      induction qs with
      | nil => intro p q _ h; cases h
      | cons z r ih =>
        intro p q nd hp hq e
        rw [List.map_cons] at nd
        obtain ⟨m1, m2⟩ := List.nodup_cons.mp nd
        rcases List.mem_cons.mp hp with h1 | h1
        · rcases List.mem_cons.mp hq with h2 | h2
          · exact h1.trans h2.symm
          · exact absurd (h1 ▸ e ▸ List.mem_map_of_mem h2 : z.2 ∈ r.map Prod.snd) m1
        · rcases List.mem_cons.mp hq with h2 | h2
          · exact absurd (h2 ▸ e ▸ List.mem_map_of_mem h1 : z.2 ∈ r.map Prod.snd) m1
          · exact ih m2 h1 h2 e
    have z := same hq.nd hp hq' rfl
    cases z
  · unfold asc
    rw [← pairs_lit, List.filter_map]
    rfl
theorem Lits.names {ns ns' : List Str} {qs : List (Bool × Str)} (h : Lits ns qs) (sub : ∀ z ∈ ns, z ∈ ns') : Lits ns' qs := ⟨h.nd, fun q hq => sub _ (h.sub q hq)⟩
theorem lits_mem {ns : List Str} {l : Str} : l ∈ lits ns ↔ ∃ n ∈ ns, l = n ∨ l = neg n := by
  unfold lits
  rw [List.mem_flatMap]
  constructor
  · rintro ⟨n, hn, h⟩
    rcases List.mem_cons.mp h with h | h
    · exact ⟨n, hn, .inl h⟩
    · exact ⟨n, hn, .inr (List.mem_singleton.mp h)⟩
  · rintro ⟨n, hn, h | h⟩
    · exact ⟨n, hn, by rw [h]; exact List.mem_cons_self⟩
    · exact ⟨n, hn, by rw [h]; exact List.mem_cons_of_mem _ (List.mem_singleton.mpr rfl)⟩
theorem asc_congr {ns a b : List Str} (h : ∀ l, l ∈ a ↔ l ∈ b) : asc ns a = asc ns b := by
  unfold asc
  refine List.filter_congr fun l _ => ?_
  exact decide_eq_decide.mpr (h l)
theorem asc_asc {ns ls : List Str} : asc ns (asc ns ls) = asc ns ls := by
  unfold asc
  refine List.filter_congr fun l hl => ?_
  exact decide_eq_decide.mpr ⟨fun h => of_decide_eq_true (List.mem_filter.mp h).2, fun h => List.mem_filter.mpr ⟨hl, decide_eq_true h⟩⟩
end K6
namespace K6
open PySem PySem.Spec PyProof.Rows L2 LamX NdefX EV
/-! ### rows, each once -/
def addRow (rs : List (List Str)) (r : List Str) : List (List Str) := if r ∈ rs then rs else rs ++ [r]
def rowKv (r : List Str) : List Key × V := (r.map Sum.inr, .bl true)
theorem inr_inj : ∀ {a b : List Str}, a.map (Sum.inr : Str → Key) = b.map Sum.inr → a = b
  | [], [], _ => rfl
  | [], _ :: _, h => nomatch h
  | _ :: _, [], h => nomatch h
  | x :: a, y :: b, h => by
    injection h with h1 h2
    injection h1 with h1
    rw [h1, inr_inj h2]
theorem row_some {r : List Str} : ∀ rs : List (List Str), r ∈ rs → valV (rs.map rowKv) (r.map Sum.inr) = some (.bl true)
  | [], h => nomatch h
  | m :: rs, h => by
    by_cases e : m = r
    · subst e
      exact valV_pos rfl
    · rw [List.map_cons, valV_neg (fun q => e (inr_inj q))]
      exact row_some rs ((List.mem_cons.mp h).resolve_left fun q => e q.symm)
theorem row_none {r : List Str} : ∀ rs : List (List Str), r ∉ rs → valV (rs.map rowKv) (r.map Sum.inr) = none
  | [], _ => rfl
  | m :: rs, h => by
    rw [List.map_cons, valV_neg (fun q => h (by rw [inr_inj q]; exact List.mem_cons_self))]
    exact row_none rs fun q => h (List.mem_cons_of_mem _ q)
theorem row_put {rs : List (List Str)} {r : List Str} : putK (rs.map rowKv) (r.map Sum.inr) (.bl true) = (addRow rs r).map rowKv := by
  unfold addRow
  by_cases h : r ∈ rs
  · rw [if_pos h]
    unfold putK
    rw [valV_any, row_some rs h]
    show List.map (fun kv => if kv.1 = r.map Sum.inr then (kv.1, V.bl true) else kv) (List.map rowKv rs) = _
    rw [List.map_map]
    refine List.map_congr_left fun m _ => ?_
    show (if (rowKv m).1 = _ then _ else _) = _
    split
    · rfl
    · rfl
  · rw [if_neg h, putK_new (row_none rs h), List.map_append]
    rfl
theorem addRow_len (rs : List (List Str)) (r : List Str) : (addRow rs r).length ≤ rs.length + 1 := by
  unfold addRow
  split
  · omega
  · rw [List.length_append]; exact Nat.le_refl _
theorem kV_strs (r : List Str) : (r.map (Sum.inr : Str → Key)).map kV = r.map V.str := by
  rw [List.map_map]
  rfl
/-- the rows of clauses, each once, in the order in which they come -/
def rowsOf (ns : List Str) (qss : List (List (Bool × Str))) : List (List Str) := (qss.map fun qs => asc ns (qs.map lit)).foldl addRow []
theorem rowsOf_snoc (ns : List Str) (qss : List (List (Bool × Str))) (qs : List (Bool × Str)) : rowsOf ns (qss ++ [qs]) = addRow (rowsOf ns qss) (asc ns (qs.map lit)) := by
  unfold rowsOf
  rw [List.map_append, List.foldl_append]
  rfl
theorem rowsOf_len (ns : List Str) : ∀ qss : List (List (Bool × Str)), (rowsOf ns qss).length ≤ qss.length := by
  have go : ∀ (xs acc : List (List Str)), (xs.foldl addRow acc).length ≤ acc.length + xs.length := by
    intro xs
    induction xs with
    | nil => intro acc; exact Nat.le_refl _
    | cons x r ih =>
      intro acc
      have z := ih (addRow acc x)
      have y := addRow_len acc x
      rw [List.foldl_cons, List.length_cons]
      omega
  intro qss
  have z := go (qss.map fun qs => asc ns (qs.map lit)) []
  rw [List.length_map] at z
  unfold rowsOf
  simpa using z
/-- all but x stays -/
def Grow (x : Addr) (H H' : Hp) : Prop := ∀ c o, c ≠ x → H c = some o → H' c = some o
theorem Grow.of {x : Addr} {H H' : Hp} (s : Same H H') : Grow x H H' := fun c o _ h => s c o h
theorem Grow.trans {x : Addr} {H H1 H2 : Hp} (a : Grow x H H1) (b : Grow x H1 H2) : Grow x H H2 := fun c o n h => b c o n (a c o n h)
theorem Grow.put {x : Addr} {H : Hp} {o : HO} : Grow x H (upd H x o) := fun _ _ n h => (upd_ne n).trans h
theorem tup_any {K : PySem.W.Frag} {H : Hp} {b : Bool} {a x : Addr} {xs : List V} {Q : VK} (hs : ∀ H', Grow x H H' → Sq K b H' a xs) {o : HO} (hx : H x = some o) (k : ∀ q H', Same H H' → (∀ H2, Grow x H' H2 → SqT K H2 q xs) → Q (.ref q) H') : kTup K (.ref a) H Q := by
  have h := hs H (Grow.of (Same.refl H))
  cases b with
  | false => exact .inr ⟨a, xs, rfl, h, k a H (Same.refl H) fun H2 g => hs H2 g⟩
  | true => exact .inl ⟨a, xs, rfl, h, fun q hq => k q _ (same_new hq) fun H2 g => SqT.of (g _ _ (ne_of_none hx hq).symm upd_same)⟩
/-- one clause handed over: a list or tuple of literals of distinct names -/
def Given (K : PySem.W.Frag) (s : Addr) (H : Hp) (ns : List Str) (x : V) (qs : List (Bool × Str)) : Prop := Lits ns qs ∧ ∃ (b : Bool) (A : Addr) (t : Value), x = .ref A ∧ (∀ H', Grow s H H' → TyX K H' (.ref A) t) ∧ PySem.W.kitAny K t [.type "list", .type "tuple"] = some true ∧ ∀ H', Grow s H H' → Sq K b H' A ((qs.map lit).map V.str)
theorem Given.ask {K : PySem.W.Frag} {s : Addr} {H : Hp} {ns : List Str} {x : V} {qs : List (Bool × Str)} (g : Given K s H ns x qs) : Ask K H ns true x := by
  obtain ⟨hq, b, A, t, rfl, ty, kit, sq⟩ := g
  exact .seq t (fun H' s' => ty H' (.of s')) kit (fun H' s' => sq H' (.of s')) fun _ _ => .ok hq
section
variable {P : Program} {w : World} {K : PySem.W.Frag} {mg : Str → Option Value} {base : Heap} {f fN fP fC fO C : Addr} {fd fdN fdP fdC fdO : FuncData}
end
end K6
namespace K6
open PySem PySem.Spec PyProof.Rows L2 LamX NdefX EV
/-! ### repr of data without dicts -/
mutual
theorem dp_free {K : PySem.W.Frag} {H : Hp} : ∀ {v : V} {d : PyData}, Dp K H v d → d.hasDict = false
  | _, _, .non => rfl
  | _, _, .bl _ => rfl
  | _, _, .int _ => rfl
  | _, _, .str _ => rfl
  | _, _, .lst _ h => by
    show PyData.hasDictAll _ = false
    exact dps_free h
  | _, _, .tup _ h => by
    show PyData.hasDictAll _ = false
    exact dps_free h
theorem dps_free {K : PySem.W.Frag} {H : Hp} : ∀ {vs : List V} {ds : List PyData}, DpAll K H vs ds → PyData.hasDictAll ds = false
  | _, _, .nil => rfl
  | _, _, .cons h t => by
    show (PyData.hasDict _ || PyData.hasDictAll _) = false
    rw [dp_free h, dps_free t]
    rfl
end
def rReprP (K : PySem.W.Frag) : List V → Hp → VK → Prop := fun xs H Q => ∃ (x : V) (d : PyData), xs = [x] ∧ Dp K H x d ∧ d.showable = true ∧ d.shown.length ≤ sizeLine ∧ d.depth ≤ 60 ∧ Q (.str d.shown) H
theorem call_reprP {X : Cx} (hg : X.A.guards = some []) (hu : X.A.units + 64 < cLine) : CallR X (.builtin "repr") (rReprP X.K) := by
  intro pins s σ H xs us Q I r h
  obtain ⟨x, d, rfl, hd, hs, hz, hdp, q⟩ := h
  obtain ⟨u, rfl, ru⟩ := r.one
  have hf := dp_free hd
  cases hd with
  | non =>
    cases ru
    exact PySem.P.repr_of_none ⟨.str _, H, I.tok _, ⟨_, rfl⟩, q⟩
  | bl b =>
    cases ru
    refine PySem.P.repr_of_bool ⟨.str _, H, I.tok _, ⟨_, rfl⟩, ?_⟩
    cases b <;> exact q
  | int i =>
    obtain ⟨t, rfl⟩ := ru
    exact PySem.P.repr_of_int (by simpa [PyData.showable] using hs) ⟨.str _, H, I.tok _, ⟨_, rfl⟩, q⟩
  | str y =>
    obtain ⟨t, rfl⟩ := ru
    exact PySem.P.repr_of_str ⟨.str _, H, I.tok _, ⟨_, rfl⟩, q⟩ hz
  | lst h2 h3 =>
    obtain ⟨as, hr⟩ := Dp.reads I _ _ _ (.lst h2 h3) ru
    cases ru
    exact repr_of_reads' hr hs (fun z => by rw [hf] at z; cases z) hg (by omega) (fun _ _ e => e) (fun h' u tk k => ⟨.str _, H, I.kept k, ⟨u, rfl⟩, q⟩) hz
  | tup h2 h3 =>
    obtain ⟨as, hr⟩ := Dp.reads I _ _ _ (.tup h2 h3) ru
    cases ru
    exact repr_of_reads' hr hs (fun z => by rw [hf] at z; cases z) hg (by omega) (fun _ _ e => e) (fun h' u tk k => ⟨.str _, H, I.kept k, ⟨u, rfl⟩, q⟩) hz
/-! ### what is shown is small -/
/-- texts of few signs, shown within few places -/
structure Small (d : PyData) (n : Nat) : Prop where
  ls : d.leavesShort 40 = true
  bk : d.bulk ≤ n
  sh : d.showable = true
  dp : d.depth ≤ 10
theorem Small.fits {d : PyData} {n : Nat} (h : Small d n) (hn : n ≤ 20000) : d.shown.length ≤ sizeLine := by
  have z := PyData.shown_le_bulk 40 (by decide) d h.ls
  have b := h.bk
  rw [sizeLine_eq]
  omega
structure SmallAll (ds : List PyData) (n m : Nat) : Prop where
  ls : PyData.leavesShortAll 40 ds = true
  bk : PyData.bulkAll ds ≤ n
  sh : PyData.showableAll ds = true
  dp : PyData.depthAll ds ≤ m
theorem SmallAll.nil {m : Nat} : SmallAll [] 0 m := ⟨rfl, Nat.le_refl 0, rfl, Nat.zero_le _⟩
theorem SmallAll.cons {d : PyData} {ds : List PyData} {a b m : Nat} (h : d.leavesShort 40 = true) (h2 : d.bulk ≤ a) (h3 : d.showable = true) (h4 : d.depth ≤ m) (t : SmallAll ds b m) : SmallAll (d :: ds) (a + 1 + b) m := by
  refine ⟨?_, ?_, ?_, ?_⟩
  · simp only [PyData.leavesShortAll, h, t.ls, Bool.and_self]
  · have := t.bk
    simp only [PyData.bulkAll]
    omega
  · simp only [PyData.showableAll, h3, t.sh, Bool.and_self]
  · have := t.dp
    simp only [PyData.depthAll]
    omega
theorem name_short {z : Str} (h : Fit z) : (z.cps.toList.all fun c => decide (c < 16 ^ 8)) = true := List.all_eq_true.mpr fun c hc => decide_eq_true (Nat.lt_trans (h c hc) (by decide))
/-- lists of short texts -/
theorem small_strs {n : Nat} : ∀ xs : List Str, (∀ z ∈ xs, Fit z ∧ z.length ≤ n) → SmallAll (xs.map PyData.str) ((n + 1) * xs.length) 2
  | [], _ => SmallAll.nil
  | x :: xs, h => by
    have z := SmallAll.cons (d := .str x) (a := n) (name_short (h x List.mem_cons_self).1) (h x List.mem_cons_self).2 rfl (Nat.zero_le _) (small_strs xs fun z hz => h z (List.mem_cons_of_mem _ hz))
    refine ⟨z.ls, ?_, z.sh, z.dp⟩
    have b := z.bk
    rw [List.length_cons, Nat.mul_succ]
    show PyData.bulkAll (.str x :: xs.map PyData.str) ≤ _
    omega
theorem small_list {ds : List PyData} {n m : Nat} (h : SmallAll ds n m) : (PyData.list ds).leavesShort 40 = true ∧ (PyData.list ds).bulk ≤ n ∧ (PyData.list ds).showable = true ∧ (PyData.list ds).depth ≤ m + 1 := by
  refine ⟨h.ls, h.bk, h.sh, ?_⟩
  have := h.dp
  simp only [PyData.depth]
  omega
theorem small_tup {ds : List PyData} {n m : Nat} (h : SmallAll ds n m) : (PyData.tuple ds).leavesShort 40 = true ∧ (PyData.tuple ds).bulk ≤ n ∧ (PyData.tuple ds).showable = true ∧ (PyData.tuple ds).depth ≤ m + 1 := by
  refine ⟨h.ls, h.bk, h.sh, ?_⟩
  have := h.dp
  simp only [PyData.depth]
  omega
theorem small_rows {n m : Nat} : ∀ rs : List (List Str), (∀ r ∈ rs, r.length ≤ m ∧ ∀ z ∈ r, Fit z ∧ z.length ≤ n) → SmallAll (rs.map fun r => PyData.tuple (r.map PyData.str)) (((n + 1) * m + 1) * rs.length) 3
  | [], _ => SmallAll.nil
  | r :: rs, h => by
    obtain ⟨h1, h2⟩ := h r List.mem_cons_self
    obtain ⟨a1, a2, a3, a4⟩ := small_tup (small_strs r h2)
    have z := SmallAll.cons a1 a2 a3 a4 (small_rows rs fun z hz => h z (List.mem_cons_of_mem _ hz))
    refine ⟨z.ls, ?_, z.sh, z.dp⟩
    have b := z.bk
    have c : (n + 1) * r.length ≤ (n + 1) * m := Nat.mul_le_mul_left _ h1
    rw [List.length_cons, Nat.mul_succ]
    show PyData.bulkAll (.tuple (r.map PyData.str) :: rs.map fun r => PyData.tuple (r.map PyData.str)) ≤ _
    omega
theorem dp_app {K : PySem.W.Frag} {H : Hp} : ∀ {vs ws : List V} {ds es : List PyData}, DpAll K H vs ds → DpAll K H ws es → DpAll K H (vs ++ ws) (ds ++ es)
  | _, _, _, _, .nil, h => h
  | _, _, _, _, .cons h t, h2 => .cons h (dp_app t h2)
theorem small_app {n k m : Nat} : ∀ {ds es : List PyData}, SmallAll ds n m → SmallAll es k m → SmallAll (ds ++ es) (n + k) m := fun {ds es} h1 h2 => by
  have go : ∀ ds : List PyData, (PyData.leavesShortAll 40 (ds ++ es) = (PyData.leavesShortAll 40 ds && PyData.leavesShortAll 40 es)) ∧ PyData.bulkAll (ds ++ es) = PyData.bulkAll ds + PyData.bulkAll es ∧ PyData.showableAll (ds ++ es) = (PyData.showableAll ds && PyData.showableAll es) ∧ PyData.depthAll (ds ++ es) ≤ max (PyData.depthAll ds) (PyData.depthAll es) := by
    intro ds
    induction ds with
    | nil => exact ⟨rfl, by simp [PyData.bulkAll], rfl, by simp [PyData.depthAll]⟩
    | cons d ds ih =>
      obtain ⟨i1, i2, i3, i4⟩ := ih
      refine ⟨?_, ?_, ?_, ?_⟩
      · simp only [List.cons_append, PyData.leavesShortAll, i1, Bool.and_assoc]
      · simp only [List.cons_append, PyData.bulkAll, i2]
        omega
      · simp only [List.cons_append, PyData.showableAll, i3, Bool.and_assoc]
      · simp only [List.cons_append, PyData.depthAll]
        omega
  obtain ⟨g1, g2, g3, g4⟩ := go ds
  have a1 := h1.bk
  have a2 := h2.bk
  have a3 := h1.dp
  have a4 := h2.dp
  exact ⟨by rw [g1, h1.ls, h2.ls]; rfl, by omega, by rw [g3, h1.sh, h2.sh]; rfl, by omega⟩
/-! ### _law_same over such data -/
def spSameP (K : PySem.W.Frag) : Sp := fun vs H Q _ => ∃ (x y : V) (d : PyData) (n : Nat), vs = [x, y] ∧ Dp K H x d ∧ Dp K H y d ∧ Small d n ∧ n ≤ 20000 ∧ Q (.bl true) H
section
variable {P : Program} {w : World} {K : PySem.W.Frag} {mg : Str → Option Value} {base : Heap} {f : Addr} {fd : FuncData}
theorem ok_sameP (F : Fun K "_law_same" "_law_same" sSame f fd) (mr : mg "repr" = none) : FnG P w K mg base 1 f fd ["_law_found", "_law_due"] (spSameP K) := by
  refine fng_of F scSame (fun vs H Q E h => ?_) (fun cdv A outer s H vs Q E hg hr h => ?_)
  · obtain ⟨x, y, d, n, rfl, _⟩ := h
    rfl
  · obtain ⟨x, y, d, n, rfl, hx, hy, sm, hn, k⟩ := h
    refine ⟨_, pss_one (ps_ret (pe_cmpR op_eq (pe_callB (call_reprP hg hr.units) (by rfl) mr (by decide +kernel) (pa_cons (pv 0) pa_nil)) (pe_callB (call_reprP hg hr.units) (by rfl) mr (by decide +kernel) (pa_cons (pv 1) pa_nil)) (nomark _))), ?_⟩
    have h3 : d.depth ≤ 60 := Nat.le_trans sm.dp (by decide)
    refine ⟨_, rfl, _, d, rfl, hx, sm.sh, sm.fits hn, h3, _, rfl, _, d, rfl, hy, sm.sh, sm.fits hn, h3, rfl, ?_⟩
    show Q (.bl (decide (V.str d.shown = V.str d.shown))) H
    rw [decide_eq_true rfl]
    exact k
end
end K6
namespace K6
open PySem PySem.Spec PyProof.Rows L2 LamX NdefX EV
/-- a tuple stands while a dict elsewhere is locked -/
theorem sqT_off {K : PySem.W.Frag} {H H' : Hp} {a d : Addr} {xs : List V} {ws : List (List Key × V)} (h : SqT K H a xs) (hd : H d = some (.dT ws)) (g : Grow d H H') : SqT K H' a xs := by
  rcases h with h | h
  · refine .inl ?_
    rcases h with h | ⟨o, h⟩
    · exact .inl (g _ _ (fun e => by rw [e, hd] at h; cases h) h)
    · exact .inr ⟨o, g _ _ (fun e => by rw [e, hd] at h; cases h) h⟩
  · exact .inr h
section
variable {P : Program} {w : World} {K : PySem.W.Frag} {mg : Str → Option Value} {base : Heap} {f C : Addr} {fd : FuncData}
end
end K6
namespace K6
open PySem PySem.Spec PyProof.Rows L2 LamX NdefX EV
structure CIs (K : PySem.W.Frag) (C : Addr) : Prop where
  cl : PySem.W.findIn K (.ref C) "__class__" = some (some (.builtin "object.__class__"))
  gt : PySem.W.specialIn K (.builtin "object.__class__") "__get__" = some (some (.builtin "getset_descriptor.__get__"))
  tk : PySem.W.takesIn K (.builtin "object.__class__") = some true
  ob : PySem.W.mroIn K C (.type "object") = some true
theorem mem_same {xs ys : List Str} (h : sameMem xs ys = true) : ∀ x ∈ xs, x ∈ ys := (sameMem_iff.mp h).2
theorem nodup_back : ∀ {xs ys : List Str}, xs.Nodup → xs.length = ys.length → (∀ x ∈ xs, x ∈ ys) → ∀ y ∈ ys, y ∈ xs := fun {xs ys} nd len sub y hy => by
  by_cases h : y ∈ xs
  · exact h
  · have z := nodup_le (y :: xs) ys (List.nodup_cons.mpr ⟨h, nd⟩) fun a ha => (List.mem_cons.mp ha).elim (fun e => e ▸ hy) (sub a)
    rw [List.length_cons] at z
    omega
section
variable {P : Program} {w : World} {K : PySem.W.Frag} {mg : Str → Option Value} {base : Heap} {f fS fI C : Addr} {fd fdS fdI : FuncData}
end
end K6
namespace K6
open PySem PySem.Spec PyProof.Rows L2 LamX NdefX EV
def more : Str := Str.ofString "more"
theorem more_fit : Fit more ∧ more.length ≤ 9 := ⟨by unfold Fit; decide +kernel, by decide +kernel⟩
theorem row_texts {ns r : List Str} (good : ∀ z ∈ ns, Name1 z) (h : RowOf ns r) : r.length ≤ 2 * ns.length ∧ ∀ z ∈ r, Fit z ∧ z.length ≤ 9 := by
  obtain ⟨qs, hq, rfl⟩ := h
  refine ⟨asc_len ns _, fun z hz => ?_⟩
  obtain ⟨n, hn, e⟩ := lits_mem.mp (List.mem_filter.mp hz).1
  have g := good n hn
  have l8 : n.length ≤ 8 := g.2.1
  rcases e with rfl | rfl
  · exact ⟨g.fit, by omega⟩
  · exact ⟨g.fit.neg, by rw [neg_len]; omega⟩
def ap (b : Bool) (xs : List V) : List V := if b = true then xs ++ [.str more] else xs
/-- what such a list shows -/
theorem small_more {xs : List Str} (h : ∀ z ∈ xs, Name1 z) (n4 : xs.length ≤ 10) : SmallAll ((xs ++ [more]).map PyData.str) 110 2 := by
  have z := small_strs (n := 9) (xs ++ [more]) fun z hz => by
    rcases List.mem_append.mp hz with q | q
    · have g := h z q
      have l8 : z.length ≤ 8 := g.2.1
      exact ⟨g.fit, by omega⟩
    · rw [List.mem_singleton.mp q]
      exact more_fit
  refine ⟨z.ls, Nat.le_trans z.bk ?_, z.sh, z.dp⟩
  rw [List.length_append, List.length_singleton]
  omega
theorem shown_int {n : Nat} (h : n ≤ 7) : (PyData.int (n : Int)).leavesShort 40 = true ∧ (PyData.int (n : Int)).showable = true := by
  match n, h with
  | 0, _ => decide +kernel
  | 1, _ => decide +kernel
  | 2, _ => decide +kernel
  | 3, _ => decide +kernel
  | 4, _ => decide +kernel
  | 5, _ => decide +kernel
  | 6, _ => decide +kernel
  | 7, _ => decide +kernel
section
variable {P : Program} {w : World} {K : PySem.W.Frag} {mg : Str → Option Value} {base : Heap} {f fS f1 f2 f3 f4 C : Addr} {fd fdS fd1 fd2 fd3 fd4 : FuncData}
end
end K6
namespace K6
open PySem PySem.Spec PyProof.Rows L2 LamX NdefX EV
/-! ### making a code -/
theorem TyOf.same {K : PySem.W.Frag} {H H' : Hp} {v : V} {t : Value} (h : TyOf K H v t) (sm : Same H H') : TyOf K H' v t := by
  cases h with
  | non => exact .non
  | bl b => exact .bl b
  | int i => exact .int i
  | str z => exact .str z
  | flt z => exact .flt z
  | lst e => exact .lst (sm _ _ e)
  | frz e => exact .frz (sm _ _ e)
  | tup e => exact .tup (sm _ _ e)
  | dK e => exact .dK (sm _ _ e)
  | dT e => exact .dT (sm _ _ e)
  | ins e a b c d f => exact .ins (sm _ _ e) a b c d f
theorem TyX.same {K : PySem.W.Frag} {H H' : Hp} {v : V} {t : Value} (h : TyX K H v t) (sm : Same H H') : TyX K H' v t := by
  cases h with
  | base h => exact .base (TyOf.same h sm)
  | byt b => exact .byt b
  | set e => exact .set (sm _ _ e)
  | kList a b => exact .kList a b
  | kTuple a b => exact .kTuple a b
  | kDict a b => exact .kDict a b
  | fTuple e => exact .fTuple (sm _ _ e)
  | fDict e => exact .fDict (sm _ _ e)
theorem Sq.same {K : PySem.W.Frag} {H H' : Hp} {b : Bool} {a : Addr} {xs : List V} (h : Sq K b H a xs) (sm : Same H H') : Sq K b H' a xs := by
  cases b
  · exact sqT_same sm h
  · exact Same.seq sm h
/-- a clause that is handed over -/
def Handed (K : PySem.W.Frag) (H : Hp) (ns : List Str) (x : V) (qs : List (Bool × Str)) : Prop := Lits ns qs ∧ ∃ (b : Bool) (A : Addr), x = .ref A ∧ Sq K b H A ((qs.map lit).map V.str)
theorem Sq.ty {K : PySem.W.Frag} {H : Hp} {b : Bool} {a : Addr} {xs : List V} (h : Sq K b H a xs) : TyX K H (.ref a) (.type (if b = true then "list" else "tuple")) := by
  cases b
  · rcases h with (h | ⟨o, h⟩) | ⟨o, its, n, h1, h2, _⟩
    · exact .base (.tup h)
    · exact .fTuple h
    · exact .kTuple h1 h2
  · rcases h with (h | ⟨o, h⟩) | ⟨o, its, n, h1, h2, _⟩
    · exact .base (.lst h)
    · exact .base (.frz h)
    · exact .kList h1 h2
theorem kit_seq {K : PySem.W.Frag} (b : Bool) : PySem.W.kitAny K (.type (if b = true then "list" else "tuple")) [.type "list", .type "tuple"] = some true := by
  cases b
  · exact kitAny_cons (b := false) (kit_ty (by decide +kernel)) (fun _ => kitAny_cons (b := true) (kit_ty (by decide +kernel)) (fun z => nomatch z) fun _ => rfl) (fun z => nomatch z)
  · exact kitAny_cons (b := true) (kit_ty (by decide +kernel)) (fun z => nomatch z) fun _ => rfl
theorem Handed.given {K : PySem.W.Frag} {H H1 : Hp} {s : Addr} {ns : List Str} {x : V} {qs : List (Bool × Str)} (h : Handed K H ns x qs) (g : ∀ H', Grow s H1 H' → Same H H') : Given K s H1 ns x qs := by
  obtain ⟨hq, b, A, rfl, sq⟩ := h
  exact ⟨hq, b, A, _, rfl, fun H' gg => Sq.ty (Sq.same sq (g H' gg)), kit_seq b, fun H' gg => Sq.same sq (g H' gg)⟩
theorem Handed.same {K : PySem.W.Frag} {H H' : Hp} {ns : List Str} {x : V} {qs : List (Bool × Str)} (h : Handed K H ns x qs) (sm : Same H H') : Handed K H' ns x qs := by
  obtain ⟨hq, b, A, rfl, sq⟩ := h
  exact ⟨hq, b, A, rfl, Sq.same sq sm⟩
/-! ### what a code is like -/
theorem addRow_mem {rs : List (List Str)} {r x : List Str} (h : x ∈ addRow rs r) : x ∈ rs ∨ x = r := by
  unfold addRow at h
  split at h
  · exact .inl h
  · rcases List.mem_append.mp h with q | q
    · exact .inl q
    · exact .inr (List.mem_singleton.mp q)
theorem fold_mem : ∀ (xs acc : List (List Str)) (x : List Str), x ∈ xs.foldl addRow acc → x ∈ acc ∨ x ∈ xs
  | [], _, _, h => .inl h
  | y :: xs, acc, x, h => by
    rcases fold_mem xs (addRow acc y) x h with q | q
    · rcases addRow_mem q with q | q
      · exact .inl q
      · exact .inr (by rw [q]; exact List.mem_cons_self)
    · exact .inr (List.mem_cons_of_mem _ q)
theorem rowsOf_row {ns : List Str} {qss : List (List (Bool × Str))} (h : ∀ qs ∈ qss, Lits ns qs) : ∀ r ∈ rowsOf ns qss, RowOf ns r := fun r hr => by
  rcases fold_mem _ _ r hr with q | q
  · cases q
  · obtain ⟨qs, hqs, rfl⟩ := List.mem_map.mp q
    exact ⟨qs, h qs hqs, rfl⟩
theorem fold_id : ∀ (xs acc : List (List Str)), (acc ++ xs).Nodup → xs.foldl addRow acc = acc ++ xs
  | [], acc, _ => (List.append_nil acc).symm
  | x :: xs, acc, nd => by
    have e : acc ++ x :: xs = (acc ++ [x]) ++ xs := by rw [List.append_assoc]; rfl
    have nx : x ∉ acc := fun q => (List.nodup_append.mp nd).2.2 x q x List.mem_cons_self rfl
    rw [List.foldl_cons]
    unfold addRow
    rw [if_neg nx, e]
    exact fold_id xs (acc ++ [x]) (e ▸ nd)
theorem fold_in : ∀ (xs acc : List (List Str)), (∀ x ∈ xs, x ∈ acc) → xs.foldl addRow acc = acc
  | [], _, _ => rfl
  | x :: xs, acc, h => by
    have e : addRow acc x = acc := if_pos (h x List.mem_cons_self)
    rw [List.foldl_cons, e]
    exact fold_in xs acc fun y hy => h y (List.mem_cons_of_mem _ hy)
end K6
namespace K6
open PySem PySem.Spec PyProof.Rows L2 LamX NdefX EV
/-! ### codes unlike a code -/
theorem sameMem_len {xs ys : List Str} (h : xs.length ≠ ys.length) : sameMem xs ys = false := by
  cases e : sameMem xs ys with
  | false => rfl
  | true => exact absurd (sameMem_iff.mp e).1 h
/-- two places that hold lists -/
def Two (H : Hp) (S L : Addr) : Prop := (∃ xs, H S = some (.lst xs)) ∧ ∃ xs, H L = some (.lst xs)
theorem StreamAt.two {H : Hp} {S L : Addr} {c : Nat} (h : StreamAt H S L c) : Two H S L := by
  obtain ⟨ns, x, m, h1, h2, _⟩ := h
  exact ⟨⟨_, h1⟩, ⟨_, h2⟩⟩
theorem sqT_kept {K : PySem.W.Frag} {H H' : Hp} {S L a : Addr} {xs : List V} (h : SqT K H a xs) (hS : Two H S L) (k : Kept S L H H') : SqT K H' a xs := by
  obtain ⟨⟨_, h1⟩, ⟨_, h2⟩⟩ := hS
  rcases h with h | h
  · refine .inl ?_
    rcases h with h | ⟨o, h⟩
    · exact .inl (k _ _ h (ne_of h h1 fun z => nomatch z) (ne_of h h2 fun z => nomatch z))
    · exact .inr ⟨o, k _ _ h (ne_of h h1 fun z => nomatch z) (ne_of h h2 fun z => nomatch z)⟩
  · exact .inr h
theorem RowsAt.kept {H H' : Hp} {S L : Addr} {ts : List Addr} {rs : List (List Str)} (h : RowsAt H ts rs) (hS : Two H S L) (k : Kept S L H H') : RowsAt H' ts rs := by
  obtain ⟨⟨_, g1⟩, ⟨_, g2⟩⟩ := hS
  exact Paired.mapP h fun t r z => k _ _ z (ne_of z g1 fun q => nomatch q) (ne_of z g2 fun q => nomatch q)
/-- rows as clauses that are handed over, for these names or more -/
theorem handed_rows {K : PySem.W.Frag} {H : Hp} {n0 ns : List Str} (nd : n0.Nodup) (good : ∀ z ∈ n0, Name1 z) (sub : ∀ z ∈ n0, z ∈ ns) : ∀ {ts : List Addr} {rs : List (List Str)}, RowsAt H ts rs → (∀ r ∈ rs, RowOf n0 r) →
    ∃ qss, Paired (Handed K H ns) (ts.map V.ref) qss ∧ rs = qss.map (fun qs => qs.map lit) ∧ ∀ qs ∈ qss, Lits n0 qs
  | [], [], _, _ => ⟨[], .nil, rfl, fun _ h => nomatch h⟩
  | t :: ts, r :: rs, .cons h tl, rows => by
    obtain ⟨qs, hq, rfl⟩ := (rows r List.mem_cons_self).lits nd good
    obtain ⟨qss, h1, h2, h3⟩ := handed_rows nd good sub tl fun x hx => rows x (List.mem_cons_of_mem _ hx)
    refine ⟨qs :: qss, .cons ⟨hq.names sub, false, t, rfl, Sq.tup h⟩ h1, by rw [List.map_cons, h2], fun x hx => ?_⟩
    rcases List.mem_cons.mp hx with rfl | hx
    · exact hq
    · exact h3 x hx
theorem row_id {ns r : List Str} (h : RowOf ns r) : asc ns r = r := by
  obtain ⟨qs, _, rfl⟩ := h
  exact asc_asc
theorem rows_id {ns : List Str} {rs : List (List Str)} {qss : List (List (Bool × Str))} (e : rs = qss.map (fun qs => qs.map lit)) (rows : ∀ r ∈ rs, RowOf ns r) (nd : rs.Nodup) : rowsOf ns qss = rs := by
  unfold rowsOf
  have z : (qss.map fun qs => asc ns (qs.map lit)) = rs := by
    rw [e]
    refine List.map_congr_left fun qs hq => ?_
    exact row_id (rows _ (by rw [e]; exact List.mem_map_of_mem hq))
  rw [z]
  exact fold_id rs [] (by simpa using nd)
section
variable {K : PySem.W.Frag} {C : Addr} {H0 H H' : Hp} {S L d ps ph pc N F : Addr} {sg hp : List Str} {ts : List Addr} {rs : List (List Str)} {vs : List V} {c : Nat}
end
theorem eqv_nilR : ∀ rs : List (List Str), PyData.eqv (.list (rs.map fun r => PyData.tuple (r.map PyData.str))) (.list []) = decide (rs = [])
  | [] => rfl
  | r :: rs => by simp [PyData.eqv, PyData.eqvAll]
theorem paired_right {α β : Type} {R : α → β → Prop} : ∀ {xs : List α} {ys : List β}, Paired R xs ys → ∀ y ∈ ys, ∃ x, R x y
  | [], [], .nil, y, h => nomatch h
  | x :: xs, z :: ys, .cons r t, y, h => by
    rcases List.mem_cons.mp h with e | h
    · exact ⟨x, by rw [e]; exact r⟩
    · exact paired_right t y h
theorem drop_row {K : PySem.W.Frag} {H : Hp} {ns : List Str} {xs : List V} {qss : List (List (Bool × Str))} (h : Paired (Handed K H ns) xs qss) : Paired (Handed K H ns) (xs.drop 1) (qss.drop 1) := by
  cases h with
  | nil => exact .nil
  | cons _ t => exact t
theorem paired_snoc {α β : Type} {R : α → β → Prop} {xs : List α} {ys : List β} {x : α} {y : β} (h : Paired R xs ys) (r : R x y) : Paired R (xs ++ [x]) (ys ++ [y]) := Paired.snoc h r
/-- a conditional expression whose two ways come to the same -/
theorem two_ways {c : Bool} {ta tb : TE} {σ : L2.St} {H : Hp} {Q : VK} (I : V → Hp → Prop) (hA : c = true → ∀ Q' : VK, (∀ v H', I v H' → Q' v H') → ta σ H Q') (hB : c = false → ∀ Q' : VK, (∀ v H', I v H' → Q' v H') → tb σ H Q') (rest : ∀ v H', I v H' → Q v H') : if c = true then ta σ H Q else tb σ H Q := by
  cases c with
  | true => exact iteT (hA rfl Q rest)
  | false => exact iteF (hB rfl Q rest)
end K6
namespace K6
open PySem PySem.Spec PyProof.Rows L2 LamX NdefX EV
/-! ### contracts by name -/
def Has (P : Program) (w : World) (K : PySem.W.Frag) (mg : Str → Option Value) (base : Heap) (k : Nat) (x : Str) (ps : List Str) (sp : Sp) : Prop := ∃ f fd, FnOk P w K mg base CX0 k f fd ps sp ∧ mg x = some (.ref f) ∧ PySem.W.keepIn K (.ref f) = true ∧ L2.Binds K fd ps []
def HasG (P : Program) (w : World) (K : PySem.W.Frag) (mg : Str → Option Value) (base : Heap) (k : Nat) (x : Str) (ps : List Str) (sp : Sp) : Prop := ∃ f fd, FnG P w K mg base k f fd ps sp ∧ mg x = some (.ref f) ∧ PySem.W.keepIn K (.ref f) = true ∧ L2.Binds K fd ps []
section
variable {X : Cx} {k : Nat} {x : Str} {ps : List Str} {sp : Sp} {p pos : Pos} {e : Expr} {es : List Expr} {t : TA}
theorem pe_callH (h : Has X.prog X.w X.K X.mg X.base k x ps sp) (hr : Room k X.A) (hg : Gl X x) (ha : PA X (e :: es) t) (hdb : (x == ("__debug__" : Str)) = false := by decide) (he : starEach (e :: es) X.env = (false, eval e X.env) :: starEach es X.env := by rfl) (hpl : (backTo pos (starEach es X.env)).any (·.1) = false := by rfl) :
    PE X (.Call (.Name x p) (e :: es) [] pos) (tCall sp [] E0 t) := by
  obtain ⟨f, fd, F, m, kp, b⟩ := h
  exact pe_call F hr hg m kp b .nil pass0 ha hdb he hpl
theorem pe_callHG (h : HasG X.prog X.w X.K X.mg X.base k x ps sp) (gd : X.A.guards = some []) (hr : Room k X.A) (hg : Gl X x) (ha : PA X (e :: es) t) (hdb : (x == ("__debug__" : Str)) = false := by decide) (he : starEach (e :: es) X.env = (false, eval e X.env) :: starEach es X.env := by rfl) (hpl : (backTo pos (starEach es X.env)).any (·.1) = false := by rfl) :
    PE X (.Call (.Name x p) (e :: es) [] pos) (tCall sp [] E0 t) := by
  obtain ⟨f, fd, F, m, kp, b⟩ := h
  exact pe_callG F gd hr hg m kp b ha hdb he hpl
end
theorem OddL.ty {K : PySem.W.Frag} {H : Hp} {v : V} (o : OddL K H v) : ∃ T ∈ oddTypes, TyX K H v (.type T) := by
  cases o with
  | non => exact ⟨"NoneType", by decide, .base .non⟩
  | int i => exact ⟨"int", by decide, .base (.int i)⟩
  | str z => exact ⟨"str", by decide, .base (.str z)⟩
  | lst h => exact ⟨"list", by decide, Sq.ty (b := true) h⟩
  | tup h => exact ⟨"tuple", by decide, Sq.ty (b := false) h⟩
  | dct h => exact ⟨"dict", by decide, .base (.dK h)⟩
theorem OddL.same {K : PySem.W.Frag} {H H' : Hp} {v : V} (o : OddL K H v) (sm : Same H H') : OddL K H' v := by
  cases o with
  | non => exact .non
  | int i => exact .int i
  | str z => exact .str z
  | lst h => exact .lst (Same.seq sm h)
  | tup h => exact .tup (sqT_same sm h)
  | dct h => exact .dct (sm _ _ h)
def forBody : Stmt → List Stmt
  | .For _ _ b _ _ => b
  | _ => []
end K6
namespace K6
open PySem PySem.Spec PyProof.Rows L2 LamX NdefX EV
/-! ### what stands in a turn, behind the making of the code -/
theorem StreamAt.same {H H' : Hp} {S L : Addr} {c : Nat} (h : StreamAt H S L c) (sm : Same H H') : StreamAt H' S L c := by
  obtain ⟨ns, x, m, h1, h2, r⟩ := h
  exact ⟨ns, x, m, sm _ _ h1, sm _ _ h2, r⟩
section
variable {K : PySem.W.Frag} {C : Addr} {H H' : Hp} {S L d ps ph pc N x r : Addr} {sg hp : List Str} {ts : List Addr} {rs : List (List Str)} {c : Nat}
end
section
variable {P : Program} {w : World} {K : PySem.W.Frag} {mg : Str → Option Value} {base : Heap} {C : Addr}
variable {f : Addr} {cdv : Value} {A : Around} {outer : List Env} {s0 : Shared} {HH : Hp} {E : XK}
end
end K6
namespace K6
open PySem PySem.Spec PyProof.Rows L2 LamX NdefX EV
/-! ### the same code in another order -/
theorem perm_unmap {α β : Type} {f : α → β} : ∀ {ms l : List β}, ms.Perm l → ∀ qs : List α, l = qs.map f → ∃ qs' : List α, qs'.Perm qs ∧ ms = qs'.map f := by
  intro ms l h
  induction h with
  | nil => intro qs e; exact ⟨qs, .refl _, e⟩
  | @cons x l1 l2 _ ih =>
    intro qs e
    cases qs with
    | nil => cases e
    | cons q r =>
      injection e with e1 e2
      obtain ⟨qs', p, e'⟩ := ih r e2
      exact ⟨q :: qs', p.cons q, by rw [List.map_cons, ← e1, ← e']⟩
  | @swap x y l1 =>
    intro qs e
    match qs, e with
    | a :: b :: r, e =>
      injection e with e1 e2
      injection e2 with e2 e3
      exact ⟨b :: a :: r, .swap a b r, by rw [List.map_cons, List.map_cons, ← e1, ← e2, ← e3]⟩
  | trans _ _ ih1 ih2 =>
    intro qs e
    obtain ⟨q2, p2, e2⟩ := ih2 qs e
    obtain ⟨q1, p1, e1⟩ := ih1 q2 e2
    exact ⟨q1, p1.trans p2, e1⟩
theorem Lits.perm {ns : List Str} {qs qs' : List (Bool × Str)} (h : Lits ns qs) (p : qs'.Perm qs) : Lits ns qs' := ⟨(p.map Prod.snd).nodup_iff.mpr h.nd, fun q hq => h.sub q (p.mem_iff.mp hq)⟩
theorem asc_perm {ns : List Str} {qs qs' : List (Bool × Str)} (p : qs'.Perm qs) : asc ns (qs'.map lit) = asc ns (qs.map lit) := asc_congr fun l => (p.map lit).mem_iff
theorem asc_mem {ns l : List Str} {x : Str} : x ∈ asc ns l ↔ x ∈ lits ns ∧ x ∈ l := by
  unfold asc
  rw [List.mem_filter]
  exact ⟨fun h => ⟨h.1, of_decide_eq_true h.2⟩, fun h => ⟨h.1, decide_eq_true h.2⟩⟩
/-- brought into another order of the same names, and back -/
theorem asc_back {ns ns2 r : List Str} (p : ∀ x, x ∈ ns2 ↔ x ∈ ns) (h : RowOf ns r) : asc ns (asc ns2 r) = r := by
  have e : asc ns (asc ns2 r) = asc ns r := asc_congr fun l => by
    rw [asc_mem]
    refine ⟨fun h => h.2, fun hl => ⟨?_, hl⟩⟩
    obtain ⟨qs, _, rfl⟩ := h
    obtain ⟨n, hn, q⟩ := lits_mem.mp (asc_mem.mp hl).1
    exact lits_mem.mpr ⟨n, (p n).mpr hn, q⟩
  rw [e]
  exact row_id h
theorem nodup_map_inj {α β : Type} {f : α → β} : ∀ {l : List α}, l.Nodup → (∀ a ∈ l, ∀ b ∈ l, f a = f b → a = b) → (l.map f).Nodup
  | [], _, _ => List.nodup_nil
  | a :: l, nd, inj => by
    obtain ⟨h1, h2⟩ := List.nodup_cons.mp nd
    rw [List.map_cons]
    refine List.nodup_cons.mpr ⟨fun q => ?_, nodup_map_inj h2 fun x hx y hy => inj x (List.mem_cons_of_mem _ hx) y (List.mem_cons_of_mem _ hy)⟩
    obtain ⟨b, hb, e⟩ := List.mem_map.mp q
    have z := inj b (List.mem_cons_of_mem _ hb) a List.mem_cons_self e
    exact h1 (z ▸ hb)
/-- rows in another order -/
theorem rows_perm {H : Hp} {ts : List Addr} {rs : List (List Str)} (h : RowsAt H ts rs) {ys : List V} (p : ys.Perm (ts.map V.ref)) : ∃ ts2 rs2, ys = ts2.map V.ref ∧ RowsAt H ts2 rs2 ∧ rs2.Perm rs := by
  obtain ⟨ts2, p2, e⟩ := perm_unmap p ts rfl
  refine ⟨ts2, ?_⟩
  clear p
  have go : ∀ {ts2 ts : List Addr}, ts2.Perm ts → ∀ {rs : List (List Str)}, RowsAt H ts rs → ∃ rs2, RowsAt H ts2 rs2 ∧ rs2.Perm rs := by
    intro ts2 ts p
    induction p with
    | nil => intro rs h; exact ⟨rs, h, .refl _⟩
    | cons x _ ih =>
      intro rs h
      cases h with
      | cons r t =>
        obtain ⟨rs2, h2, p2⟩ := ih t
        exact ⟨_ :: rs2, .cons r h2, p2.cons _⟩
    | swap x y l =>
      intro rs h
      cases h with
      | cons r t =>
        cases t with
        | cons r2 t2 => exact ⟨_ :: _ :: _, .cons r2 (.cons r t2), .swap ..⟩
    | trans _ _ ih1 ih2 =>
      intro rs h
      obtain ⟨r2, h2, p2⟩ := ih2 h
      obtain ⟨r1, h1, p1⟩ := ih1 h2
      exact ⟨r1, h1, p1.trans p2⟩
  obtain ⟨rs2, h2, p3⟩ := go p2 h
  exact ⟨rs2, e, h2, p3⟩
end K6
namespace K6
open PySem PySem.Spec PyProof.Rows L2 LamX NdefX EV
/-- lists that hold clauses, one for each row, in drawn orders -/
def Mixes (H : Hp) (ns : List Str) (rs : List (List Str)) (S L : Addr) (H0 : Hp) (cs : List Addr) (qss : List (List (Bool × Str))) : Prop :=
  Paired (fun a qs => H a = some (.lst ((qs.map lit).map V.str)) ∧ (a ≠ S ∧ a ≠ L) ∧ H0 a = none) cs qss ∧ (∀ qs ∈ qss, Lits ns qs) ∧ qss.map (fun qs => asc ns (qs.map lit)) = rs
theorem kept_upd {S L p : Addr} {H H' : Hp} {o : HO} (k : Kept S L H H') (hp : H p = none) : Kept S L H (upd H' p o) := fun b u e n1 n2 => (upd_ne (ne_of_none e hp)).trans (k b u e n1 n2)
end K6
namespace K6
open PySem PySem.Spec PyProof.Rows L2 LamX NdefX EV
/-! ### things that are no clauses -/
theorem kit_no {K : PySem.W.Frag} {T : String} (h1 : PySem.W.kitOne K (.type T) (.type "list") = some false) (h2 : PySem.W.kitOne K (.type T) (.type "tuple") = some false) : PySem.W.kitAny K (.type T) [.type "list", .type "tuple"] = some false :=
  kitAny_cons (b := false) h1 (fun _ => kitAny_cons (b := false) h2 (fun _ => rfl) fun z => nomatch z) (fun z => nomatch z)
theorem ask_list {K : PySem.W.Frag} {H : Hp} {ns : List Str} {A : Addr} {xs : List V} (hA : H A = some (.lst xs)) (see : ∀ H', Same H H' → Seen K H' ns false xs) : Ask K H ns false (.ref A) :=
  .seq (b := true) (.type "list") (fun H' sm => .base (.lst (sm _ _ hA))) (kit_seq true) (fun H' sm => SqL.of (sm _ _ hA)) see
theorem zz_far {ns : List Str} (good : ∀ z ∈ ns, Name1 z) : Str.ofString "Zz" ∉ lits ns := fun h => by
  obtain ⟨n, hn, e⟩ := lits_mem.mp h
  obtain ⟨n1, _, ch⟩ := good n hn
  have e0 : (Str.ofString "Zz").cps.toList = [90, 122] := rfl
  rcases e with e | e
  · have z : (90 : Nat) ∈ n.cps.toList := by rw [← e, e0]; exact List.mem_cons_self
    have := (ch 90 z).1
    omega
  · have z := neg_list n
    rw [← e, e0] at z
    injection z with z _
    omega
theorem atI_0 {α : Type} {x : α} {l : List α} : atI (x :: l) 0 = some x := by
  unfold atI ixN
  rw [if_pos (by decide), if_pos (by rw [List.length_cons]; omega)]
  rfl
section
variable {K : PySem.W.Frag} {H : Hp} {ns : List Str}
theorem ask_non : Ask K H ns false .non := .odd (.type "NoneType") (fun H' _ => .base .non) (kit_no (kit_ty (by decide +kernel)) (kit_ty (by decide +kernel)))
theorem ask_int (i : Int) : Ask K H ns false (.int i) := .odd (.type "int") (fun H' _ => .base (.int i)) (kit_no (kit_ty (by decide +kernel)) (kit_ty (by decide +kernel)))
theorem ask_str (z : Str) : Ask K H ns false (.str z) := .odd (.type "str") (fun H' _ => .base (.str z)) (kit_no (kit_ty (by decide +kernel)) (kit_ty (by decide +kernel)))
theorem ask_dict {e : Addr} {ws : _} (h : H e = some (.dK ws)) : Ask K H ns false (.ref e) := .odd (.type "dict") (fun H' sm => .base (.dK (sm _ _ h))) (kit_no (kit_ty (by decide +kernel)) (kit_ty (by decide +kernel)))
theorem ask_zz {A : Addr} (good : ∀ z ∈ ns, Name1 z) (h : H A = some (.lst [.str (Str.ofString "Zz")])) : Ask K H ns false (.ref A) :=
  ask_list h fun H' sm => .bad (qs := []) (rest := []) ⟨List.nodup_nil, fun _ h => nomatch h⟩ (.far (zz_far good))
theorem ask_five {A : Addr} {i : Int} (h : H A = some (.lst [.int i])) : Ask K H ns false (.ref A) :=
  ask_list h fun H' sm => .bad (qs := []) (rest := []) ⟨List.nodup_nil, fun _ h => nomatch h⟩ (.odd (.type "int") (fun _ _ => .base (.int i)) (kit_ty (by decide +kernel)))
theorem ask_twice {A : Addr} {n : Str} (hn : n ∈ ns) (h : H A = some (.lst [.str n, .str n])) : Ask K H ns false (.ref A) :=
  ask_list h fun H' sm => .bad (qs := [(false, n)]) (x := .str (lit (false, n))) (rest := []) ⟨List.nodup_cons.mpr ⟨(fun h => nomatch h), List.nodup_nil⟩, fun q h => by rw [List.mem_singleton.mp h]; exact hn⟩ (.twice hn List.mem_cons_self)
theorem ask_deep {A B : Addr} {xs : List V} (hB : H B = some (.lst xs)) (h : H A = some (.lst [.ref B])) : Ask K H ns false (.ref A) :=
  ask_list h fun H' sm => .bad (qs := []) (rest := []) ⟨List.nodup_nil, fun _ h => nomatch h⟩ (.odd (.type "list") (fun H2 s2 => .base (.lst (s2 _ _ (sm _ _ hB)))) (kit_ty (by decide +kernel)))
end
section
variable {P : Program} {w : World} {K : PySem.W.Frag} {mg : Str → Option Value} {base : Heap} {C : Addr}
variable {f : Addr} {cdv : Value} {A : Around} {outer : List Env} {s0 : Shared} {HH : Hp} {E : XK}
end
end K6
namespace K6
open PySem PySem.Spec PyProof.Rows L2 LamX NdefX EV
theorem given_list {K : PySem.W.Frag} {H : Hp} {ns : List Str} {x p : Addr} {Cl : Addr} {dx : Addr} {fs : _} {qs : List (Bool × Str)} (hq : Lits ns qs) (hp : H p = some (.lst ((qs.map lit).map V.str))) (hx : H x = some (.ins Cl dx fs)) : Given K x H ns (.ref p) qs := by
  have n : p ≠ x := ne_of hp hx fun z => nomatch z
  exact ⟨hq, true, p, .type "list", rfl, fun H' g => .base (.lst (g _ _ n hp)), kit_seq true, fun H' g => SqL.of (g _ _ n hp)⟩
theorem given_tup {K : PySem.W.Frag} {H : Hp} {ns : List Str} {x p : Addr} {Cl : Addr} {dx : Addr} {fs : _} {qs : List (Bool × Str)} (hq : Lits ns qs) (hp : H p = some (.tup ((qs.map lit).map V.str))) (hx : H x = some (.ins Cl dx fs)) : Given K x H ns (.ref p) qs := by
  have n : p ≠ x := ne_of hp hx fun z => nomatch z
  exact ⟨hq, false, p, .type "tuple", rfl, fun H' g => .base (.tup (g _ _ n hp)), kit_seq false, fun H' g => Sq.tup (g _ _ n hp)⟩
section
variable {P : Program} {w : World} {K : PySem.W.Frag} {mg : Str → Option Value} {base : Heap} {C : Addr}
variable {f : Addr} {cdv : Value} {A : Around} {outer : List Env} {s0 : Shared} {HH : Hp} {E : XK}
end
end K6
/-! t[::-1] of a tuple; <= of instances with an own __le__. -/
namespace EV
open PySem PySem.Spec PyProof.Rows L2 HT
section
variable {prog : Program} {w : World} {A : Around} {E : Value → Shared → Prop} {s : Shared}
theorem adjust_rev (n : Nat) : Builtin.Slice.sliceAdjust none none (-1) (n : Int) = ((n : Int) - 1, -1) := by
  unfold Builtin.Slice.sliceAdjust
  simp
theorem places_rev (n : Nat) : Builtin.Slice.slicePlaces ((n : Int) - 1) (-1) (-1) = n := by
  unfold Builtin.Slice.slicePlaces
  rw [if_neg (by decide)]
  split
  · rw [show (- -1 : Int) = 1 by decide, Int.ediv_one]
    omega
  · omega
theorem sliceApplied_rev {sl : Addr} {vs : Value} {n : Nat} {Q : Int × Int × Nat → Shared → Prop} (hs : s.heap.IsSliceOf sl .none .none vs) (ps : IsPart vs (some (-1)))
    (h : Q ((n : Int) - 1, -1, n) s) : wpAny (model prog w) A (Builtin.Slice.sliceApplied (.ref sl) (pure (n : Int))) Q E s := by
  obtain ⟨os, hos, hcs, hds⟩ := id hs
  unfold Builtin.Slice.sliceApplied Builtin.Slice.sliceFields
  refine wpAny_bind (wpAny_bind (wpAny_field hos hds (x := .none) rfl (wpAny_bind (wpAny_field hos hds (x := .none) rfl (wpAny_bind (wpAny_field hos hds (x := vs) rfl (wpAny_pure ?_)))))))
  refine wpAny_bind (slicePart_ ps ?_)
  show wpAny _ _ (if ((-1 : Int) == 0) = true then _ else _) _ _ s
  rw [if_neg (by decide)]
  refine wpAny_bind (slicePart_none (wpAny_bind (slicePart_none (wpAny_bind (wpAny_pure ?_)))))
  show wpAny _ _ (match Builtin.Slice.sliceAdjust none none (-1) (n : Int) with | (lo, hi) => pure (lo, (-1 : Int), Builtin.Slice.slicePlaces lo hi (-1))) _ _ s
  rw [adjust_rev]
  show wpAny _ _ (pure ((n : Int) - 1, (-1 : Int), Builtin.Slice.slicePlaces ((n : Int) - 1) (-1) (-1))) _ _ s
  rw [places_rev]
  exact wpAny_pure h
theorem fm_congr {α β : Type} {f g : α → Option β} : ∀ (l : List α), (∀ x ∈ l, f x = g x) → l.filterMap f = l.filterMap g
  | [], _ => rfl
  | x :: l, h => by
    rw [List.filterMap_cons, List.filterMap_cons, h x List.mem_cons_self, fm_congr l fun y hy => h y (List.mem_cons_of_mem _ hy)]
theorem pick_rev (xs : Array Value) : ((List.range xs.size).filterMap fun (m : Nat) => xs[(((xs.size : Int) - 1) + (m : Int) * -1).toNat]?).toArray = xs.toList.reverse.toArray := by
  have z := PySem.W.krv_pick xs
  unfold slicePick at z
  rw [PySem.W.krv_bounds] at z
  replace z : ((sliceRange ((xs.size : Int) - 1) (-1) (-1)).filterMap (xs[·]?)).toArray = xs.toList.reverse.toArray := z
  rw [PySem.W.krv_sliceRange, List.filterMap_map] at z
  rw [← z]
  refine congrArg List.toArray (fm_congr _ fun m hm => ?_)
  have lt := List.mem_range.mp hm
  have e : (((xs.size : Int) - 1) + (m : Int) * -1).toNat = xs.size - 1 - m := by omega
  show xs[(((xs.size : Int) - 1) + (m : Int) * -1).toNat]? = xs[xs.size - 1 - m]?
  rw [e]
theorem getItem_tuple_rev {t sl : Addr} {items : Array Value} {vs : Value} {Q : Value → Shared → Prop} (ht : IsTup s.heap t items) (hs : s.heap.IsSliceOf sl .none .none vs) (ps : IsPart vs (some (-1)))
    (h : Q (.ref s.heap.objs.size) { s with heap := s.heap.push { cls := .type "tuple", data := .seq items.toList.reverse.toArray } })
    (hsz : items.size ≤ sizeLine) : wpAny (model prog w) A (getItem (.ref t) (.ref sl)) Q E s := by
  have htake : sizeOk (.seq items.toList.reverse.toArray) := by
    show items.toList.reverse.toArray.size ≤ sizeLine
    rw [List.size_toArray, List.length_reverse, Array.length_toList]
    exact hsz
  obtain ⟨os, hos, hcs, hds⟩ := id hs
  have hTs : s.TypeIs (.ref sl) "slice" := ⟨os, hos, hcs⟩
  unfold getItem
  try with_reducible refine wpAny_holding ?_
  first | refine wpAny_bind (wpAny_pure ?_) | skip
  refine wpAny_bind (wpAny_sequenceKey ht.typeIs (by decide) ?_)
  refine wpAny_bind (wpAny_callSpecial?_slot (name := Str.ofString "__getitem__") ht.typeIs PyProof.Rows.slot_tuple_getitem
    (wpAny_call_entry PyProof.Rows.slot_tuple_getitem ht.typeIs entry_tuple_getitem ?_ (args_tuple_getitem _ _)))
  show wpAny _ _ (Builtin.Tuple.tupleItemsOf (.ref t) >>= _) _ _ s
  refine wpAny_bind (tupleItemsOf_ ht ?_)
  refine wpAny_bind (wpAny_typeOf hTs ?_)
  rw [if_pos (by decide)]
  refine wpAny_bind (sliceApplied_rev hs ps ?_)
  have hno : ¬ ((((items.size : Int) - 1) == 0 && (-1 : Int) == 1 && items.size == items.size) = true) := by
    intro q
    rw [Bool.and_eq_true, Bool.and_eq_true] at q
    exact absurd q.1.2 (by decide)
  show wpAny _ _ (if (((items.size : Int) - 1) == 0 && (-1 : Int) == 1 && items.size == items.size) = true then _ else _) _ _ s
  rw [if_neg hno, pick_rev]
  first
    | exact wpAny_bind (m := Builtin.Tuple.tupleExact _) (wpAny_newObj_type (wpAny_pure ⟨_, rfl, wpAny_pure h⟩) htake)
    | exact wpAny_bind (m := Builtin.Tuple.tupleExact _) (wpAny_newObj_type (wpAny_bind (wpAny_pure (wpAny_pure ⟨_, rfl, wpAny_pure h⟩))) htake)
    | exact wpAny_bind (wpAny_bind (m := Builtin.Tuple.tupleExact _) (wpAny_newObj_type (wpAny_pure (wpAny_pure ⟨_, rfl, wpAny_pure h⟩)) htake))
    | exact wpAny_bind (wpAny_bind (m := Builtin.Tuple.tupleExact _) (wpAny_newObj_type (wpAny_pure ⟨_, rfl, wpAny_pure h⟩) htake))
end
section
variable {X : Cx}
def tRevT (K : PySem.W.Frag) (te : TE) : TE := fun σ H Q => te σ H fun x H1 => ∃ a xs, x = .ref a ∧ SqT K H1 a xs ∧ ∀ p, H1 p = none → Q (.ref p) (upd H1 p (.tup xs.reverse))
theorem pe_revT {e : Expr} {te : TE} {k : Nat} {p1 p2 p3 pos : Pos} (he : PE X e te) : PE X (.Subscript e (.Slice none none (some (.UnaryOp .USub (.Constant (.int 1) k p1) p2)) p3) pos) (tRevT X.K te) := by
  refine ⟨fun pins s σ H Q I h => ?_⟩
  refine Subscript_ (thn (he.run pins s σ H _ I h) fun v s1 ⟨x, H1, I1, r1, q1⟩ => ?_)
  obtain ⟨a, xs, ex, hx, q⟩ := q1
  subst ex
  cases r1
  have hst : PO X (some (.UnaryOp .USub (.Constant (.int 1) k p1) p2)) (tPart (tUn (rU fun i => .int (-i)) (tC (.int 1)))) := po_some (pe_un un_neg pe_int)
  refine wpAny_Slice (thn (po_none.run pins s1 σ H1 (fun o H2 => o = none ∧ H2 = H1) I1 ⟨rfl, rfl⟩) fun vl s2 ⟨l, H2, I2, pl, el, e2⟩ => ?_)
  subst el e2
  refine thn (po_none.run pins s2 σ H2 (fun o H3 => o = none ∧ H3 = H2) I2 ⟨rfl, rfl⟩) fun vu s3 ⟨u, H3, I3, pu, eu, e3⟩ => ?_
  subst eu e3
  refine thn (hst.run pins s3 σ H3 (fun o H4 => o = some (-1) ∧ H4 = H3) I3 ⟨1, rfl, -1, rfl, rfl, rfl⟩) fun vs s4 ⟨o, H4, I4, ps, eo, e4⟩ => ?_
  subst eo e4
  obtain rfl : vl = Value.none := by cases pl; rfl
  obtain rfl : vu = Value.none := by cases pu; rfl
  have I5 : Inv X pins σ H4 { s4 with heap := s4.heap.push { cls := .type "slice", data := .fields #[.none, .none, vs] } } := I4.kept (t' := s4.toks) fun b ob q => Heap.get?_push_of_some _ q
  obtain ⟨its, r, ht, hz⟩ := I5.tuple hx
  have hlen := r.length
  show wpAny (model X.prog X.w) X.A (subscriptTail e (.Slice none none (some (.UnaryOp .USub (.Constant (.int 1) k p1) p2)) p3) (.ref a) (.ref s4.heap.objs.size)) (EP X pins σ Q) X.xe { s4 with heap := s4.heap.push { cls := .type "slice", data := .fields #[.none, .none, vs] } }
  refine tail_any (ops := [.ref a, .ref s4.heap.objs.size]) ht.typeIs (PyProof.Rows.slot_tuple_getitem.lookup) ?_ (by with_unfolding_all rfl)
  refine getItem_tuple_rev ht (Heap.IsSliceOf.new _ .none .none vs) ps ?_ (by rw [List.size_toArray]; omega)
  refine ⟨.ref _, _, I5.laid (t' := s4.toks) (o := .tup xs.reverse) (fun b ob q => Heap.get?_push_of_some _ q) (Nat.le_refl _) ?_, rfl, q _ (I5.hok.fresh (Nat.le_refl _))⟩
  exact ⟨by rw [List.length_reverse]; exact hz, _, r.reverse, ⟨_, Heap.get?_push_size _ rfl, rfl, _, rfl⟩⟩
end
section
variable {X : Cx} {CX : CXT} {n : Nat} {C f : Addr} {fd : FuncData} {ps : List Str} {sp : Sp} {E : XK}
/-- <=, the left one an instance whose class has a method of its own for it -/
theorem op_leOwn (F : FnOk X.prog X.w X.K X.mg X.base CX n f fd ps sp) (hs : PySem.W.findIn X.K (.ref C) "__le__" = some (some (.ref f))) (hf : PySem.W.isFn X.K (.ref f) = true) (hb : L2.Binds X.K fd ps []) (hx : Passes CX X E) (hr : Room n X.A) :
    OpR X (compareOp .LtE) fun x y H Q => ∃ t, TyX X.K H y t ∧ PySem.W.notFirst X.K C t = true ∧ rOwn C sp E x y H fun b H' => Q (.bl b) H' := by
  intro pins s σ H x y v u Q I rx ry h
  obtain ⟨t, ty, nf, a, dx, fs, rfl, ha, hsp⟩ := h
  obtain rfl : v = Value.ref a := rx
  obtain ⟨mA, J, _⟩ := ins_get I.hok ha
  obtain ⟨od, J, _⟩ := J.look
  obtain ⟨m, hF⟩ := I.fr
  obtain ⟨P, Z, hP, _⟩ := kit_of I ry ty
  show wpAny (model X.prog X.w) X.A (richCompare .LtE (.ref a) u) (EP X pins σ Q) X.xe s
  refine PySem.W.cmp_K (op := .LtE) (tb := t) hr.units0 hF I.ok.mod.kin J (Z.ty _ _ I.kIn hP) nf hs hf (wpAny_mono (own_call (Q := fun v H' => ∃ b, v = .bl b ∧ Q (.bl b) H') ⟨hr, rfl⟩ I F hb hx (.cons (show RelV (.ref a) (.ref a) from rfl) (.cons ry .nil)) hsp) (fun w s' z => ?_) fun _ _ e => e)
  obtain ⟨z, H', I', rz, b, rfl, q⟩ := z
  obtain rfl : w = Value.bool b := rz
  exact ⟨.bl b, H', I', rfl, q⟩
end
end EV
namespace K6
open PySem PySem.Spec PyProof.Rows L2 LamX NdefX EV
/-! ### full settings -/
def grow1 (rows : List (List Str)) (n : Str) : List (List Str) := rows.flatMap fun r => [r ++ [n], r ++ [neg n]]
def fulls (ns : List Str) : List (List Str) := ns.foldl grow1 [[]]
theorem fulls_snoc (ns : List Str) (n : Str) : fulls (ns ++ [n]) = grow1 (fulls ns) n := by
  unfold fulls
  rw [List.foldl_append]
  rfl
theorem grow1_len (rows : List (List Str)) (n : Str) : (grow1 rows n).length = 2 * rows.length := by
  unfold grow1
  induction rows with
  | nil => rfl
  | cons r t ih => rw [List.flatMap_cons, List.length_append, ih]; simp only [List.length_cons, List.length_nil]; omega
theorem grow1_app (a b : List (List Str)) (n : Str) : grow1 (a ++ b) n = grow1 a n ++ grow1 b n := by
  unfold grow1
  exact List.flatMap_append
theorem foldl_len (ns : List Str) : ∀ rows : List (List Str), (ns.foldl grow1 rows).length = 2 ^ ns.length * rows.length := by
  induction ns with
  | nil => intro rows; simp
  | cons n r ih =>
    intro rows
    rw [List.foldl_cons, ih, grow1_len, List.length_cons, Nat.pow_succ, Nat.mul_assoc]
theorem fulls_len (ns : List Str) : (fulls ns).length = 2 ^ ns.length := by
  unfold fulls
  rw [foldl_len]
  simp
theorem fulls_few {ns : List Str} (h : ns.length ≤ 6) : (fulls ns).length ≤ 64 := by
  rw [fulls_len]
  exact Nat.pow_le_pow_right (by decide) h
theorem foldl_rows (ns : List Str) : ∀ (rows : List (List Str)) (r : List Str), r ∈ ns.foldl grow1 rows ↔ ∃ p ∈ rows, ∃ qs : List (Bool × Str), qs.map Prod.snd = ns ∧ r = p ++ qs.map lit := by
  induction ns with
  | nil =>
    intro rows r
    constructor
    · intro h
      exact ⟨r, h, [], rfl, by simp⟩
    · rintro ⟨p, hp, qs, e, rfl⟩
      obtain rfl : qs = [] := by simpa using e
      simpa using hp
  | cons n ns ih =>
    intro rows r
    rw [List.foldl_cons, ih]
    constructor
    · rintro ⟨p, hp, qs, e, rfl⟩
      obtain ⟨p0, hp0, h⟩ := List.mem_flatMap.mp hp
      rcases List.mem_cons.mp h with h | h
      · exact ⟨p0, hp0, (false, n) :: qs, by rw [List.map_cons, e], by rw [h, List.append_assoc]; rfl⟩
      · rw [List.mem_singleton.mp h]
        exact ⟨p0, hp0, (true, n) :: qs, by rw [List.map_cons, e], by rw [List.append_assoc]; rfl⟩
    · rintro ⟨p, hp, qs, e, rfl⟩
      cases qs with
      | nil => cases e
      | cons q qs =>
        injection e with e1 e2
        obtain ⟨b, m⟩ := q
        subst e1
        refine ⟨p ++ [lit (b, m)], List.mem_flatMap.mpr ⟨p, hp, ?_⟩, qs, e2, by rw [List.append_assoc]; rfl⟩
        cases b
        · exact List.mem_cons_self
        · exact List.mem_cons_of_mem _ List.mem_cons_self
/-- a full setting: one literal for each name, in the order of the names -/
theorem fulls_mem {ns r : List Str} : r ∈ fulls ns ↔ ∃ qs : List (Bool × Str), qs.map Prod.snd = ns ∧ r = qs.map lit := by
  unfold fulls
  rw [foldl_rows]
  constructor
  · rintro ⟨p, hp, qs, e, rfl⟩
    obtain rfl := List.mem_singleton.mp hp
    exact ⟨qs, e, rfl⟩
  · rintro ⟨qs, e, rfl⟩
    exact ⟨[], List.mem_singleton.mpr rfl, qs, e, rfl⟩
def spFS (K : PySem.W.Frag) : Sp := fun vs H Q _ => ∃ (T : Addr) (b : Bool) (ns : List Str), vs = [.ref T] ∧ (∀ H', Same H H' → Sq K b H' T (ns.map V.str)) ∧ ns.length ≤ 6 ∧ (∀ z ∈ ns, z.length ≤ 8) ∧
  ∀ (p : Addr) (ts : List Addr) (H' : Hp), H p = none → H' p = some (.lst (ts.map V.ref)) → RowsAt H' ts (fulls ns) → Same H H' → Q (.ref p) H'
theorem rows_snoc {H : Hp} {ts : List Addr} {rs : List (List Str)} {t : Addr} {r : List Str} (h : RowsAt H ts rs) (ht : TupAt H t r) : RowsAt H (ts ++ [t]) (rs ++ [r]) := Paired.snoc h ht
section
variable {P : Program} {w : World} {K : PySem.W.Frag} {mg : Str → Option Value} {base : Heap} {f : Addr} {fd : FuncData}
abbrev nFS : List Str := ["names", "rows", "name", "row", "literal"]
theorem scFS : FnScope nFS ["names"] (defScope sFullSettings) := ⟨rfl, rfl, rfl, by decide +kernel, rfl, by decide +kernel, by decide +kernel⟩
theorem ok_fs (F : Fun K "full_settings" "full_settings" sFullSettings f fd) : FnOk P w K mg base CX0 1 f fd ["names"] (spFS K) := by
  refine F.ok scFS (fun vs H Q E h => ?_) (fun cdv A outer s H vs Q E hr h => ?_)
  · obtain ⟨T, b, ns, rfl, _⟩ := h
    rfl
  · obtain ⟨T, b, ns, rfl, hT, hn, h8, k⟩ := h
    refine ⟨_, pss_cons (ps_set (i := 1) scFS.nd rfl (.inl rfl) (pe_lst (pa_cons (pe_tup pa_nil) pa_nil)))
      (pss_cons (ps_for PassesOwn.never rfl (pi_seq (pv 0)) (pg_name (i := 2) scFS.nd rfl (.inr rfl))
        (pss_one (ps_setLc2 (i := 1) (own := [("row", 3), ("literal", 4)]) (vs1 := [4]) (g := gName 3) (tt := tYes) (g1 := gName 4) (tt1 := tYes) (by rfl) scFS.nd rfl rfl (sw_true rfl rfl rfl (by decide +kernel)) (pi_list (pv 1)) (blkOk_by (N := nFS) (sc := defScope sFullSettings) (by decide +kernel)) (by decide)
          (fun _ _ _ _ _ => pg_name (i := 3) scFS.nd rfl (.inl rfl)) (fun _ _ _ _ _ => pts_nil) (fun _ _ _ _ _ => show PI _ _ _ (iTup K _) from pi_tup (pe_tup (pa_cons (pv 2) (pa_cons (pe_op op_add_str pe_str (pv 2)) pa_nil)))) (fun _ _ _ _ _ => pg_name (i := 4) scFS.nd rfl (.inl rfl)) (fun _ _ _ _ _ => pts_nil)
          (fun _ _ _ _ _ => pe_tup (show PA _ _ (StX.tStar K _ _) from StX.pa_star (pv 3) (pa_cons (pv 4) pa_nil))))))
      (pss_one (ps_ret (pv 1)))), ?_⟩
    refine ⟨Nat.zero_le _, fun t0 ht0 => ⟨(by show 1 ≤ sizeLine; decide), fun p0 hp0 => ?_⟩⟩
    have s0 : Same H _ := (same_new (o := .tup []) ht0).trans (same_new (o := .lst [.ref t0]) hp0)
    have w0 := (same_new (o := .lst [.ref t0]) hp0) _ _ (upd_same (H := H) (a := t0) (o := .tup []))
    have hp0H : H p0 = none := by
      have z := hp0
      rwa [upd_ne (ne_of_none (upd_same (H := H) (a := t0) (o := .tup [])) hp0).symm] at z
    refine ⟨_, rfl, b, T, _, rfl, hT _ s0, for_it walk_sq (fun i σ H2 => ∃ p ts o2, σ = [some (.ref T), some (.ref p), o2, none, none] ∧ H p = none ∧ H2 p = some (.lst (ts.map V.ref)) ∧ RowsAt H2 ts (fulls (ns.take i)) ∧ Same H H2) ⟨p0, [t0], none, rfl, hp0H, upd_same, .cons w0 .nil, s0⟩ (fun i σ H2 _ ⟨_, _, _, _, _, _, _, sm⟩ => hT _ sm) ?_ ?_⟩
    · rintro i x σ H2 H3 hi ⟨p, ts, o2, rfl, hp, hp2, rows, sm⟩ ⟨rfl, hx⟩
      obtain ⟨n, hn', rfl⟩ := get_map hx
      have n8 := h8 n (List.mem_of_getElem? hn')
      have ilt : i < ns.length := (List.getElem?_eq_some_iff.mp hn').1
      have et : ns.take (i + 1) = ns.take i ++ [n] := by rw [List.take_succ, hn']; rfl
      have few : (fulls (ns.take i)).length ≤ 64 := fulls_few (by rw [List.length_take]; omega)
      have lts : ts.length = (fulls (ns.take i)).length := Paired.length rows
      refine ⟨_, rfl, p, rfl, ⟨_, SqL.of hp2⟩, fun D hD => lc2_it walk_list (fun j H4 => Same H3 H4 ∧ ∃ us, H4 D = some (.lst (us.map V.ref)) ∧ RowsAt H4 us (grow1 ((fulls (ns.take i)).take j) n)) ⟨same_new hD, [], upd_same, .nil⟩ (fun j H4 _ hh => SqL.of (hh.1 _ _ hp2)) ?_ ?_⟩
      · rintro j y H4 H5 hj ⟨sm4, us, hD4, ru⟩ ⟨rfl, hy⟩
        obtain ⟨t, ht, rfl⟩ := get_map hy
        obtain ⟨r, hr', hrt3⟩ := RowsAt.get rows j t ht
        have er : (fulls (ns.take i)).take (j + 1) = (fulls (ns.take i)).take j ++ [r] := by rw [List.take_succ, hr']; rfl
        have lus : us.length ≤ 128 := by
          have z := Paired.length ru
          rw [grow1_len, List.length_take] at z
          omega
        have lr : r.length ≤ 6 := by
          obtain ⟨qs, e, rfl⟩ := fulls_mem.mp (List.mem_of_getElem? hr')
          have z := congrArg List.length e
          rw [List.length_map, List.length_take] at z
          rw [List.length_map]
          omega
        have np : p ≠ D := ne_of_none hp2 hD
        refine ⟨rfl, _, rfl, _, rfl, _, _, rfl, rfl, by show 1 + n.length ≤ sizeLine; rw [sizeLine_eq]; omega, by show 2 ≤ sizeLine; decide, fun t2 ht2 => ⟨t2, rfl, ⟨_, SqT.of upd_same⟩, in_it (walk_tup (xs := [V.str n, V.str (neg n)])) (fun m H6 => Same H3 H6 ∧ H6 t2 = some (.tup [.str n, .str (neg n)]) ∧ ∃ vs, H6 D = some (.lst ((us ++ vs).map V.ref)) ∧ vs.length ≤ m ∧ RowsAt H6 (us ++ vs) (grow1 ((fulls (ns.take i)).take j) n ++ ([n, neg n].take m).map fun l => r ++ [l])) ?_ (fun m H6 _ hh => SqT.of hh.2.1) ?_ ?_⟩⟩
        · refine ⟨sm4.trans (same_new ht2), upd_same, [], ?_, Nat.le_refl _, ?_⟩
          · rw [List.append_nil]
            exact (upd_ne (ne_of_none hD4 ht2)).trans hD4
          · rw [List.append_nil, List.take_zero, List.map_nil, List.append_nil]
            exact ru.same (same_new ht2)
        · rintro m z H6 H7 hm ⟨sm6, ht6, vs, hD6, lvs, rv⟩ ⟨rfl, hz⟩
          obtain ⟨l, hl, rfl⟩ := get_map (g := V.str) (xs := [n, neg n]) hz
          have e2 : [n, neg n].take (m + 1) = [n, neg n].take m ++ [l] := by rw [List.take_succ, hl]; rfl
          have m2 : m < 2 := hm
          have hrt7 : TupAt H7 t r := sm6 _ _ hrt3
          refine ⟨rfl, _, rfl, t, r.map V.str, rfl, .inl (SqT.of hrt7), _, rfl, by rw [List.length_append, List.length_map, sizeLine_eq]; show _ + 1 ≤ _; omega, fun q hq => ?_⟩
          have nqD : q ≠ D := (ne_of_none hD6 hq).symm
          have sq : Same H7 _ := same_new (o := .tup (r.map V.str ++ [.str l])) hq
          refine ⟨_, sq _ _ hD6, by rw [List.length_map, List.length_append, sizeLine_eq]; omega, fun b' o h => (upd_ne (ne_of_none h hD)).trans (sq _ _ (sm6 b' o h)), (upd_ne (ne_of ht6 hD6 fun z => nomatch z)).trans (sq _ _ ht6), vs ++ [q], ?_, by rw [List.length_append]; show _ + 1 ≤ _; omega, ?_⟩
          · rw [upd_same, ← List.append_assoc, List.map_append (l₁ := us ++ vs)]
            rfl
          · have e3 : grow1 ((fulls (ns.take i)).take j) n ++ ([n, neg n].take (m + 1)).map (fun l => r ++ [l]) = (grow1 ((fulls (ns.take i)).take j) n ++ ([n, neg n].take m).map (fun l => r ++ [l])) ++ [r ++ [l]] := by
              rw [e2, List.map_append, ← List.append_assoc]
              rfl
            rw [e3, ← List.append_assoc]
            refine RowsAt.put (sq _ _ hD6) (rows_snoc (rv.same sq) ?_)
            show upd _ _ _ _ = _
            rw [upd_same, List.map_append]
            rfl
        · rintro H6 ⟨sm6, _, vs, hD6, _, rv⟩
          refine ⟨sm6, us ++ vs, hD6, ?_⟩
          rw [er, grow1_app]
          exact rv
      · rintro H4 ⟨sm4, us, hD4, ru⟩
        rw [List.length_map, lts, List.take_length] at ru
        have hDH : H D = none := sm.free hD
        refine ⟨D, us, _, rfl, hDH, hD4, ?_, sm.trans sm4⟩
        rw [et, fulls_snoc]
        exact ru
    · rintro σ H2 ⟨p, ts, o2, rfl, hp, hp2, rows, sm⟩
      rw [List.length_map, List.take_length] at rows
      exact ⟨_, rfl, k p ts H2 hp hp2 rows sm⟩
end
end K6
namespace K6
open PySem PySem.Spec PyProof.Rows L2 LamX NdefX EV
theorem paired_app {α β : Type} {R : α → β → Prop} : ∀ {xs xs' : List α} {ys ys' : List β}, Paired R xs ys → Paired R xs' ys' → Paired R (xs ++ xs') (ys ++ ys')
  | _, _, _, _, .nil, h => h
  | _, _, _, _, .cons r t, h => .cons r (paired_app t h)
theorem cat_one {K : PySem.W.Frag} {H : Hp} {t q : Addr} {r : List Str} {l : Str} {Q : VK} (ht : TupAt H t r) (hq : H q = some (.tup [.str l])) (few : r.length ≤ 100) (k : ∀ p H', TupAt H' p (r ++ [l]) → Same H H' → Q (.ref p) H') : rCatA K (.ref t) (.ref q) H Q := by
  refine ⟨t, q, r.map V.str, [.str l], rfl, rfl, SqT.of ht, SqT.of hq, by rw [List.length_map, sizeLine_eq]; show _ + 1 ≤ _; omega, fun e => ?_, (fun _ e => nomatch e), fun _ _ p hp => ?_⟩
  · have e2 : r = [] := by simpa using e
    subst e2
    exact k q H hq (Same.refl H)
  · refine k p _ ?_ (same_new hp)
    show upd _ _ _ _ = _
    rw [upd_same, List.map_append]
    rfl
def spFulls (K : PySem.W.Frag) : Sp := fun vs H Q _ => ∃ (T : Addr) (ns : List Str), vs = [.ref T] ∧ (∀ H', Same H H' → SqL K H' T (ns.map V.str)) ∧ ns.length ≤ 6 ∧ (∀ z ∈ ns, z.length ≤ 8) ∧
  ∀ (p : Addr) (ts : List Addr) (H' : Hp), H p = none → H' p = some (.lst (ts.map V.ref)) → RowsAt H' ts (fulls ns) → Same H H' → Q (.ref p) H'
def spChkCount (K : PySem.W.Frag) : Sp := fun vs H Q _ => ∃ (T : Addr) (b : Bool) (xs : List V), vs = [.ref T] ∧ Sq K b H T xs ∧ xs.length ≤ 6 ∧ Q .non H
def spIsFull (K : PySem.W.Frag) : Sp := fun vs H Q _ => ∃ (PL : Addr) (x : V) (ns : List Str), vs = [.ref PL, x] ∧ H PL = some (.dK (plc ns)) ∧ ns.length ≤ 60 ∧ ns.Nodup ∧ (∀ z ∈ ns, Name1 z) ∧
  ((∃ s qs, Given K s H ns x qs ∧ ∀ H', Same H H' → Q (.bl (decide (qs.length = ns.length))) H') ∨ (Ask K H ns false x ∧ ∀ H', Same H H' → Q (.bl false) H'))
theorem Sq.len {K : PySem.W.Frag} {H : Hp} {b : Bool} {a : Addr} {xs : List V} (h : Sq K b H a xs) : LenV K (.ref a) H xs.length := by
  cases b
  · exact .inr ⟨xs, h, rfl⟩
  · exact .inl ⟨xs, h, rfl⟩
section
variable {P : Program} {w : World} {K : PySem.W.Frag} {mg : Str → Option Value} {base : Heap} {f fC : Addr} {fd fdC : FuncData}
abbrev nFulls : List Str := ["_law_names_here", "_law_found", "_law_name", "_law_longer", "_law_one"]
theorem scFulls : FnScope nFulls ["_law_names_here"] (defScope sFulls) := ⟨rfl, rfl, rfl, by decide +kernel, rfl, by decide +kernel, by decide +kernel⟩
theorem ok_fulls (F : Fun K "_law_fulls" "_law_fulls" sFulls f fd) : FnOk P w K mg base CX0 1 f fd ["_law_names_here"] (spFulls K) := by
  refine F.ok scFulls (fun vs H Q E h => ?_) (fun cdv A outer s H vs Q E hr h => ?_)
  · obtain ⟨T, ns, rfl, _⟩ := h
    rfl
  · obtain ⟨T, ns, rfl, hT, hn, h8, k⟩ := h
    refine ⟨_, pss_cons (ps_set (i := 1) scFulls.nd rfl (.inl rfl) (pe_lst (pa_cons (pe_tup pa_nil) pa_nil)))
      (pss_cons (ps_for PassesOwn.never rfl (pi_list (pv 0)) (pg_name (i := 2) scFulls.nd rfl (.inl rfl))
        (pss_cons (ps_set (i := 3) scFulls.nd rfl (.inl rfl) (pe_lst pa_nil))
        (pss_cons (ps_for PassesOwn.never rfl (pi_list (pv 1)) (pg_name (i := 4) scFulls.nd rfl (.inl rfl))
          (pss_one (ps_expr (pe_bm PySem.F.plainAttrs_list PySem.F.slot_list_extend PySem.F.type_list_extend mt_extend (pv 3) (pa_cons (pe_lst (pa_cons (pe_op op_catA (pv 4) (pe_tup (pa_cons (pv 2) pa_nil))) (pa_cons (pe_op op_catA (pv 4) (pe_tup (pa_cons (pe_op op_add_str pe_str (pv 2)) pa_nil))) pa_nil))) pa_nil)))))
        (pss_one (ps_set (i := 1) scFulls.nd rfl (.inl rfl) (pv 3))))))
      (pss_one (ps_ret (pv 1)))), ?_⟩
    refine ⟨Nat.zero_le _, fun t0 ht0 => ⟨(by show 1 ≤ sizeLine; decide), fun p0 hp0 => ?_⟩⟩
    have s0 : Same H _ := (same_new (o := .tup []) ht0).trans (same_new (o := .lst [.ref t0]) hp0)
    have w0 := (same_new (o := .lst [.ref t0]) hp0) _ _ (upd_same (H := H) (a := t0) (o := .tup []))
    have hp0H : H p0 = none := by
      have z := hp0
      rwa [upd_ne (ne_of_none (upd_same (H := H) (a := t0) (o := .tup [])) hp0).symm] at z
    refine ⟨_, rfl, T, rfl, ⟨_, hT _ s0⟩, for_list (K := K) (a := T) (xs := ns.map V.str) (fun i σ H2 => ∃ p ts o2 o3 o4, σ = [some (.ref T), some (.ref p), o2, o3, o4] ∧ H p = none ∧ H2 p = some (.lst (ts.map V.ref)) ∧ RowsAt H2 ts (fulls (ns.take i)) ∧ Same H H2) ⟨p0, [t0], none, none, none, rfl, hp0H, upd_same, .cons w0 .nil, s0⟩ (fun i σ H2 _ ⟨_, _, _, _, _, _, _, _, _, sm⟩ => hT _ sm) ?_ ?_⟩
    · rintro i x σ H3 hx ⟨p, ts, o2, o3, o4, rfl, hp, hp2, rows, sm⟩
      obtain ⟨n, hn', rfl⟩ := get_map hx
      have n8 := h8 n (List.mem_of_getElem? hn')
      have ilt : i < ns.length := (List.getElem?_eq_some_iff.mp hn').1
      have et : ns.take (i + 1) = ns.take i ++ [n] := by rw [List.take_succ, hn']; rfl
      have few : (fulls (ns.take i)).length ≤ 64 := fulls_few (by rw [List.length_take]; omega)
      have lts : ts.length = (fulls (ns.take i)).length := Paired.length rows
      refine ⟨Nat.zero_le _, fun D hD => ?_⟩
      have hDH : H D = none := sm.free hD
      have np : p ≠ D := ne_of_none hp2 hD
      refine ⟨_, rfl, p, rfl, ⟨_, SqL.of ((same_new hD) _ _ hp2)⟩, for_list (K := K) (a := p) (xs := ts.map V.ref) (fun j σ H4 => ∃ o4 us, σ = [some (.ref T), some (.ref p), some (.str n), some (.ref D), o4] ∧ Same H3 H4 ∧ H4 D = some (.lst (us.map V.ref)) ∧ RowsAt H4 us (grow1 ((fulls (ns.take i)).take j) n)) ⟨_, [], rfl, same_new hD, upd_same, .nil⟩ (fun j σ H4 _ ⟨_, _, _, hh, _⟩ => SqL.of (hh _ _ hp2)) ?_ ?_⟩
      · rintro j y σ H4 hy ⟨o4, us, rfl, sm4, hD4, ru⟩
        obtain ⟨t, ht, rfl⟩ := get_map hy
        obtain ⟨r, hr', hrt3⟩ := RowsAt.get rows j t ht
        have er : (fulls (ns.take i)).take (j + 1) = (fulls (ns.take i)).take j ++ [r] := by rw [List.take_succ, hr']; rfl
        have lus : us.length ≤ 128 := by
          have z := Paired.length ru
          rw [grow1_len, List.length_take] at z
          omega
        have lr : r.length ≤ 6 := by
          obtain ⟨qs, e, rfl⟩ := fulls_mem.mp (List.mem_of_getElem? hr')
          have z := congrArg List.length e
          rw [List.length_map, List.length_take] at z
          rw [List.length_map]
          omega
        refine ⟨_, rfl, .inl ⟨rfl, _, SqL.of hD4⟩, _, rfl, _, rfl, by show 1 ≤ sizeLine; decide, fun q1 hq1 => ?_⟩
        have a1 : Same H4 _ := same_new (o := .tup [.str n]) hq1
        refine cat_one (a1 _ _ (sm4 _ _ hrt3)) upd_same (by omega) fun v1 H5 hv1 s5 => ?_
        have sm5 := a1.trans s5
        refine ⟨_, rfl, _, rfl, _, _, rfl, rfl, by show 1 + n.length ≤ sizeLine; rw [sizeLine_eq]; omega, by show 1 ≤ sizeLine; decide, fun q2 hq2 => ?_⟩
        have a2 : Same H5 _ := same_new (o := .tup [.str (neg n)]) hq2
        refine cat_one (a2 _ _ (sm5 _ _ (sm4 _ _ hrt3))) upd_same (by omega) fun v2 H6 hv2 s6 => ⟨by show 2 ≤ sizeLine; decide, fun m hm => ?_⟩
        have a3 : Same H6 _ := same_new (o := .lst [.ref v1, .ref v2]) hm
        have s46 : Same H4 (upd H6 m (.lst [.ref v1, .ref v2])) := (sm5.trans (a2.trans s6)).trans a3
        refine ⟨D, m, _, _, rfl, rfl, s46 _ _ hD4, upd_same, by rw [List.length_map, sizeLine_eq]; show _ + 2 ≤ _; omega, _, us ++ [v1, v2], rfl, fun b o h => (upd_ne (ne_of_none h hD)).trans (s46 _ _ (sm4 _ _ h)), ?_, ?_⟩
        · rw [upd_same, List.map_append]
          rfl
        · refine RowsAt.put (s46 _ _ hD4) ?_
          rw [er, grow1_app]
          refine paired_app (ru.same s46) ?_
          exact .cons (a3 _ _ (s6 _ _ (a2 _ _ hv1))) (.cons (a3 _ _ hv2) .nil)
      · rintro σ H4 ⟨o4, us, rfl, sm4, hD4, ru⟩
        rw [List.length_map, lts, List.take_length] at ru
        refine ⟨_, rfl, D, us, _, _, _, rfl, hDH, hD4, ?_, sm.trans sm4⟩
        rw [et, fulls_snoc]
        exact ru
    · rintro σ H2 ⟨p, ts, o2, o3, o4, rfl, hp, hp2, rows, sm⟩
      rw [List.length_map, List.take_length] at rows
      exact ⟨_, rfl, k p ts H2 hp hp2 rows sm⟩
theorem scChkCount : FnScope ["names"] ["names"] (defScope sChkCount) := ⟨rfl, rfl, rfl, by decide +kernel, rfl, by decide +kernel, by decide +kernel⟩
theorem ok_chkCount (F : Fun K "check_count" "check_count" sChkCount f fd) (ml : mg "len" = none) (mS : ∃ t, mg "MOST_SIGNS" = some (.int 6 t)) : FnOk P w K mg base CX0 1 f fd ["names"] (spChkCount K) := by
  obtain ⟨tS, mS⟩ := mS
  refine F.ok scChkCount (fun vs H Q E h => ?_) (fun cdv A outer s H vs Q E hr h => ?_)
  · obtain ⟨T, b, xs, rfl, _⟩ := h
    rfl
  · obtain ⟨T, b, xs, rfl, hT, few, k⟩ := h
    refine ⟨_, pss_one (ps_if (pt_cmpR op_gt (pe_callB call_len (by rfl) ml PySem.boot_len (pa_cons (pv 0) pa_nil)) (pe_glob (v := .int 6) (by rfl) mS ⟨_, rfl⟩) (nomark _)) (pss_one ps_none) pss_nil), ?_⟩
    refine ⟨_, rfl, _, xs.length, rfl, Sq.len hT, _, _, rfl, rfl, _, rfl, ?_⟩
    rw [decide_eq_false (by omega)]
    exact iteF k
theorem scIsFull : FnScope ["places", "thing"] ["places", "thing"] (defScope sIsFull) := ⟨rfl, rfl, rfl, by decide +kernel, rfl, by decide +kernel, by decide +kernel⟩
theorem ok_isFull (F : Fun K "is_full" "is_full" sIsFull f fd) (ml : mg "len" = none) (GC : FnOk P w K mg base CX0 3 fC fdC ["places", "thing"] (spIsClause K)) (mC : mg "is_clause" = some (.ref fC)) (kC : PySem.W.keepIn K (.ref fC) = true) (bC : L2.Binds K fdC ["places", "thing"] []) :
    FnOk P w K mg base CX0 4 f fd ["places", "thing"] (spIsFull K) := by
  refine F.ok scIsFull (fun vs H Q E h => ?_) (fun cdv A' outer s H vs Q E hr h => ?_)
  · obtain ⟨PL, x, ns, rfl, _⟩ := h
    rfl
  · obtain ⟨PL, x, ns, rfl, hPL, hn, nd, good, way⟩ := h
    refine ⟨_, pss_one (ps_ret (pe_and (pe_call GC hr (by rfl) mC kC bC .nil pass0 (pa_cons (pv 0) (pa_cons (pv 1) pa_nil))) (pe_one (pe_cmpR op_eq (pe_op op_mul pe_int (pe_callB call_len (by rfl) ml PySem.boot_len (pa_cons (pv 1) pa_nil))) (pe_callB call_lenD (by rfl) ml PySem.boot_len (pa_cons (pv 0) pa_nil)) (nomark _))))), ?_⟩
    rcases way with ⟨s', qs, giv, k⟩ | ⟨ask, k⟩
    · refine ⟨_, rfl, _, rfl, PL, x, ns, true, rfl, hPL, hn, nd, good, giv.ask, fun H1 sm1 => ⟨_, rfl, iteT ?_⟩⟩
      obtain ⟨hq, b, A, t, rfl, ty, kit, sq⟩ := giv
      have few : qs.length ≤ ns.length := by
        have z := nodup_le (qs.map Prod.snd) ns hq.nd fun n hn => by
          obtain ⟨q, hq', rfl⟩ := List.mem_map.mp hn
          exact hq.sub q hq'
        rwa [List.length_map] at z
      have ll : ((qs.map lit).map V.str).length = qs.length := by rw [List.length_map, List.length_map]
      have sL : LenV K (.ref A) H1 qs.length := ll ▸ Sq.len (sq _ (.of sm1))
      refine ⟨_, rfl, _, qs.length, rfl, sL, _, _, rfl, rfl, .inl ⟨by omega, by omega⟩, _, rfl, PL, _, rfl, sm1 _ _ hPL, rfl, ?_⟩
      have e : decide (V.int (2 * ((qs.length : Nat) : Int)) = V.int ((plc ns).length : Int)) = decide (qs.length = ns.length) := by
        rw [plcF_len, lits_len]
        refine decide_eq_decide.mpr ⟨fun h => ?_, fun h => ?_⟩
        · injection h with h
          omega
        · rw [h]
          congr 1
      show Q (.bl (decide (V.int (2 * ((qs.length : Nat) : Int)) = V.int ((plc ns).length : Int)))) H1
      rw [e]
      exact k H1 sm1
    · exact ⟨_, rfl, _, rfl, PL, x, ns, false, rfl, hPL, hn, nd, good, ask, fun H1 sm1 => ⟨_, rfl, iteF (k H1 sm1)⟩⟩
end
end K6
namespace K6
open PySem PySem.Spec PyProof.Rows L2 LamX NdefX EV
abbrev sInit : Stmt := inClass (top 27) 0
abbrev sSigns : Stmt := inClass (top 27) 1
abbrev sSettings : Stmt := inClass (top 27) 2
abbrev sLen : Stmt := inClass (top 27) 6
abbrev sContains : Stmt := inClass (top 27) 7
abbrev sLe : Stmt := inClass (top 27) 12
abbrev sEq : Stmt := inClass (top 27) 14
/-! ### rules -/
theorem neg_ne (n : Str) : n ≠ neg n := fun e => by
  have z := neg_len n
  rw [← e] at z
  omega
theorem grow1_mem {rows : List (List Str)} {n : Str} {r : List Str} : r ∈ grow1 rows n ↔ ∃ p ∈ rows, r = p ++ [n] ∨ r = p ++ [neg n] := by
  unfold grow1
  rw [List.mem_flatMap]
  constructor
  · rintro ⟨p, hp, h⟩
    rcases List.mem_cons.mp h with h | h
    · exact ⟨p, hp, .inl h⟩
    · exact ⟨p, hp, .inr (List.mem_singleton.mp h)⟩
  · rintro ⟨p, hp, h | h⟩
    · exact ⟨p, hp, by rw [h]; exact List.mem_cons_self⟩
    · exact ⟨p, hp, by rw [h]; exact List.mem_cons_of_mem _ (List.mem_singleton.mpr rfl)⟩
theorem snoc_inj {α : Type} {a b : List α} {x y : α} (h : a ++ [x] = b ++ [y]) : a = b ∧ x = y := by
  obtain ⟨h1, h2⟩ := List.append_inj' h rfl
  exact ⟨h1, by injection h2⟩
theorem grow1_nodup (n : Str) : ∀ rows : List (List Str), rows.Nodup → (grow1 rows n).Nodup
  | [], _ => List.nodup_nil
  | r :: t, nd => by
    obtain ⟨h1, h2⟩ := List.nodup_cons.mp nd
    have ih := grow1_nodup n t h2
    show ((r ++ [n]) :: (r ++ [neg n]) :: grow1 t n).Nodup
    refine List.nodup_cons.mpr ⟨fun h => ?_, List.nodup_cons.mpr ⟨fun h => ?_, ih⟩⟩
    · rcases List.mem_cons.mp h with h | h
      · exact neg_ne n (snoc_inj h).2
      · obtain ⟨p, hp, e | e⟩ := grow1_mem.mp h
        · exact h1 ((snoc_inj e).1 ▸ hp)
        · exact neg_ne n (snoc_inj e).2
    · obtain ⟨p, hp, e | e⟩ := grow1_mem.mp h
      · exact neg_ne n (snoc_inj e).2.symm
      · exact h1 ((snoc_inj e).1 ▸ hp)
theorem foldl_nodup : ∀ (ns : List Str) (rows : List (List Str)), rows.Nodup → (ns.foldl grow1 rows).Nodup
  | [], _, nd => nd
  | n :: ns, rows, nd => foldl_nodup ns _ (grow1_nodup n rows nd)
theorem fulls_nodup (ns : List Str) : (fulls ns).Nodup := foldl_nodup ns [[]] (List.nodup_cons.mpr ⟨fun h => (nomatch h), List.nodup_nil⟩)
theorem addRow_iff {rs : List (List Str)} {r x : List Str} : x ∈ addRow rs r ↔ x ∈ rs ∨ x = r := by
  unfold addRow
  split
  · rename_i h
    exact ⟨.inl, fun q => q.elim id fun e => e ▸ h⟩
  · rw [List.mem_append, List.mem_singleton]
theorem fold_iff : ∀ (xs acc : List (List Str)) (x : List Str), x ∈ xs.foldl addRow acc ↔ x ∈ acc ∨ x ∈ xs
  | [], _, _ => ⟨.inl, fun h => h.elim id fun z => nomatch z⟩
  | y :: xs, acc, x => by
    rw [List.foldl_cons, fold_iff xs, addRow_iff, List.mem_cons, or_assoc]
theorem rowsOf_iff {ns : List Str} {qss : List (List (Bool × Str))} {r : List Str} : r ∈ rowsOf ns qss ↔ ∃ qs ∈ qss, r = asc ns (qs.map lit) := by
  unfold rowsOf
  rw [fold_iff, List.mem_map]
  constructor
  · rintro (h | ⟨qs, h, e⟩)
    · cases h
    · exact ⟨qs, h, e.symm⟩
  · rintro ⟨qs, h, e⟩
    exact .inr ⟨qs, h, e.symm⟩
/-- the allowed settings of a rule of which these are given -/
def allow (ns : List Str) (gs : List (List Str)) : List (List Str) := (fulls ns).filter fun r => decide (r ∈ gs)
/-- the fields of a rule -/
def fl (a pl r : Addr) : List (Str × V) := putF "rows" (.ref r) (putF "places" (.ref pl) (putF "names" (.ref a) []))
theorem fl_eq (a pl r : Addr) : fl a pl r = ([("names", V.ref a), ("places", V.ref pl), ("rows", V.ref r)] : List (Str × V)) := by
  unfold fl putF
  rfl
theorem fl1 (a pl r : Addr) : (fl a pl r).lookup ("names" : Str) = some (.ref a) := by rw [fl_eq]; rfl
theorem fl2 (a pl r : Addr) : (fl a pl r).lookup ("places" : Str) = some (.ref pl) := by rw [fl_eq]; rfl
theorem fl3 (a pl r : Addr) : (fl a pl r).lookup ("rows" : Str) = some (.ref r) := by rw [fl_eq]; rfl
theorem fl_no {a pl r : Addr} {m : Str} (h : (["names", "places", "rows"] : List Str).contains m = false) : (fl a pl r).lookup m = none := by
  rw [fl_eq]
  simp only [List.contains_cons, List.contains_nil, Bool.or_false, Bool.or_eq_false_iff] at h
  obtain ⟨h1, h2, h3⟩ := h
  simp only [List.lookup, h1, h2, h3]
/-- a rule that stands in the heap, the rows' dict named -/
structure RuleR (K : PySem.W.Frag) (C : Addr) (H : Hp) (x : Addr) (sg : List Str) (rs : List (List Str)) (r : Addr) : Prop where
  at_ : ∃ dx a pl, H x = some (.ins C dx (fl a pl r)) ∧ (∀ H', Same H H' → SqT K H' a (sg.map V.str)) ∧ H pl = some (.dK (plc sg)) ∧ H r = some (.dT (rs.map rowKv))
structure RTxt (K : PySem.W.Frag) (mg : Str → Option Value) (C : Addr) : Prop where
  cl : Cls K C
  n1 : NoAttr K C "names"
  n2 : NoAttr K C "places"
  n3 : NoAttr K C "rows"
  mgC : mg "Rule" = some (.ref C)
  tuple : mg "tuple" = none
  list : mg "list" = none
  len : mg "len" = none
theorem RuleR.same {K : PySem.W.Frag} {C : Addr} {H H' : Hp} {x r : Addr} {sg : List Str} {rs : List (List Str)} (c : RuleR K C H x sg rs r) (sm : Same H H') : RuleR K C H' x sg rs r := by
  obtain ⟨dx, a, pl, h1, h2, h4, h5⟩ := c.at_
  exact ⟨dx, a, pl, sm _ _ h1, fun H2 s2 => h2 H2 (sm.trans s2), sm _ _ h4, sm _ _ h5⟩
theorem RuleR.off {K : PySem.W.Frag} {C : Addr} {H H' : Hp} {x r d : Addr} {sg : List Str} {rs : List (List Str)} {ws : List (List Key × V)} (c : RuleR K C H x sg rs r) (hd : H d = some (.dT ws)) (ne : r ≠ d) (g : Grow d H H') : RuleR K C H' x sg rs r := by
  obtain ⟨dx, a, pl, h1, h2, h4, h5⟩ := c.at_
  exact ⟨dx, a, pl, g _ _ (fun e => by rw [e, hd] at h1; cases h1) h1, fun H2 s2 => (sqT_off (h2 H (Same.refl H)) hd g).ext s2, g _ _ (fun e => by rw [e, hd] at h4; cases h4) h4, g _ _ ne h5⟩
theorem RuleR.kept {K : PySem.W.Frag} {C : Addr} {H H' : Hp} {S L x r : Addr} {sg : List Str} {rs : List (List Str)} (cr : RuleR K C H x sg rs r) (hS : Two H S L) (k : Kept S L H H') : RuleR K C H' x sg rs r := by
  obtain ⟨dx, a, pl, h1, h2, h4, h5⟩ := cr.at_
  obtain ⟨⟨_, g1⟩, ⟨_, g2⟩⟩ := id hS
  exact ⟨dx, a, pl, k _ _ h1 (ne_of h1 g1 fun z => nomatch z) (ne_of h1 g2 fun z => nomatch z), fun H2 s2 => (sqT_kept (h2 H (Same.refl H)) hS k).ext s2, k _ _ h4 (ne_of h4 g1 fun z => nomatch z) (ne_of h4 g2 fun z => nomatch z), k _ _ h5 (ne_of h5 g1 fun z => nomatch z) (ne_of h5 g2 fun z => nomatch z)⟩
def spInit (K : PySem.W.Frag) (C : Addr) : Sp := fun vs H Q _ => ∃ (x dx S0 T0 : Addr) (b1 b2 : Bool) (sg : List Str) (xs : List V) (qss : List (List (Bool × Str))), vs = [.ref x, .ref S0, .ref T0] ∧ H x = some (.ins C dx []) ∧
  (∀ H', Grow x H H' → Sq K b1 H' S0 (sg.map V.str)) ∧ (∀ H', Grow x H H' → Sq K b2 H' T0 xs) ∧ sg.length ≤ 6 ∧ sg.Nodup ∧ (∀ z ∈ sg, Name1 z) ∧ Paired (Given K x H sg) xs qss ∧ (∀ qs ∈ qss, qs.length = sg.length) ∧ qss.length ≤ 1000 ∧
  ∀ H' r, Grow x H H' → RuleR K C H' x sg (allow sg (rowsOf sg qss)) r → H r = none → Q .non H'
theorem Given.same {K : PySem.W.Frag} {s : Addr} {H H' : Hp} {ns : List Str} {x : V} {qs : List (Bool × Str)} (g : Given K s H ns x qs) (sm : Same H H') : Given K s H' ns x qs := by
  obtain ⟨hq, b, A, t, rfl, ty, kit, sq⟩ := g
  exact ⟨hq, b, A, t, rfl, fun H2 g2 => ty H2 ((Grow.of sm).trans g2), kit, fun H2 g2 => sq H2 ((Grow.of sm).trans g2)⟩
section
variable {P : Program} {w : World} {K : PySem.W.Frag} {mg : Str → Option Value} {base : Heap} {f fN fP fC fO fU fS C : Addr} {fd fdN fdP fdC fdO fdU fdS : FuncData}
abbrev nInit : List Str := ["self", "signs", "settings", "places", "index", "thing", "given", "setting", "row"]
theorem scInit : FnScope nInit ["self", "signs", "settings"] (defScope sInit) := ⟨rfl, rfl, rfl, by decide +kernel, rfl, by decide +kernel, by decide +kernel⟩
theorem ok_init {A1 : Addr} {dsN : List Value} (F : Fun K "__init__" "Rule.__init__" sInit f fd) (T : RTxt K mg C) (me : mg "enumerate" = none)
    (GN : FnOk P w K mg base CX0 2 fN fdN ["things", "taken"] (spChkNames K)) (mN : mg "check_names" = some (.ref fN)) (kN : PySem.W.keepIn K (.ref fN) = true) (hN1 : NilT K A1) (dN : Vals [.ref A1] dsN) (bN : L2.Binds K fdN ["things", "taken"] dsN)
    (GU : FnOk P w K mg base CX0 1 fU fdU ["names"] (spChkCount K)) (mU : mg "check_count" = some (.ref fU)) (kU : PySem.W.keepIn K (.ref fU) = true) (bU : L2.Binds K fdU ["names"] [])
    (GP : FnOk P w K mg base CX0 2 fP fdP ["names"] (spPlaces K)) (mP : mg "places_of" = some (.ref fP)) (kP : PySem.W.keepIn K (.ref fP) = true) (bP : L2.Binds K fdP ["names"] [])
    (GC : FnOk P w K mg base CX0 4 fC fdC ["places", "thing"] (spIsFull K)) (mC : mg "is_full" = some (.ref fC)) (kC : PySem.W.keepIn K (.ref fC) = true) (bC : L2.Binds K fdC ["places", "thing"] [])
    (GO : FnOk P w K mg base CX0 1 fO fdO ["places", "literals"] (spInOrder K)) (mO : mg "in_order" = some (.ref fO)) (kO : PySem.W.keepIn K (.ref fO) = true) (bO : L2.Binds K fdO ["places", "literals"] [])
    (GS : FnOk P w K mg base CX0 1 fS fdS ["names"] (spFS K)) (mS : mg "full_settings" = some (.ref fS)) (kS : PySem.W.keepIn K (.ref fS) = true) (bS : L2.Binds K fdS ["names"] []) :
    FnOk P w K mg base CX0 5 f fd ["self", "signs", "settings"] (spInit K C) := by
  refine F.ok scInit (fun vs H Q E h => ?_) (fun cdv A' outer s H vs Q E hr h => ?_)
  · obtain ⟨x, dx, S0, T0, b1, b2, sg, xs, qss, rfl, _⟩ := h
    rfl
  · obtain ⟨x, dx, S0, T0, b1, b2, sg, xs, qss, rfl, hx, hS, hT, n6, nd, good, giv, lens, few, k⟩ := h
    have hu := hu_of hr
    have hr1 : Room 1 _ := hr.mono (by decide)
    have hr2 : Room 2 _ := hr.mono (by decide)
    have n60 : sg.length ≤ 60 := by omega
    refine ⟨_, pss_cons (ps_expr (pe_call GN hr2 (by rfl) mN kN bN dN pass0 (pa_cons (pv 1) pa_nil)))
      (pss_cons (ps_expr (pe_call GU hr1 (by rfl) mU kU bU .nil pass0 (pa_cons (pv 1) pa_nil)))
      (pss_cons (ps_set (i := 3) scInit.nd rfl (.inr rfl) (pe_call GP hr2 (by rfl) mP kP bP .nil pass0 (pa_cons (pv 1) pa_nil)))
      (pss_cons (ps_for PassesOwn.never rfl (pi_enumB (by rfl) me (pa_cons (pv 2) pa_nil)) (pg_tup rfl (pgs_cons (pg_name (i := 4) scInit.nd rfl (.inl rfl)) (pgs_cons (pg_name (i := 5) scInit.nd rfl (.inl rfl)) pgs_nil)))
        (pss_one (ps_if (pt_not (pt_val (pe_call GC hr (by rfl) mC kC bC .nil pass0 (pa_cons (pv 3) (pa_cons (pv 5) pa_nil))))) (pss_one ps_none) pss_nil)))
      (pss_cons (ps_set (i := 6) scInit.nd rfl (.inr rfl) (pe_dcP (own := [("setting", 7)]) .t rfl hu scInit.nd (pi_seq (pv 2)) (blkOk_by (N := nInit) (sc := defScope sInit) (by decide +kernel))
          (fun _ _ _ _ _ => pg_name (i := 7) scInit.nd rfl (.inl rfl)) (fun _ _ _ _ _ => pts_nil) (fun _ _ _ _ _ => pe_call GO hr1 (by rfl) mO kO bO .nil pass0 (pa_cons (pv 3) (pa_cons (pv 7) pa_nil))) (fun _ _ _ _ _ => pe_bl)))
      (pss_cons (ps_fld (pv 0) (pe_tupleOf (by rfl) T.tuple (pv 1)) rfl)
      (pss_cons (ps_fld (pv 0) (pv 3) rfl)
      (pss_one (ps_fld (pv 0) (pe_dcP (own := [("row", 8)]) .t rfl hu scInit.nd (pi_list (pe_call GS hr1 (by rfl) mS kS bS .nil pass0 (pa_cons (pv 1) pa_nil))) (blkOk_by (N := nInit) (sc := defScope sInit) (by decide +kernel))
          (fun _ _ _ _ _ => pg_name (i := 8) scInit.nd rfl (.inl rfl)) (fun _ _ _ _ _ => pts_one (pt_cmp (pc_din hu (pv 8) (pv 6)))) (fun _ _ _ _ _ => pv 8) (fun _ _ _ _ _ => pe_bl)) rfl)))))))), ?_⟩
    have g0 : Grow x H H := .of (Same.refl H)
    refine ⟨_, rfl, S0, A1, b1, false, sg, [], rfl, (fun H' s' => hS H' (.of s')), (fun H' _ => hN1.sq H'), n60, Nat.zero_le _, nd, good, fun H1 sm1 => ?_⟩
    refine ⟨_, rfl, S0, b1, _, rfl, hS H1 (.of sm1), by rw [List.length_map]; exact n6, ?_⟩
    refine ⟨_, rfl, S0, b1, sg, rfl, hS H1 (.of sm1), (fun H' s' => hS H' (.of (sm1.trans s'))), n60, nd, good, fun PL H2 hPL0 hPL2 sm2 => ?_⟩
    have sm02 := sm1.trans sm2
    refine ⟨_, rfl, b2, T0, _, rfl, hT _ (.of sm02), for_it walk_enumB (fun i σ H3 => ∃ o4 o5, σ = [some (.ref x), some (.ref S0), some (.ref T0), some (.ref PL), o4, o5, none, none, none] ∧ Same H2 H3) ⟨_, _, rfl, Same.refl _⟩ (fun i σ H3 _ ⟨_, _, _, sm⟩ => hT _ (.of (sm02.trans sm))) ?_ ?_⟩
    · rintro i y σ H3 H4 hi ⟨o4, o5, rfl, sm⟩ ⟨t, v1, v2, rfl, ht, rfl, hv1, hv2⟩
      have sm3 := sm.trans (same_new (o := .tup [v1, v2]) ht)
      obtain ⟨qs, hqs, g⟩ := paired_get giv i v2 hv2
      have lq := lens qs (List.mem_of_getElem? hqs)
      refine ⟨t, _, rfl, SqT.of upd_same, rfl, _, _, rfl, _, _, rfl, rfl, _, rfl, _, rfl, PL, v2, sg, rfl, sm3 _ _ hPL2, n60, nd, good, .inl ⟨x, qs, g.same (sm02.trans sm3), fun H5 sm5 => ⟨_, rfl, ?_⟩⟩⟩
      rw [decide_eq_true lq]
      exact iteF ⟨_, _, rfl, sm3.trans sm5⟩
    rintro σ H3 ⟨o4, o5, rfl, sm3⟩
    have sm03 := sm02.trans sm3
    have g3 : Grow x H H3 := .of sm03
    have hPL3 := sm3 _ _ hPL2
    have lx : xs.length = qss.length := Paired.length giv
    refine ⟨_, rfl, b2, T0, _, rfl, hT _ g3, fun D hD => dc_it walk_sq (fun i H7 => Same H3 H7 ∧ H7 D = some (.dT ((rowsOf sg (qss.take i)).map rowKv))) ⟨same_new hD, upd_same⟩ (fun i H7 _ hh => hT _ (g3.trans (Grow.of hh.1))) ?_ ?_⟩
    · rintro i v H7 H8 hi ⟨sm7, hD7⟩ ⟨rfl, hv⟩
      obtain ⟨qs, hqs, hq, b', A, t', rfl, ty, kit, sq⟩ := paired_get giv i v hv
      have g7 := g3.trans (Grow.of sm7)
      refine ⟨rfl, _, rfl, _, rfl, PL, A, b', sg, qs.map lit, rfl, sm7 _ _ hPL3, sq _ g7, (fun H' s' => sq _ (g7.trans (Grow.of s'))), n60, nd, good, (fun l hl => ?_), fun t H9 ht ht9 sm9 => ?_⟩
      · obtain ⟨q, hq', rfl⟩ := List.mem_map.mp hl
        exact lit_mem (hq.sub q hq')
      rw [← kV_strs] at ht9
      refine ⟨_, DPut.t (sm9 _ _ hD7) ht9 ?_, fun c o h => (upd_ne (ne_of_none h hD)).trans (sm9 _ _ (sm7 _ _ h)), ?_⟩
      · rw [List.length_map, sizeLine_eq]
        have := rowsOf_len sg (qss.take i)
        have := List.length_take_le i qss
        have := List.length_take_le' i qss
        omega
      · rw [upd_same, row_put, List.take_succ, hqs]
        show _ = some (HO.dT ((rowsOf sg (qss.take i ++ [qs])).map rowKv))
        rw [rowsOf_snoc]
    rintro H7 ⟨sm7, hD7⟩
    rw [lx, List.take_length] at hD7
    have sm07 := sm03.trans sm7
    have hx7 := sm07 _ _ hx
    refine ⟨_, rfl, tup_any (x := x) (fun H' g => hS H' ((Grow.of sm07).trans g)) hx7 fun a H8 sm8 ha => ⟨_, rfl, x, C, dx, [], rfl, sm8 _ _ hx7, T.cl, T.n1, (by show 0 < 1000; decide), ?_⟩⟩
    have g8 : Grow x H (upd H8 x (.ins C dx (putF "names" (.ref a) []))) := (Grow.of (sm07.trans sm8)).trans .put
    refine ⟨_, rfl, _, rfl, x, C, dx, _, rfl, upd_same, T.cl, T.n2, (by show 1 < 1000; decide), ?_⟩
    have g9 := g8.trans (Grow.put (x := x) (o := .ins C dx (putF "places" (.ref PL) (putF "names" (.ref a) []))))
    have g79 : Grow x H7 (upd (upd H8 x (.ins C dx (putF "names" (.ref a) []))) x (.ins C dx (putF "places" (.ref PL) (putF "names" (.ref a) [])))) := ((Grow.of sm8).trans .put).trans .put
    generalize eH9 : upd (upd H8 x (.ins C dx (putF "names" (.ref a) []))) x (.ins C dx (putF "places" (.ref PL) (putF "names" (.ref a) []))) = H9 at g9 g79 ⊢
    have hx9 : H9 x = some (.ins C dx (putF "places" (.ref PL) (putF "names" (.ref a) []))) := eH9 ▸ upd_same
    have nPx : PL ≠ x := ne_of (sm7 _ _ hPL3) hx7 fun z => nomatch z
    have nDx : D ≠ x := ne_of hD7 hx7 fun z => nomatch z
    have hPL9 : H9 PL = some (.dK (plc sg)) := g79 _ _ nPx (sm7 _ _ hPL3)
    have hD9 : H9 D = some (.dT ((rowsOf sg qss).map rowKv)) := g79 _ _ nDx hD7
    refine ⟨_, rfl, S0, b1, sg, rfl, (fun H' s' => hS H' (g9.trans (Grow.of s'))), n6, (fun z hz => (good z hz).2.1), fun p ts Ha hp hpa rows sma => ⟨p, rfl, ⟨_, SqL.of hpa⟩, fun R hR => dc_it walk_list (fun i Hb => Same Ha Hb ∧ Hb R = some (.dT ((((fulls sg).take i).filter fun r => decide (r ∈ rowsOf sg qss)).map rowKv))) ⟨same_new hR, upd_same⟩ (fun i Hb _ hh => SqL.of (hh.1 _ _ hpa)) ?_ ?_⟩⟩
    · rintro i v Hb Hc hi ⟨smb, hRb⟩ ⟨rfl, hv⟩
      obtain ⟨t, ht, rfl⟩ := get_map hv
      obtain ⟨r, hr', hrt⟩ := RowsAt.get rows i t ht
      have ht2 : Hc t = some (.tup ((r.map (Sum.inr : Str → Key)).map kV)) := by
        rw [kV_strs]
        exact smb _ _ hrt
      have er : (fulls sg).take (i + 1) = (fulls sg).take i ++ [r] := by rw [List.take_succ, hr']; rfl
      have g := DGet.t (k := r.map Sum.inr) (smb _ _ (sma _ _ hD9)) ht2
      refine ⟨rfl, _, rfl, _, rfl, D, _, rfl, g, _, rfl, ?_⟩
      have fresh : r ∉ ((fulls sg).take i).filter fun r => decide (r ∈ rowsOf sg qss) := fun q => not_before (fulls_nodup sg) hr' (List.mem_filter.mp q).1
      have lf : (((fulls sg).take i).filter fun r => decide (r ∈ rowsOf sg qss)).length ≤ 64 := by
        have z1 := List.length_filter_le (fun r => decide (r ∈ rowsOf sg qss)) ((fulls sg).take i)
        have z2 := List.length_take_le' i (fulls sg)
        have z3 := fulls_few n6
        omega
      by_cases e : r ∈ rowsOf sg qss
      · rw [row_some _ e]
        refine iteT ⟨_, rfl, _, DPut.t hRb ht2 (by rw [List.length_map, sizeLine_eq]; omega), fun c o h => (upd_ne (ne_of_none h hR)).trans (smb c o h), ?_⟩
        rw [upd_same, row_put, er, List.filter_append]
        unfold addRow
        rw [if_neg fresh, List.filter_cons_of_pos (by rw [decide_eq_true e])]
        rfl
      · rw [row_none _ e]
        refine iteF ⟨smb, ?_⟩
        rw [er, List.filter_append, List.filter_cons_of_neg (by rw [decide_eq_false e]; decide), List.filter_nil, List.append_nil]
        exact hRb
    · rintro Hb ⟨smb, hRb⟩
      rw [List.length_map, Paired.length rows, List.take_length] at hRb
      have sm9b := sma.trans smb
      have hR9 : H9 R = none := sma.free hR
      have hxb := sm9b _ _ hx9
      have nRx : R ≠ x := ne_of hRb hxb fun z => nomatch z
      have g9b : Grow x H9 (upd Hb x (.ins C dx (fl a PL R))) := (Grow.of sm9b).trans .put
      refine ⟨_, rfl, x, C, dx, _, rfl, hxb, T.cl, T.n3, (by show 2 < 1000; decide), k _ R (g9.trans g9b) ⟨dx, a, PL, upd_same, ?_, g9b _ _ nPx hPL9, (upd_ne nRx).trans hRb⟩ ?_⟩
      · intro H' s'
        refine ha H' ?_
        exact (Grow.put.trans (eH9 ▸ Grow.put)).trans (g9b.trans (Grow.of s'))
      · cases hHR : H R with
        | none => rfl
        | some o =>
          have z := g9 _ _ nRx hHR
          rw [hR9] at z
          cases z
end
end K6
namespace K6
open PySem PySem.Spec PyProof.Rows L2 LamX NdefX EV
def spSigns (K : PySem.W.Frag) (C : Addr) : Sp := fun vs H Q _ => ∃ (x r : Addr) (sg : List Str) (rs : List (List Str)), vs = [.ref x] ∧ RuleR K C H x sg rs r ∧ ∀ p, H p = none → Q (.ref p) (upd H p (.lst (sg.map V.str)))
def spSettings (K : PySem.W.Frag) (C : Addr) : Sp := fun vs H Q _ => ∃ (x r : Addr) (sg : List Str) (rs : List (List Str)), vs = [.ref x] ∧ RuleR K C H x sg rs r ∧ ∀ p ts, H p = none → RowsAt H ts rs → Q (.ref p) (upd H p (.lst (ts.map V.ref)))
def spLen (K : PySem.W.Frag) (C : Addr) : Sp := fun vs H Q _ => ∃ (x r : Addr) (sg : List Str) (rs : List (List Str)), vs = [.ref x] ∧ RuleR K C H x sg rs r ∧ Q (.int ((rs.length : Nat) : Int)) H
def spContains (K : PySem.W.Frag) (C : Addr) : Sp := fun vs H Q _ => ∃ (x r : Addr) (v : V) (sg : List Str) (rs : List (List Str)), vs = [.ref x, v] ∧ RuleR K C H x sg rs r ∧ sg.length ≤ 60 ∧ sg.Nodup ∧ (∀ z ∈ sg, Name1 z) ∧
  ((∃ qs, Given K x H sg v qs ∧ ∀ H', Same H H' → Q (.bl (decide (qs.length = sg.length) && decide (asc sg (qs.map lit) ∈ rs))) H') ∨ (Ask K H sg false v ∧ ∀ H', Same H H' → Q (.bl false) H'))
theorem keys_rows {H : Hp} : ∀ (rs : List (List Str)) (bs : List Addr), IsKeys H (rs.map rowKv) bs → RowsAt H bs rs
  | [], [], _ => .nil
  | [], _ :: _, h => nomatch h
  | _ :: _, [], h => nomatch h
  | r :: rs, b :: bs, .cons h t => .cons (by rw [show (rowKv r).1 = r.map Sum.inr from rfl, kV_strs] at h; exact h) (keys_rows rs bs t)
theorem scLen : FnScope ["self"] ["self"] (defScope sLen) := ⟨rfl, rfl, rfl, by decide +kernel, rfl, by decide +kernel, by decide +kernel⟩
theorem scContains : FnScope ["self", "thing"] ["self", "thing"] (defScope sContains) := ⟨rfl, rfl, rfl, by decide +kernel, rfl, by decide +kernel, by decide +kernel⟩
theorem scSigns : FnScope ["self"] ["self"] (defScope sSigns) := ⟨rfl, rfl, rfl, by decide +kernel, rfl, by decide +kernel, by decide +kernel⟩
theorem scSettings : FnScope ["self"] ["self"] (defScope sSettings) := ⟨rfl, rfl, rfl, by decide +kernel, rfl, by decide +kernel, by decide +kernel⟩
/-- what `set(..) == set(..)` and the rows tell: which rows of the one stand in the other -/
def found (sg' : List Str) (rs' rs : List (List Str)) : List Bool := rs.map fun q => decide (asc sg' q ∈ rs')
def leR (sg : List Str) (rs : List (List Str)) (sg' : List Str) (rs' : List (List Str)) : Bool := sameMem sg sg' && (found sg' rs' rs).all id
def eqR (sg : List Str) (rs : List (List Str)) (sg' : List Str) (rs' : List (List Str)) : Bool := leR sg rs sg' rs' && decide (rs.length = rs'.length)
/-- a row of a rule: one literal for each sign -/
def FullOf (ns r : List Str) : Prop := ∃ qs, Lits ns qs ∧ qs.length = ns.length ∧ r = qs.map lit
def spLe (K : PySem.W.Frag) (C : Addr) : Sp := fun vs H Q _ => ∃ (x y : Addr) (sg sg' : List Str) (rs rs' : List (List Str)) (r r' : Addr), vs = [.ref x, .ref y] ∧ RuleR K C H x sg rs r ∧ RuleR K C H y sg' rs' r' ∧ r ≠ r' ∧ sg.length ≤ 60 ∧ sg'.length ≤ 60 ∧ sg.Nodup ∧ sg'.Nodup ∧ (∀ z ∈ sg', Name1 z) ∧ (∀ q ∈ rs, FullOf sg q) ∧ rs.length ≤ 1000 ∧
  ∀ H', Same H H' → Q (.bl (leR sg rs sg' rs')) H'
def spEq (K : PySem.W.Frag) (C : Addr) : Sp := fun vs H Q _ => ∃ (x : Addr) (v : V) (sg : List Str) (rs : List (List Str)) (r : Addr), vs = [.ref x, v] ∧ RuleR K C H x sg rs r ∧ sg.length ≤ 60 ∧ sg.Nodup ∧ (∀ q ∈ rs, FullOf sg q) ∧ rs.length ≤ 1000 ∧
  ((∃ (y : Addr) (sg' : List Str) (rs' : List (List Str)) (r' : Addr), v = .ref y ∧ RuleR K C H y sg' rs' r' ∧ r ≠ r' ∧ sg'.length ≤ 60 ∧ sg'.Nodup ∧ (∀ z ∈ sg', Name1 z) ∧ ∀ H', Same H H' → Q (.bl (eqR sg rs sg' rs')) H')
   ∨ ((∃ t, TyX K H v t ∧ PySem.W.kitOne K t (.ref C) = some false) ∧ ∀ H', Same H H' → Q (.bl false) H'))
section
variable {P : Program} {w : World} {K : PySem.W.Frag} {mg : Str → Option Value} {base : Heap} {f fI fL C : Addr} {fd fdI fdL : FuncData}
theorem ok_signs (F : Fun K "signs" "Rule.signs" sSigns f fd) (T : RTxt K mg C) : FnOk P w K mg base CX0 1 f fd ["self"] (spSigns K C) := by
  refine F.ok scSigns (fun vs H Q E h => ?_) (fun cdv A' outer s H vs Q E hr h => ?_)
  · obtain ⟨x, r, sg, rs, rfl, _⟩ := h
    rfl
  · obtain ⟨x, r, sg, rs, rfl, ⟨dx, a, pl, hx, ha, _⟩, k⟩ := h
    refine ⟨_, pss_one (ps_ret (pe_callTy call_list_of (by rfl) T.list (by decide +kernel) (pa_cons (pe_fld (pv 0) rfl) pa_nil))), ?_⟩
    exact ⟨_, rfl, x, C, dx, _, _, rfl, hx, T.cl, T.n1, fl1 .., a, _, rfl, .inr (ha H (Same.refl H)), k⟩
theorem ok_settings (F : Fun K "settings" "Rule.settings" sSettings f fd) (T : RTxt K mg C) : FnOk P w K mg base CX0 1 f fd ["self"] (spSettings K C) := by
  refine F.ok scSettings (fun vs H Q E h => ?_) (fun cdv A' outer s H vs Q E hr h => ?_)
  · obtain ⟨x, r, sg, rs, rfl, _⟩ := h
    rfl
  · obtain ⟨x, r, sg, rs, rfl, ⟨dx, a, pl, hx, _, _, hr4⟩, k⟩ := h
    refine ⟨_, pss_one (ps_ret (pe_callTy (call_list_dT rfl) (by rfl) T.list (by decide +kernel) (pa_cons (pe_fld (pv 0) rfl) pa_nil))), ?_⟩
    refine ⟨_, rfl, x, C, dx, _, _, rfl, hx, T.cl, T.n3, fl3 .., r, _, rfl, .inl hr4, fun p bs hp hk => k p bs hp ?_⟩
    exact keys_rows rs bs hk
theorem ok_len (F : Fun K "__len__" "Rule.__len__" sLen f fd) (T : RTxt K mg C) : FnOk P w K mg base CX0 1 f fd ["self"] (spLen K C) := by
  refine F.ok scLen (fun vs H Q E h => ?_) (fun cdv A' outer s H vs Q E hr h => ?_)
  · obtain ⟨x, r, sg, rs, rfl, _⟩ := h
    rfl
  · obtain ⟨x, r, sg, rs, rfl, ⟨dx, a, pl, hx, _, _, hr4⟩, k⟩ := h
    refine ⟨_, pss_one (ps_ret (pe_callB call_len_dT (by rfl) T.len PySem.boot_len (pa_cons (pe_fld (pv 0) rfl) pa_nil))), ?_⟩
    refine ⟨_, rfl, x, C, dx, _, _, rfl, hx, T.cl, T.n3, fl3 .., r, _, rfl, hr4, ?_⟩
    rw [List.length_map]
    exact k
theorem ok_contains {fC fO : Addr} {fdC fdO : FuncData} (F : Fun K "__contains__" "Rule.__contains__" sContains f fd) (T : RTxt K mg C)
    (GC : FnOk P w K mg base CX0 4 fC fdC ["places", "thing"] (spIsFull K)) (mC : mg "is_full" = some (.ref fC)) (kC : PySem.W.keepIn K (.ref fC) = true) (bC : L2.Binds K fdC ["places", "thing"] [])
    (GO : FnOk P w K mg base CX0 1 fO fdO ["places", "literals"] (spInOrder K)) (mO : mg "in_order" = some (.ref fO)) (kO : PySem.W.keepIn K (.ref fO) = true) (bO : L2.Binds K fdO ["places", "literals"] []) :
    FnOk P w K mg base CX0 5 f fd ["self", "thing"] (spContains K C) := by
  refine F.ok scContains (fun vs H Q E h => ?_) (fun cdv A' outer s H vs Q E hr h => ?_)
  · obtain ⟨x, r, v, sg, rs, rfl, _⟩ := h
    rfl
  · obtain ⟨x, r, v, sg, rs, rfl, ⟨dx, a, pl, hx, _, hpl, hr4⟩, hn, nd, good, way⟩ := h
    have hu := hu_of hr
    have hr1 : Room 1 _ := hr.mono (by decide)
    refine ⟨_, pss_one (ps_ret (pe_and (pe_call GC hr (by rfl) mC kC bC .nil pass0 (pa_cons (pe_fld (pv 0) rfl) (pa_cons (pv 1) pa_nil))) (pe_one (pe_cmp (pc_din hu (pe_call GO hr1 (by rfl) mO kO bO .nil pass0 (pa_cons (pe_fld (pv 0) rfl) (pa_cons (pv 1) pa_nil))) (pe_fld (pv 0) rfl)))))), ?_⟩
    refine ⟨_, rfl, x, C, dx, _, _, rfl, hx, T.cl, T.n2, fl2 .., _, rfl, ?_⟩
    rcases way with ⟨qs, giv, k⟩ | ⟨ask, k⟩
    · refine ⟨pl, v, sg, rfl, hpl, hn, nd, good, .inl ⟨x, qs, giv, fun H1 sm1 => ⟨_, rfl, ?_⟩⟩⟩
      cases el : decide (qs.length = sg.length) with
      | false =>
        have z := k H1 sm1
        rw [el] at z
        exact iteF z
      | true =>
        refine iteT ?_
        obtain ⟨hq, b', A, t, rfl, ty, kit, sq⟩ := giv
        refine ⟨_, rfl, x, C, dx, _, _, rfl, sm1 _ _ hx, T.cl, T.n2, fl2 .., _, rfl, pl, A, b', sg, qs.map lit, rfl, sm1 _ _ hpl, sq _ (.of sm1), (fun H' s' => sq _ (.of (sm1.trans s'))), hn, nd, good, (fun l hl => ?_), fun t1 H2 ht ht2 sm2 => ?_⟩
        · obtain ⟨q, hq', rfl⟩ := List.mem_map.mp hl
          exact lit_mem (hq.sub q hq')
        rw [← kV_strs] at ht2
        have sm := sm1.trans sm2
        have g := DGet.t (k := (asc sg (qs.map lit)).map Sum.inr) (sm _ _ hr4) ht2
        refine ⟨_, rfl, x, C, dx, _, _, rfl, sm _ _ hx, T.cl, T.n3, fl3 .., r, _, rfl, g, ?_⟩
        by_cases e : asc sg (qs.map lit) ∈ rs
        · rw [row_some rs e]
          have z := k H2 sm
          rwa [el, decide_eq_true e] at z
        · rw [row_none rs e]
          have z := k H2 sm
          rwa [el, decide_eq_false e] at z
    · exact ⟨pl, v, sg, rfl, hpl, hn, nd, good, .inr ⟨ask, fun H1 sm1 => ⟨_, rfl, iteF (k H1 sm1)⟩⟩⟩
abbrev nLe : List Str := ["self", "other", "row"]
theorem scLe : FnScope nLe ["self", "other"] (defScope sLe) := ⟨rfl, rfl, rfl, by decide +kernel, rfl, by decide +kernel, by decide +kernel⟩
theorem ok_le (F : Fun K "__le__" "Rule.__le__" sLe f fd) (T : RTxt K mg C) (ma : mg "all" = none) (ms : mg "set" = none)
    (GI : FnOk P w K mg base CX0 5 fI fdI ["self", "thing"] (spContains K C)) (hs : PySem.W.findIn K (.ref C) "__contains__" = some (some (.ref fI))) (hf : PySem.W.isFn K (.ref fI) = true) (bI : L2.Binds K fdI ["self", "thing"] []) :
    FnOk P w K mg base CX0 6 f fd ["self", "other"] (spLe K C) := by
  refine F.ok scLe (fun vs H Q E h => ?_) (fun cdv A' outer s H vs Q E hr h => ?_)
  · obtain ⟨x, y, sg, sg', rs, rs', r, r', rfl, _⟩ := h
    rfl
  · obtain ⟨x, y, sg, sg', rs, rs', r, r', rfl, cx, cy, ner, n1, n2, d1, d2, good', rows, few, k⟩ := h
    have hu := Nat.lt_of_succ_lt (hu_of hr)
    have hr5 : Room 5 _ := hr.mono (by decide)
    refine ⟨_, pss_one (ps_ret (pe_and (pe_cmpR (op_eqX hu) (pe_callTy (cr_setX rfl) (by rfl) ms (by decide +kernel) (pa_cons (pe_fld (pv 0) rfl) pa_nil)) (pe_callTy (cr_setX rfl) (by rfl) ms (by decide +kernel) (pa_cons (pe_fld (pv 1) rfl) pa_nil)) (nomark _))
      (pe_one (pe_callB (cr_all rfl) (by rfl) ma (by decide +kernel) (pa_cons (pe_lock (pe_lc (own := [("row", 2)]) (g := gName 2) (tt := tYes) rfl scLe.nd (pi_keys (pe_fld (pv 0) rfl)) (blkOk_by (N := nLe) (sc := defScope sLe) (by decide +kernel))
          (fun _ _ _ _ _ => pg_name (i := 2) scLe.nd rfl (.inl rfl)) (fun _ _ _ _ _ => pts_nil) (fun _ _ _ _ _ => pe_cmpR (op_inOwn GI hs hf bI pass0 hr5) (pv 2) (pv 1) rfl))) pa_nil))))), ?_⟩
    obtain ⟨dx, a, pl, hx, ha, _, hr4⟩ := cx.at_
    obtain ⟨dy, a', pl', hy, ha', _, hr4'⟩ := cy.at_
    refine ⟨_, rfl, x, C, dx, _, _, rfl, hx, T.cl, T.n1, fl1 .., a, sg, rfl, ha H (Same.refl H), d1, by omega, fun p hp0 => ?_⟩
    have sm1 : Same H _ := same_new (o := SetX P w p sg) hp0
    refine ⟨_, rfl, y, C, dy, _, _, rfl, sm1 _ _ hy, T.cl, T.n1, fl1 .., a', sg', rfl, ha' _ sm1, d2, by omega, fun q hq0 => ?_⟩
    have sm2 : Same H _ := sm1.trans (same_new (o := SetX P w q sg') hq0)
    refine ⟨p, q, sg, sg', rfl, rfl, (upd_ne (ne_of_none upd_same hq0)).trans upd_same, upd_same, _, rfl, ?_⟩
    generalize hX : upd (upd H p (SetX _ _ p sg)) q (SetX _ _ q sg') = H1
    replace sm2 : Same H H1 := by
      rw [← hX]
      exact sm2
    cases h1 : sameMem sg sg' with
    | false =>
      refine iteF ?_
      have z := k _ sm2
      unfold leR at z
      rw [h1] at z
      exact z
    | true =>
      have sub : ∀ z ∈ sg, z ∈ sg' := mem_same h1
      have len := (sameMem_iff.mp h1).1
      have hd1 := sm2 _ _ hr4
      have cy1 := cy.same sm2
      have hx1 := sm2 _ _ hx
      have nxr : x ≠ r := ne_of hx1 hd1 fun z => nomatch z
      refine iteT ⟨r, _, hd1, trivial, fun od => ?_⟩
      have g0 : Grow r H1 (upd H1 r (.frz od (.dT (rs.map rowKv)))) := Grow.put
      refine ⟨_, rfl, x, C, dx, _, _, rfl, (upd_ne nxr).trans hx1, T.cl, T.n3, fl3 .., r, od, rfl, .inr ⟨_, upd_same, fun L hL => lc_it walk_keysT (fun i H2 => H2 r = some (.frz od (.dT (rs.map rowKv))) ∧ H2 L = some (.lst ((found sg' rs' (rs.take i)).map V.bl)) ∧ Grow r H1 H2) ?_ (fun i H2 _ hh => hh.1) ?_ ?_⟩⟩
      · have nrL : r ≠ L := ne_of_none (show upd H1 r (.frz od (.dT (rs.map rowKv))) r = some _ from upd_same) hL
        refine ⟨(upd_ne nrL).trans upd_same, ?_, fun c o nc e => (upd_ne (ne_of_none (g0 c o nc e) hL)).trans (g0 c o nc e)⟩
        rw [upd_same]
        rfl
      · rintro i v H2 H3 hi ⟨hr2, hL2, g2⟩ ⟨rfl, kk, vv, q, hkv, rfl, hq⟩
        obtain ⟨row, hrow, ekv⟩ := get_map hkv
        injection ekv with ek ev
        rw [ek, kV_strs] at hq
        obtain ⟨qs, hqs, lq, rfl⟩ := rows row (List.mem_of_getElem? hrow)
        have cy2 := cy1.off hd1 ner.symm g2
        obtain ⟨dy2, _, _, hy2, _⟩ := cy2.at_
        have nqy : q ≠ y := ne_of hq hy2 fun z => nomatch z
        refine ⟨rfl, _, rfl, _, rfl, y, dy2, _, rfl, hy2, y, r', .ref q, sg', rs', rfl, cy2, n2, d2, good', .inl ⟨qs, ⟨hqs.names sub, false, q, .type "tuple", rfl, fun H' g => .base (.tup (g _ _ nqy hq)), kit_seq false, fun H' g => Sq.tup (g _ _ nqy hq)⟩, fun H4 sm4 => ⟨_, rfl, ?_⟩⟩⟩
        rw [decide_eq_true (lq.trans len)]
        refine ⟨_, sm4 _ _ hL2, by rw [List.length_map]; unfold found; rw [List.length_map, List.length_take, sizeLine_eq]; omega, ?_, ?_, ?_⟩
        · have nrL : r ≠ L := ne_of hr2 hL2 fun z => nomatch z
          exact (upd_ne nrL).trans (sm4 _ _ hr2)
        · rw [upd_same, List.take_succ, hrow]
          unfold found
          rw [List.map_append, List.map_append]
          rfl
        · intro c o nc e
          have z := sm4 _ _ (g2 c o nc e)
          have hL1 : H1 L = none := by
            have y := hL
            rwa [upd_ne (ne_of_none (show upd H1 r (.frz od (.dT (rs.map rowKv))) r = some _ from upd_same) hL).symm] at y
          exact (upd_ne (ne_of_none e hL1)).trans z
      · rintro H2 ⟨hr2, hL2, g2⟩
        have nrL : L ≠ r := ne_of hL2 hr2 fun z => nomatch z
        refine ⟨hr2, L, _, rfl, SqL.of ((upd_ne nrL).trans hL2), ?_⟩
        have sm3 : Same H1 (upd H2 r (.dT (rs.map rowKv))) := fun c o e => by
          by_cases q : c = r
          · rw [q, hd1] at e
            rw [q, upd_same, e]
          · exact (upd_ne q).trans (g2 c o q e)
        have z := k _ (sm2.trans sm3)
        unfold leR at z
        rw [List.length_map, List.take_length]
        rw [h1] at z
        exact z
abbrev nEq : List Str := ["self", "other"]
theorem scEq : FnScope nEq ["self", "other"] (defScope sEq) := ⟨rfl, rfl, rfl, by decide +kernel, rfl, by decide +kernel, by decide +kernel⟩
theorem ok_eq (F : Fun K "__eq__" "Rule.__eq__" sEq f fd) (T : RTxt K mg C) (TI : CIs K C) (nf : PySem.W.notFirst K C (.ref C) = true) (mi : mg "isinstance" = none)
    (GL : FnOk P w K mg base CX0 6 fL fdL ["self", "other"] (spLe K C)) (hs : PySem.W.findIn K (.ref C) "__le__" = some (some (.ref fL))) (hf : PySem.W.isFn K (.ref fL) = true) (bL : L2.Binds K fdL ["self", "other"] []) :
    FnOk P w K mg base CX0 7 f fd ["self", "other"] (spEq K C) := by
  refine F.ok scEq (fun vs H Q E h => ?_) (fun cdv A' outer s H vs Q E hr h => ?_)
  · obtain ⟨x, v, sg, rs, r, rfl, _⟩ := h
    rfl
  · obtain ⟨x, v, sg, rs, r, rfl, cx, hn, nd, rows, few, way⟩ := h
    have hr6 : Room 6 _ := hr.mono (by decide)
    refine ⟨_, pss_one (ps_ret (pe_and (pe_callB call_isi (by rfl) mi (by decide +kernel) (pa_cons (pv 1) (pa_cons (pe_glob (v := .ref C) (by rfl) T.mgC rfl) pa_nil)))
        (pe_and (pe_cmpR (op_leOwn GL hs hf bL pass0 hr6) (pv 0) (pv 1) (nomark _))
        (pe_one (pe_cmpR op_eq (pe_callB call_len_dT (by rfl) T.len PySem.boot_len (pa_cons (pe_fld (pv 0) rfl) pa_nil)) (pe_callB call_len_dT (by rfl) T.len PySem.boot_len (pa_cons (pe_fld (pv 1) rfl) pa_nil)) (nomark _)))))), ?_⟩
    obtain ⟨dx, a, pl, hx, _, _, hr4⟩ := cx.at_
    rcases way with ⟨y, sg', rs', r', rfl, cy, ner, hn', nd', good', k⟩ | ⟨⟨t, ty, kit⟩, k⟩
    · obtain ⟨dy, a', pl', hy, _, _, hr4'⟩ := cy.at_
      have tyy : TyX K H (.ref y) (.ref C) := .base (.ins hy T.cl TI.cl TI.gt TI.tk TI.ob)
      refine ⟨_, rfl, .ref y, .ref C, _, _, true, rfl, .own C, tyy, by show (if (Value.ref C == Value.ref C) = true then _ else _) = _; rw [if_pos (by simp)], _, rfl, ?_⟩
      refine iteT ⟨_, rfl, _, rfl, .ref C, tyy, nf, x, dx, _, rfl, hx, x, y, sg, sg', rs, rs', r, r', rfl, cx, cy, ner, hn, hn', nd, nd', good', rows, few, fun H1 sm1 => ⟨_, rfl, _, rfl, ?_⟩⟩
      cases e1 : leR sg rs sg' rs' with
      | false =>
        have z := k H1 sm1
        unfold eqR at z
        rw [e1] at z
        exact iteF z
      | true =>
        refine iteT ⟨_, rfl, x, C, dx, _, _, rfl, sm1 _ _ hx, T.cl, T.n3, fl3 .., r, _, rfl, sm1 _ _ hr4, _, rfl, y, C, dy, _, _, rfl, sm1 _ _ hy, T.cl, T.n3, fl3 .., r', _, rfl, sm1 _ _ hr4', rfl, ?_⟩
        have eL : decide (V.int (((rs.map rowKv).length : Nat) : Int) = V.int (((rs'.map rowKv).length : Nat) : Int)) = decide (rs.length = rs'.length) := by
          rw [List.length_map, List.length_map]
          refine decide_eq_decide.mpr ⟨fun h => ?_, fun h => by rw [h]⟩
          injection h with h
          omega
        show Q (.bl (decide (V.int (((rs.map rowKv).length : Nat) : Int) = V.int (((rs'.map rowKv).length : Nat) : Int)))) H1
        rw [eL]
        have z := k H1 sm1
        unfold eqR at z
        rw [e1] at z
        exact z
    · exact ⟨_, rfl, v, .ref C, _, _, false, rfl, .own C, ty, kit, _, rfl, iteF (k H (Same.refl H))⟩
end
end K6
namespace K6
open PySem PySem.Spec PyProof.Rows L2 LamX NdefX EV
theorem sub_filter : ∀ {s l : List (List Str)}, s.Sublist l → l.Nodup → l.filter (fun r => decide (r ∈ s)) = s := by
  intro s l h
  induction h with
  | slnil => intro _; rfl
  | @cons s l a h ih =>
    intro nd
    obtain ⟨h1, h2⟩ := List.nodup_cons.mp nd
    have na : a ∉ s := fun q => h1 (h.subset q)
    rw [List.filter_cons_of_neg (by rw [decide_eq_false na]; decide)]
    exact ih h2
  | @cons_cons s l a h ih =>
    intro nd
    obtain ⟨h1, h2⟩ := List.nodup_cons.mp nd
    rw [List.filter_cons_of_pos (p := fun r => decide (r ∈ a :: s)) (decide_eq_true List.mem_cons_self)]
    have e : l.filter (fun r => decide (r ∈ a :: s)) = l.filter (fun r => decide (r ∈ s)) := List.filter_congr fun r hr => decide_eq_decide.mpr ⟨fun q => (List.mem_cons.mp q).resolve_left fun e => h1 (e ▸ hr), fun q => List.mem_cons_of_mem _ q⟩
    rw [e, ih h2]
/-- a drawn rule -/
structure Draw2 (sg : List Str) (rs : List (List Str)) : Prop where
  n6 : sg.length ≤ 6
  nd : sg.Nodup
  good : ∀ z ∈ sg, Name1 z
  sub : rs.Sublist (fulls sg)
theorem Draw2.few {sg : List Str} {rs : List (List Str)} (D : Draw2 sg rs) : rs.length ≤ 64 := Nat.le_trans D.sub.length_le (fulls_few D.n6)
theorem full_of {sg r : List Str} (nd : sg.Nodup) (h : r ∈ fulls sg) : FullOf sg r := by
  obtain ⟨qs, e, rfl⟩ := fulls_mem.mp h
  refine ⟨qs, ⟨by rw [e]; exact nd, fun q hq => by rw [← e]; exact List.mem_map_of_mem hq⟩, ?_, rfl⟩
  rw [← e, List.length_map]
theorem Draw2.full {sg : List Str} {rs : List (List Str)} (D : Draw2 sg rs) : ∀ r ∈ rs, FullOf sg r := fun r hr => full_of D.nd (D.sub.subset hr)
theorem Draw2.rnd {sg : List Str} {rs : List (List Str)} (D : Draw2 sg rs) : rs.Nodup := D.sub.nodup (fulls_nodup sg)
section
variable {P : Program} {w : World} {K : PySem.W.Frag} {mg : Str → Option Value} {base : Heap} {f fD fN fF : Addr} {fd fdD fdN fdF : FuncData}
end
end K6
namespace K6
open PySem PySem.Spec PyProof.Rows L2 LamX NdefX EV
theorem full_texts {ns r : List Str} (good : ∀ z ∈ ns, Name1 z) (h : FullOf ns r) : r.length = ns.length ∧ ∀ z ∈ r, Fit z ∧ z.length ≤ 9 := by
  obtain ⟨qs, hq, lq, rfl⟩ := h
  refine ⟨by rw [List.length_map, lq], fun z hz => ?_⟩
  obtain ⟨q, hq', rfl⟩ := List.mem_map.mp hz
  have g := good _ (hq.sub q hq')
  refine ⟨g.fit.lit, ?_⟩
  have l8 : q.2.length ≤ 8 := g.2.1
  unfold lit
  split
  · rw [neg_len]; omega
  · omega
theorem small_allowed {sg : List Str} {rs : List (List Str)} (n7 : sg.length ≤ 7) (good : ∀ z ∈ sg, Name1 z) (full : ∀ r ∈ rs, FullOf sg r) : SmallAll (rs.map fun r => PyData.tuple (r.map PyData.str)) (((9 + 1) * 7 + 1) * rs.length) 3 :=
  small_rows (n := 9) (m := 7) rs fun r hr => ⟨by rw [(full_texts good (full r hr)).1]; omega, (full_texts good (full r hr)).2⟩
theorem small_names {sg : List Str} (n7 : sg.length ≤ 7) (good : ∀ z ∈ sg, Name1 z) : SmallAll (sg.map PyData.str) 70 2 := by
  have z := small_strs (n := 9) sg fun z hz => ⟨(good z hz).fit, by have l8 : z.length ≤ 8 := (good z hz).2.1; omega⟩
  exact ⟨z.ls, Nat.le_trans z.bk (by omega), z.sh, z.dp⟩
section
variable {P : Program} {w : World} {K : PySem.W.Frag} {mg : Str → Option Value} {base : Heap} {f fS f1 f2 f3 f4 C : Addr} {fd fdS fd1 fd2 fd3 fd4 : FuncData}
end
end K6
namespace K6
open PySem PySem.Spec PyProof.Rows L2 LamX NdefX EV
/-! ### full settings in order -/
theorem asc_full : ∀ (ns : List Str) (qs : List (Bool × Str)), ns.Nodup → (∀ z ∈ ns, Name1 z) → qs.map Prod.snd = ns → asc ns (qs.map lit) = qs.map lit
  | [], qs, _, _, e => by
    obtain rfl : qs = [] := by simpa using e
    rfl
  | n :: ns, [], _, _, e => nomatch e
  | n :: ns, (b, m) :: qs, nd, good, e => by
    injection e with e1 e2
    have e1 : m = n := e1
    subst e1
    obtain ⟨h1, h2⟩ := List.nodup_cons.mp nd
    have goodr : ∀ z ∈ ns, Name1 z := fun z hz => good z (List.mem_cons_of_mem _ hz)
    have ln : (m :: neg m :: lits ns).Nodup := lits_nodup (m :: ns) nd good
    obtain ⟨l1, l2⟩ := List.nodup_cons.mp ln
    obtain ⟨l3, l4⟩ := List.nodup_cons.mp l2
    have m1 : m ∉ lits ns := fun q => l1 (List.mem_cons_of_mem _ q)
    have sub : ∀ l ∈ qs.map lit, l ∈ lits ns := fun l hl => by
      obtain ⟨q, hq, rfl⟩ := List.mem_map.mp hl
      exact lit_mem (by rw [← e2]; exact List.mem_map_of_mem hq)
    have ih := asc_full ns qs h2 goodr e2
    have tail : (lits ns).filter (fun l => decide (l ∈ ((b, m) :: qs).map lit)) = qs.map lit := by
      rw [← ih]
      unfold asc
      refine List.filter_congr fun l hl => decide_eq_decide.mpr ⟨fun q => ?_, fun q => ?_⟩
      · rw [List.map_cons] at q
        rcases List.mem_cons.mp q with q | q
        · cases b
          · exact absurd (show l = m from q) fun e => m1 (e ▸ hl)
          · exact absurd (show l = neg m from q) fun e => l3 (e ▸ hl)
        · exact q
      · exact List.mem_cons_of_mem _ q
    show (m :: neg m :: lits ns).filter (fun l => decide (l ∈ ((b, m) :: qs).map lit)) = lit (b, m) :: qs.map lit
    cases b with
    | false =>
      have y1 : m ∈ ((false, m) :: qs).map lit := List.mem_cons_self
      have y2 : neg m ∉ ((false, m) :: qs).map lit := fun q => by
        rw [List.map_cons] at q
        rcases List.mem_cons.mp q with q | q
        · exact neg_ne m (show neg m = m from q).symm
        · exact l3 (sub _ q)
      rw [List.filter_cons, if_pos (decide_eq_true y1), List.filter_cons, if_neg (by rw [decide_eq_false y2]; decide), tail]
      rfl
    | true =>
      have y1 : m ∉ ((true, m) :: qs).map lit := fun q => by
        rw [List.map_cons] at q
        rcases List.mem_cons.mp q with q | q
        · exact neg_ne m (show m = neg m from q)
        · exact m1 (sub _ q)
      have y2 : neg m ∈ ((true, m) :: qs).map lit := List.mem_cons_self
      rw [List.filter_cons, if_neg (by rw [decide_eq_false y1]; decide), List.filter_cons, if_pos (decide_eq_true y2), tail]
      rfl
theorem asc_fulls {ns r : List Str} (nd : ns.Nodup) (good : ∀ z ∈ ns, Name1 z) (h : r ∈ fulls ns) : asc ns r = r := by
  obtain ⟨qs, e, rfl⟩ := fulls_mem.mp h
  exact asc_full ns qs nd good e
/-- literals of all names, in any order: brought into order they are a full setting -/
theorem asc_any {ns : List Str} {qs : List (Bool × Str)} (nd : ns.Nodup) (good : ∀ z ∈ ns, Name1 z) (hq : Lits ns qs) (lq : qs.length = ns.length) : asc ns (qs.map lit) ∈ fulls ns := by
  -- the literals, taken name by name
  have back : ∀ n ∈ ns, ∃ b, (b, n) ∈ qs := fun n hn => by
    have z := nodup_back hq.nd (by rw [List.length_map]; exact lq) (fun x hx => by
      obtain ⟨q, hq', rfl⟩ := List.mem_map.mp hx
      exact hq.sub q hq') n hn
    obtain ⟨⟨b, m⟩, hq', e⟩ := List.mem_map.mp z
    exact ⟨b, by rw [← show m = n from e]; exact hq'⟩
  have go : ∀ ms : List Str, (∀ n ∈ ms, n ∈ ns) → ∃ ps : List (Bool × Str), ps.map Prod.snd = ms ∧ ∀ p ∈ ps, p ∈ qs := by
    intro ms
    induction ms with
    | nil => intro _; exact ⟨[], rfl, fun _ h => nomatch h⟩
    | cons m ms ih =>
      intro h
      obtain ⟨ps, e, hp⟩ := ih fun n hn => h n (List.mem_cons_of_mem _ hn)
      obtain ⟨b, hb⟩ := back m (h m List.mem_cons_self)
      refine ⟨(b, m) :: ps, by rw [List.map_cons, e], fun p hpm => ?_⟩
      rcases List.mem_cons.mp hpm with rfl | hpm
      · exact hb
      · exact hp p hpm
  obtain ⟨ps, e, hp⟩ := go ns fun _ h => h
  have pn : (ps.map Prod.snd).Nodup := by rw [e]; exact nd
  have sub2 : ∀ q ∈ qs, q ∈ ps := by
    have ndp : ps.Nodup := List.Pairwise.of_map Prod.snd (fun a b h e => h (congrArg _ e)) pn
    have ndq : qs.Nodup := List.Pairwise.of_map Prod.snd (fun a b h e => h (congrArg _ e)) hq.nd
    have lp : ps.length = qs.length := by rw [lq, ← e, List.length_map]
    intro q hq'
    by_cases h : q ∈ ps
    · exact h
    · have z := nodup_le (q :: ps) qs (List.nodup_cons.mpr ⟨h, ndp⟩) fun a ha => (List.mem_cons.mp ha).elim (fun e => e ▸ hq') (hp a)
      rw [List.length_cons] at z
      omega
  have e3 : asc ns (qs.map lit) = asc ns (ps.map lit) := asc_congr fun l => by
    constructor
    · intro h
      obtain ⟨q, hq', rfl⟩ := List.mem_map.mp h
      exact List.mem_map_of_mem (sub2 q hq')
    · intro h
      obtain ⟨q, hq', rfl⟩ := List.mem_map.mp h
      exact List.mem_map_of_mem (hp q hq')
  rw [e3, asc_full ns ps nd good e]
  exact fulls_mem.mpr ⟨ps, e, rfl⟩
/-! ### the allowed settings -/
theorem allow_congr {ns : List Str} {a b : List (List Str)} (h : ∀ r ∈ fulls ns, r ∈ a ↔ r ∈ b) : allow ns a = allow ns b := by
  unfold allow
  exact List.filter_congr fun r hr => decide_eq_decide.mpr (h r hr)
theorem allow_mem {ns r : List Str} {gs : List (List Str)} : r ∈ allow ns gs ↔ r ∈ fulls ns ∧ r ∈ gs := by
  unfold allow
  rw [List.mem_filter]
  exact ⟨fun h => ⟨h.1, of_decide_eq_true h.2⟩, fun h => ⟨h.1, decide_eq_true h.2⟩⟩
theorem allow_sub {ns : List Str} {gs : List (List Str)} (h : gs.Sublist (fulls ns)) : allow ns gs = gs := sub_filter h (fulls_nodup ns)
theorem allow_nodup (ns : List Str) (gs : List (List Str)) : (allow ns gs).Nodup := (fulls_nodup ns).filter _
theorem allow_len {ns : List Str} {gs : List (List Str)} (nd : gs.Nodup) (h : ∀ r ∈ gs, r ∈ fulls ns) : (allow ns gs).length = gs.length :=
  Nat.le_antisymm (nodup_le _ _ (allow_nodup ns gs) fun r hr => (allow_mem.mp hr).2) (nodup_le _ _ nd fun r hr => allow_mem.mpr ⟨h r hr, hr⟩)
structure OkR (sg : List Str) (rs : List (List Str)) : Prop where
  n60 : sg.length ≤ 60
  nd : sg.Nodup
  good : ∀ z ∈ sg, Name1 z
  full : ∀ r ∈ rs, FullOf sg r
  few : rs.length ≤ 1000
theorem Draw2.ok {sg : List Str} {rs : List (List Str)} (D : Draw2 sg rs) : OkR sg rs := ⟨by have := D.n6; omega, D.nd, D.good, D.full, by have := D.few; omega⟩
theorem allow_few {sg : List Str} {gs : List (List Str)} (n6 : sg.length ≤ 6) : (allow sg gs).length ≤ 64 := Nat.le_trans (List.length_filter_le _ _) (fulls_few n6)
theorem allow_ok {sg : List Str} {gs : List (List Str)} (n6 : sg.length ≤ 6) (nd : sg.Nodup) (good : ∀ z ∈ sg, Name1 z) : OkR sg (allow sg gs) :=
  ⟨by omega, nd, good, fun r hr => full_of nd (allow_mem.mp hr).1, by have := allow_few (gs := gs) n6; omega⟩
theorem eqR_names {sg sg' : List Str} {rs rs' : List (List Str)} (h : sameMem sg sg' = false) : eqR sg rs sg' rs' = false := by
  unfold eqR leR
  rw [h]
  rfl
theorem eqR_rows {sg sg' : List Str} {rs rs' : List (List Str)} (h : rs.length ≠ rs'.length) : eqR sg rs sg' rs' = false := by
  unfold eqR
  rw [decide_eq_false h, Bool.and_false]
theorem make_rule {K : PySem.W.Frag} {C : Addr} {H : Hp} {S0 T0 x dx : Addr} {b1 b2 : Bool} {sg : List Str} {xs : List V} {qss : List (List (Bool × Str))} {W : VK} (hx : H x = none) (hdx : H dx = none) (hS : Sq K b1 H S0 (sg.map V.str)) (hT : Sq K b2 H T0 xs) (n6 : sg.length ≤ 6) (nd : sg.Nodup) (good : ∀ z ∈ sg, Name1 z)
    (giv : Paired (Handed K H sg) xs qss) (lens : ∀ qs ∈ qss, qs.length = sg.length) (few : qss.length ≤ 1000) (k : ∀ r H', Same H H' → RuleR K C H' x sg (allow sg (rowsOf sg qss)) r → H r = none → W .non H') :
    spInit K C [.ref x, .ref S0, .ref T0] (upd (upd H dx (.own x)) x (.ins C dx [])) W E0 := by
  have sm0 : Same H (upd (upd H dx (.own x)) x (.ins C dx [])) := fun c o e => (upd_ne (ne_of_none e hx)).trans ((upd_ne (ne_of_none e hdx)).trans e)
  have g : ∀ H', Grow x (upd (upd H dx (.own x)) x (.ins C dx [])) H' → Same H H' := fun H' gg c o e => gg c o (ne_of_none e hx) (sm0 c o e)
  refine ⟨x, dx, S0, T0, b1, b2, sg, xs, qss, rfl, upd_same, fun H' gg => Sq.same hS (g H' gg), fun H' gg => Sq.same hT (g H' gg), n6, nd, good, Paired.mapP giv (fun v qs h => Handed.given h g), lens, few, fun H' r gg c fresh => k r H' (g H' gg) c ?_⟩
  cases e : H r with
  | none => rfl
  | some o =>
    rw [sm0 r o e] at fresh
    cases fresh
/-- rows as they stand, handed over -/
theorem handed_full {K : PySem.W.Frag} {H : Hp} {sg : List Str} : ∀ {ts : List Addr} {rs : List (List Str)}, RowsAt H ts rs → (∀ r ∈ rs, FullOf sg r) →
    ∃ qss, Paired (Handed K H sg) (ts.map V.ref) qss ∧ rs = qss.map (fun qs => qs.map lit) ∧ ∀ qs ∈ qss, qs.length = sg.length
  | [], [], _, _ => ⟨[], .nil, rfl, fun _ h => nomatch h⟩
  | t :: ts, r :: rs, .cons h tl, full => by
    obtain ⟨qs, hq, lq, rfl⟩ := full r List.mem_cons_self
    obtain ⟨qss, h1, h2, h3⟩ := handed_full tl fun x hx => full x (List.mem_cons_of_mem _ hx)
    refine ⟨qs :: qss, .cons ⟨hq, false, t, rfl, Sq.tup h⟩ h1, by rw [List.map_cons, h2], fun x hx => ?_⟩
    rcases List.mem_cons.mp hx with rfl | hx
    · exact lq
    · exact h3 x hx
theorem rowsOf_fulls {sg : List Str} {rs : List (List Str)} {qss : List (List (Bool × Str))} (nd : sg.Nodup) (good : ∀ z ∈ sg, Name1 z) (e : rs = qss.map (fun qs => qs.map lit)) (h : ∀ r ∈ rs, r ∈ fulls sg) : allow sg (rowsOf sg qss) = allow sg rs := by
  refine allow_congr fun r hr => ?_
  rw [rowsOf_iff]
  constructor
  · rintro ⟨qs, hqs, rfl⟩
    have m : qs.map lit ∈ rs := by rw [e]; exact List.mem_map_of_mem hqs
    rw [asc_fulls nd good (h _ m)]
    exact m
  · intro m
    have m2 := m
    rw [e] at m2
    obtain ⟨qs, hqs, rfl⟩ := List.mem_map.mp m2
    exact ⟨qs, hqs, (asc_fulls nd good (h _ m)).symm⟩
/-- things unlike a rule -/
inductive Oth (K : PySem.W.Frag) (C : Addr) (sg : List Str) (rs : List (List Str)) (r : Addr) (H : Hp) : V → Prop
  | rule {y r' : Addr} {sg' : List Str} {rs' : List (List Str)} (c : RuleR K C H y sg' rs' r') (ne : r ≠ r') (ok : OkR sg' rs') (e1 : eqR sg rs sg' rs' = false) (e2 : eqR sg' rs' sg rs = false) : Oth K C sg rs r H (.ref y)
  | odd {v : V} (o : OddL K H v) : Oth K C sg rs r H v
theorem Oth.same {K : PySem.W.Frag} {C : Addr} {H H' : Hp} {sg : List Str} {rs : List (List Str)} {r : Addr} {v : V} (o : Oth K C sg rs r H v) (sm : Same H H') : Oth K C sg rs r H' v := by
  cases o with
  | rule c ne ok e1 e2 => exact .rule (c.same sm) ne ok e1 e2
  | odd o => exact .odd (OddL.same o sm)
end K6
namespace K6
open PySem PySem.Spec PyProof.Rows L2 LamX NdefX EV
section
variable {K : PySem.W.Frag} {C : Addr} {H H' : Hp} {sg : List Str} {rs : List (List Str)} {ts : List Addr} {r x F ps pr p2 S L : Addr} {v : V} {vs : List V}
end
theorem asc_drop {n : Str} {ns : List Str} {b : Bool} {qs : List (Bool × Str)} (nd : (n :: ns).Nodup) (good : ∀ z ∈ n :: ns, Name1 z) (e : qs.map Prod.snd = ns) : asc ns (((b, n) :: qs).map lit) = qs.map lit := by
  obtain ⟨h1, h2⟩ := List.nodup_cons.mp nd
  have goodr : ∀ z ∈ ns, Name1 z := fun z hz => good z (List.mem_cons_of_mem _ hz)
  have ln : (n :: neg n :: lits ns).Nodup := lits_nodup (n :: ns) nd good
  obtain ⟨l1, l2⟩ := List.nodup_cons.mp ln
  obtain ⟨l3, l4⟩ := List.nodup_cons.mp l2
  have out : lit (b, n) ∉ lits ns := fun q => by
    cases b
    · exact l1 (List.mem_cons_of_mem _ q)
    · exact l3 q
  have z : asc ns (((b, n) :: qs).map lit) = asc ns (qs.map lit) := by
    unfold asc
    refine List.filter_congr fun l hl => decide_eq_decide.mpr ⟨fun q => ?_, fun q => List.mem_cons_of_mem _ q⟩
    rw [List.map_cons] at q
    exact (List.mem_cons.mp q).resolve_left fun e => out (e ▸ hl)
  rw [z]
  exact asc_full ns qs h2 goodr e
theorem full_snoc {ns : List Str} {qs : List (Bool × Str)} {z : Str} {ms : List Str} (nd : (z :: ns).Nodup) (e : qs.map Prod.snd = ns) (sub : ∀ n ∈ z :: ns, n ∈ ms) (len : ms.length = ns.length + 1) : FullOf ms (qs.map lit ++ [z]) := by
  obtain ⟨h1, h2⟩ := List.nodup_cons.mp nd
  refine ⟨qs ++ [(false, z)], ⟨?_, fun q hq => ?_⟩, ?_, by rw [List.map_append]; rfl⟩
  · rw [List.map_append, e]
    exact List.nodup_append.mpr ⟨h2, List.nodup_cons.mpr ⟨fun h => (nomatch h), List.nodup_nil⟩, fun a ha b hb e => h1 (by have hb' : b = z := List.mem_singleton.mp hb; rw [← hb', ← e]; exact ha)⟩
  · rcases List.mem_append.mp hq with q1 | q1
    · exact sub _ (List.mem_cons_of_mem _ (by rw [← e]; exact List.mem_map_of_mem q1))
    · rw [List.mem_singleton.mp q1]
      exact sub _ List.mem_cons_self
  · rw [List.length_append, len, ← e, List.length_map]
    rfl
section
variable {P : Program} {w : World} {K : PySem.W.Frag} {mg : Str → Option Value} {base : Heap} {C : Addr}
variable {f : Addr} {cdv : Value} {A : Around} {outer : List Env} {s0 : Shared} {HH : Hp} {E : XK}
end
end K6
namespace K6
open PySem PySem.Spec PyProof.Rows L2 LamX NdefX EV
section
variable {K : PySem.W.Frag} {C : Addr} {H H' : Hp} {sg : List Str} {rs : List (List Str)} {ts : List Addr} {r x F ps pr p2 S L : Addr} {v : V} {vs : List V}
theorem lst_kept {a : Addr} {xs : List V} (h : H a = some (.lst xs)) (k : Kept S L H H') (n : a ≠ S ∧ a ≠ L) : H' a = some (.lst xs) := k _ _ h n.1 n.2
end
section
variable {P : Program} {w : World} {K : PySem.W.Frag} {mg : Str → Option Value} {base : Heap} {C : Addr}
section
variable {f : Addr} {cdv : Value} {A : Around} {outer : List Env} {s0 : Shared} {HH : Hp} {E : XK}
end
end
end K6
namespace K6
open PySem PySem.Spec PyProof.Rows L2 LamX NdefX EV
section
variable {K : PySem.W.Frag} {C : Addr} {H H' : Hp} {S L ps pr x r : Addr} {sg : List Str} {ts : List Addr} {rs : List (List Str)} {c : Nat}
end
/-- the twin: names and settings the other way round -/
theorem rev_full {sg r : List Str} (h : r ∈ fulls sg) : r.reverse ∈ fulls sg.reverse := by
  obtain ⟨qs, e, rfl⟩ := fulls_mem.mp h
  exact fulls_mem.mpr ⟨qs.reverse, by rw [List.map_reverse, e], by rw [List.map_reverse]⟩
theorem asc_rev {sg r : List Str} (nd : sg.Nodup) (good : ∀ z ∈ sg, Name1 z) (h : r ∈ fulls sg) : asc sg r.reverse = r :=
  (asc_congr fun _ => List.mem_reverse).trans (asc_fulls nd good h)
section
variable {P : Program} {w : World} {K : PySem.W.Frag} {mg : Str → Option Value} {base : Heap} {C : Addr}
variable {f : Addr} {cdv : Value} {A : Around} {outer : List Env} {s0 : Shared} {HH : Hp} {E : XK}
end
end K6
namespace K6
open PySem PySem.Spec PyProof.Rows L2 LamX NdefX EV
/-! ### things that are no full settings -/
theorem lit_first {ns : List Str} (good : ∀ z ∈ ns, Name1 z) {z : Str} (h45 : z.cps.toList.head? ≠ some 45) (hz : z ∉ ns) : z ∉ lits ns := fun h => by
  obtain ⟨n, hn, e⟩ := lits_mem.mp h
  rcases e with e | e
  · exact hz (e ▸ hn)
  · rw [e, neg_list] at h45
    exact h45 rfl
section
variable {K : PySem.W.Frag} {H : Hp} {ns : List Str}
end
section
variable {P : Program} {w : World} {K : PySem.W.Frag} {mg : Str → Option Value} {base : Heap} {C : Addr}
variable {f : Addr} {cdv : Value} {A : Around} {outer : List Env} {s0 : Shared} {HH : Hp} {E : XK}
end
end K6
/-! &, |, -, ~, < of instances with methods of their own for them: the answer is an object. -/
namespace EV
open PySem PySem.Spec PyProof.Rows L2
section
variable {X : Cx} {CX : CXT} {n : Nat} {C f : Addr} {fd : FuncData} {ps : List Str} {sp : Sp} {E : XK}
/-- what an own operator asks: it answers with an object -/
def rBin (C : Addr) (sp : Sp) (E : XK) (x y : V) (H : Hp) (Q : VK) : Prop := ∃ a dx fs, x = .ref a ∧ H a = some (.ins C dx fs) ∧ sp [.ref a, y] H (fun v H' => ∃ p, v = .ref p ∧ Q (.ref p) H') E
/-- x op y, both of this class -/
theorem op_binOwn {op : Operator} (F : FnOk X.prog X.w X.K X.mg X.base CX n f fd ps sp) (hc : PySem.W.selfFirst X.K C = true) (hs : PySem.W.findIn X.K (.ref C) (PySem.dunder op.info.2) = some (some (.ref f))) (hf : PySem.W.isFn X.K (.ref f) = true) (hb : L2.Binds X.K fd ps []) (hx : Passes CX X E) (hr : Room n X.A) :
    OpR X (binaryOp op) fun x y H Q => TyX X.K H y (.ref C) ∧ rBin C sp E x y H Q := by
  intro pins s σ H x y v u Q I rx ry h
  obtain ⟨ty, a, dx, fs, rfl, ha, hsp⟩ := h
  obtain rfl : v = Value.ref a := rx
  obtain ⟨mA, J, _⟩ := ins_get I.hok ha
  obtain ⟨od, J, _⟩ := J.look
  obtain ⟨m, hF⟩ := I.fr
  obtain ⟨P, Z, hP, _⟩ := kit_of I ry ty
  refine PySem.W.binop_K hF I.ok.mod.kin J (Z.ty _ _ I.kIn hP) hc hs hf (wpAny_mono (own_call (Q := fun v H' => ∃ p, v = .ref p ∧ Q (.ref p) H') ⟨hr, rfl⟩ I F hb hx (.cons (show RelV (.ref a) (.ref a) from rfl) (.cons ry .nil)) hsp) (fun w s' z => ?_) fun _ _ e => e)
  obtain ⟨z, H', I', rz, p, rfl, q⟩ := z
  obtain rfl : w = Value.ref p := rz
  exact ⟨.ref p, H', I', rfl, q⟩
/-- x op y, y a text -/
theorem op_binStr {op : Operator} (F : FnOk X.prog X.w X.K X.mg X.base CX n f fd ps sp) (hc : PySem.W.selfFirst X.K C = true) (hs : PySem.W.findIn X.K (.ref C) (PySem.dunder op.info.2) = some (some (.ref f))) (hf : PySem.W.isFn X.K (.ref f) = true)
    (hro : PySem.W.findIn X.K (.ref C) (dunderR op.info.2) = some none) (h1 : PySem.W.findIn X.K (.type "str") (PySem.dunder op.info.2) = some none) (h2 : PySem.W.findIn X.K (.type "str") (dunderR op.info.2) = some none) (hsub : PySem.W.subIn X.K (.type "str") (.ref C) = some false)
    (hb : L2.Binds X.K fd ps []) (hx : Passes CX X E) (hr : Room n X.A) :
    OpR X (binaryOp op) fun x y H Q => (∃ z, y = .str z) ∧ rBin C sp E x y H Q := by
  intro pins s σ H x y v u Q I rx ry h
  obtain ⟨⟨z, rfl⟩, a, dx, fs, rfl, ha, hsp⟩ := h
  obtain rfl : v = Value.ref a := rx
  obtain ⟨t, rfl⟩ := id ry
  obtain ⟨mA, J, _⟩ := ins_get I.hok ha
  obtain ⟨od, J, _⟩ := J.look
  obtain ⟨m, hF⟩ := I.fr
  refine PySem.W.ksp_binT (T := "str") hF I.ok.mod.kin J rfl hc hs hf hro (.inl rfl) h1 h2 hsub (wpAny_mono (own_call (Q := fun v H' => ∃ p, v = .ref p ∧ Q (.ref p) H') ⟨hr, rfl⟩ I F hb hx (.cons (show RelV (.ref a) (.ref a) from rfl) (.cons ry .nil)) hsp) (fun w s' z => ?_) fun _ _ e => e)
  obtain ⟨z, H', I', rz, p, rfl, q⟩ := z
  obtain rfl : w = Value.ref p := rz
  exact ⟨.ref p, H', I', rfl, q⟩
/-- ~x -/
theorem un_invOwn (F : FnOk X.prog X.w X.K X.mg X.base CX n f fd ps sp) (hs : PySem.W.findIn X.K (.ref C) "__invert__" = some (some (.ref f))) (hf : PySem.W.isFn X.K (.ref f) = true) (hb : L2.Binds X.K fd ps []) (hx : Passes CX X E) (hr : Room n X.A) :
    UnR X (unaryOp .Invert) fun x H Q => ∃ a dx fs, x = .ref a ∧ H a = some (.ins C dx fs) ∧ sp [.ref a] H Q E := by
  intro pins s σ H x v Q I rx h
  obtain ⟨a, dx, fs, rfl, ha, hsp⟩ := h
  obtain rfl : v = Value.ref a := rx
  obtain ⟨mA, J, _⟩ := ins_get I.hok ha
  obtain ⟨od, J, _⟩ := J.look
  obtain ⟨m, hF⟩ := I.fr
  exact PySem.W.ksp_inv hF I.ok.mod.kin J hs hf (own_call (Q := Q) ⟨hr, rfl⟩ I F hb hx (.cons (show RelV (.ref a) (.ref a) from rfl) .nil) hsp)
/-- < -/
theorem op_ltOwn (F : FnOk X.prog X.w X.K X.mg X.base CX n f fd ps sp) (hs : PySem.W.findIn X.K (.ref C) "__lt__" = some (some (.ref f))) (hf : PySem.W.isFn X.K (.ref f) = true) (hb : L2.Binds X.K fd ps []) (hx : Passes CX X E) (hr : Room n X.A) :
    OpR X (compareOp .Lt) fun x y H Q => ∃ t, TyX X.K H y t ∧ PySem.W.notFirst X.K C t = true ∧ rOwn C sp E x y H fun b H' => Q (.bl b) H' := by
  intro pins s σ H x y v u Q I rx ry h
  obtain ⟨t, ty, nf, a, dx, fs, rfl, ha, hsp⟩ := h
  obtain rfl : v = Value.ref a := rx
  obtain ⟨mA, J, _⟩ := ins_get I.hok ha
  obtain ⟨od, J, _⟩ := J.look
  obtain ⟨m, hF⟩ := I.fr
  obtain ⟨P, Z, hP, _⟩ := kit_of I ry ty
  show wpAny (model X.prog X.w) X.A (richCompare .Lt (.ref a) u) (EP X pins σ Q) X.xe s
  refine PySem.W.cmp_K (op := .Lt) (tb := t) hr.units0 hF I.ok.mod.kin J (Z.ty _ _ I.kIn hP) nf hs hf (wpAny_mono (own_call (Q := fun v H' => ∃ b, v = .bl b ∧ Q (.bl b) H') ⟨hr, rfl⟩ I F hb hx (.cons (show RelV (.ref a) (.ref a) from rfl) (.cons ry .nil)) hsp) (fun w s' z => ?_) fun _ _ e => e)
  obtain ⟨z, H', I', rz, b, rfl, q⟩ := z
  obtain rfl : w = Value.bool b := rz
  exact ⟨.bl b, H', I', rfl, q⟩
end
/-! ### xs[::k], k a small number -/
section
variable {X : Cx}
/-- each k-th one -/
def pickK {α : Type} (k : Nat) (xs : List α) : List α := (sliceRange 0 (xs.length : Int) (k : Int)).filterMap fun i => xs[i]?
def tStepL (K : PySem.W.Frag) (k : Nat) (te : TE) : TE := fun σ H Q => te σ H fun x H1 => ∃ a xs, x = .ref a ∧ SqL K H1 a xs ∧ ∀ p, H1 p = none → Q (.ref p) (upd H1 p (.lst (pickK k xs)))
end
end EV
namespace K6
open PySem PySem.Spec PyProof.Rows L2 LamX NdefX EV
/-! ### the other side; names together -/
def opp (q : Bool × Str) : Bool × Str := (!q.1, q.2)
def spOpp : Sp := fun vs H Q _ => ∃ q : Bool × Str, vs = [.str (lit q)] ∧ Name1 q.2 ∧ Q (.str (lit (opp q))) H
def join (xs ys : List Str) : List Str := xs ++ ys.filter fun y => decide (y ∉ xs)
def spJoin (K : PySem.W.Frag) : Sp := fun vs H Q _ => ∃ (T U : Addr) (b c : Bool) (xs ys : List Str), vs = [.ref T, .ref U] ∧ (∀ H', Same H H' → Sq K b H' T (xs.map V.str)) ∧ (∀ H', Same H H' → Sq K c H' U (ys.map V.str)) ∧ xs.length ≤ 60 ∧ ys.length ≤ 60 ∧ xs.Nodup ∧
  ∀ (p : Addr) (H' : Hp), H p = none → H' p = some (.lst ((join xs ys).map V.str)) → Same H H' → Q (.ref p) H'
theorem lit_iff {ns : List Str} {q : Bool × Str} (good : ∀ z ∈ ns, Name1 z) (g : Name1 q.2) : lit q ∈ lits ns ↔ q.2 ∈ ns := by
  refine ⟨fun h => ?_, lit_mem⟩
  obtain ⟨n, hn, e⟩ := lits_mem.mp h
  rcases e with e | e
  · have z := lit_inj (p := q) (q := (false, n)) g (good n hn) e
    rw [z]
    exact hn
  · have z := lit_inj (p := q) (q := (true, n)) g (good n hn) e
    rw [z]
    exact hn
/-- those of the names sg -/
def pickN (sg : List Str) (qs : List (Bool × Str)) : List (Bool × Str) := qs.filter fun q => decide (q.2 ∈ sg)
theorem pickN_lits {ns sg : List Str} {qs : List (Bool × Str)} (hq : Lits ns qs) : Lits sg (pickN sg qs) :=
  ⟨hq.nd.sublist ((List.filter_sublist).map Prod.snd), fun q h => of_decide_eq_true (List.mem_filter.mp h).2⟩
theorem pickN_len {ns sg : List Str} {qs : List (Bool × Str)} (nd : sg.Nodup) (hq : Lits ns qs) (e : qs.map Prod.snd = ns) (sub : ∀ n ∈ sg, n ∈ ns) : (pickN sg qs).length = sg.length := by
  have L := pickN_lits (sg := sg) hq
  refine Nat.le_antisymm ?_ ?_
  · have z := nodup_le ((pickN sg qs).map Prod.snd) sg L.nd fun n hn => by
      obtain ⟨q, hq', rfl⟩ := List.mem_map.mp hn
      exact L.sub q hq'
    rwa [List.length_map] at z
  · have z := nodup_le sg ((pickN sg qs).map Prod.snd) nd fun n hn => by
      have m := sub n hn
      rw [← e] at m
      obtain ⟨q, hq', rfl⟩ := List.mem_map.mp m
      exact List.mem_map_of_mem (List.mem_filter.mpr ⟨hq', decide_eq_true hn⟩)
    rwa [List.length_map] at z
theorem pickN_asc {ns sg : List Str} {qs : List (Bool × Str)} (good : ∀ z ∈ sg, Name1 z) (goodn : ∀ z ∈ ns, Name1 z) (hq : Lits ns qs) : asc sg ((pickN sg qs).map lit) = asc sg (qs.map lit) := by
  unfold asc
  refine List.filter_congr fun l hl => decide_eq_decide.mpr ⟨fun h => ?_, fun h => ?_⟩
  · obtain ⟨q, hq', rfl⟩ := List.mem_map.mp h
    exact List.mem_map_of_mem (List.mem_filter.mp hq').1
  · obtain ⟨q, hq', rfl⟩ := List.mem_map.mp h
    exact List.mem_map_of_mem (List.mem_filter.mpr ⟨hq', decide_eq_true ((lit_iff good (goodn _ (hq.sub q hq'))).mp hl)⟩)
def spAllows (K : PySem.W.Frag) (C : Addr) : Sp := fun vs H Q _ => ∃ (x t r : Addr) (sg ns : List Str) (rs : List (List Str)) (qs : List (Bool × Str)), vs = [.ref x, .ref t] ∧ RuleR K C H x sg rs r ∧ sg.length ≤ 60 ∧ sg.Nodup ∧ (∀ z ∈ sg, Name1 z) ∧ H t = some (.tup ((qs.map lit).map V.str)) ∧ Lits ns qs ∧ qs.map Prod.snd = ns ∧ (∀ z ∈ ns, Name1 z) ∧ (∀ n ∈ sg, n ∈ ns) ∧ ns.length ≤ 60 ∧
  ∀ H', Same H H' → Q (.bl (decide (asc sg (qs.map lit) ∈ rs))) H'
def turnQ (n : Str) (q : Bool × Str) : Bool × Str := if q.2 = n then opp q else q
def spTurnRow (K : PySem.W.Frag) : Sp := fun vs H Q _ => ∃ (t : Addr) (n : Str) (qs : List (Bool × Str)), vs = [.ref t, .str n] ∧ (∀ H', Same H H' → SqT K H' t ((qs.map lit).map V.str)) ∧ (∀ q ∈ qs, Name1 q.2) ∧ qs.length ≤ 60 ∧
  ∀ (p : Addr) (H' : Hp), H p = none → H' p = some (.lst (((qs.map (turnQ n)).map lit).map V.str)) → Same H H' → Q (.ref p) H'
def spRowWithout (K : PySem.W.Frag) : Sp := fun vs H Q _ => ∃ (t : Addr) (n : Str) (qs : List (Bool × Str)), vs = [.ref t, .str n] ∧ (∀ H', Same H H' → SqT K H' t ((qs.map lit).map V.str)) ∧ (∀ q ∈ qs, Name1 q.2) ∧ qs.length ≤ 60 ∧
  ∀ (p : Addr) (H' : Hp), H p = none → H' p = some (.lst (((qs.filter fun q => decide (q.2 ≠ n)).map lit).map V.str)) → Same H H' → Q (.ref p) H'
def spChkSign (K : PySem.W.Frag) (C : Addr) : Sp := fun vs H Q _ => ∃ (x r : Addr) (n : Str) (sg : List Str) (rs : List (List Str)), vs = [.ref x, .str n] ∧ RuleR K C H x sg rs r ∧ n ∈ sg ∧ Q .non H
section
variable {P : Program} {w : World} {K : PySem.W.Frag} {mg : Str → Option Value} {base : Heap} {f fI fN fO C : Addr} {fd fdI fdN fdO : FuncData}
theorem scOpp : FnScope ["literal"] ["literal"] (defScope sOpp) := ⟨rfl, rfl, rfl, by decide +kernel, rfl, by decide +kernel, by decide +kernel⟩
theorem ok_opp (F : Fun K "opposite" "opposite" sOpp f fd) : FnOk P w K mg base CX0 1 f fd ["literal"] spOpp := by
  refine F.ok scOpp (fun vs H Q E h => ?_) (fun cdv A outer s H vs Q E hr h => ?_)
  · obtain ⟨q, rfl, _⟩ := h
    rfl
  · obtain ⟨⟨b, n⟩, rfl, good, k⟩ := h
    have n8 := good.2.1
    replace n8 : n.length ≤ 8 := n8
    refine ⟨_, pss_cons (ps_if (pt_val (pe_m1 PySem.F.slot_str_startswith PySem.F.type_str_startswith mt_startswith (pv 0) pe_str)) (pss_one (ps_ret (pe_slice sl_str (pv 0) (po_some pe_int) po_none))) pss_nil) (pss_one (ps_ret (pe_op op_add_str pe_str (pv 0)))), ?_⟩
    refine ⟨_, rfl, ⟨_, rfl⟩, _, _, rfl, rfl, _, rfl, ?_⟩
    cases b
    · rw [show Txt.startswith (lit (false, n)) (Str.ofString "-") = false from starts_name good]
      refine iteF ⟨_, rfl, _, _, rfl, rfl, ?_, k⟩
      show 1 + n.length ≤ sizeLine
      rw [sizeLine_eq]; omega
    · rw [show Txt.startswith (lit (true, n)) (Str.ofString "-") = true from starts_neg n]
      refine iteT ⟨_, rfl, _, rfl, lit (true, n), rfl, ?_, ?_⟩
      · show (neg n).length ≤ sizeLine
        rw [neg_len, sizeLine_eq]
        omega
      · rw [show cutS (lit (true, n)) (some 1) none = n from cut_neg n]
        exact k
abbrev nJoin : List Str := ["ones", "others", "known", "name"]
theorem scJoin : FnScope nJoin ["ones", "others"] (defScope sJoin) := ⟨rfl, rfl, rfl, by decide +kernel, rfl, by decide +kernel, by decide +kernel⟩
theorem ok_join (F : Fun K "joined_names" "joined_names" sJoin f fd) : FnOk P w K mg base CX0 1 f fd ["ones", "others"] (spJoin K) := by
  refine F.ok scJoin (fun vs H Q E h => ?_) (fun cdv A outer s H vs Q E hr h => ?_)
  · obtain ⟨T, U, b, c, xs, ys, rfl, _⟩ := h
    rfl
  · obtain ⟨T, U, b, c, xs, ys, rfl, hT, hU, lx, ly, nd, k⟩ := h
    have hu := hu_of hr
    refine ⟨_, pss_cons (ps_set (i := 2) scJoin.nd rfl (.inr rfl) (pe_dcP (own := [("name", 3)]) .k rfl hu scJoin.nd (pi_seq (pv 0)) (blkOk_by (N := nJoin) (sc := defScope sJoin) (by decide +kernel))
          (fun _ _ _ _ _ => pg_name (i := 3) scJoin.nd rfl (.inl rfl)) (fun _ _ _ _ _ => pts_nil) (fun _ _ _ _ _ => pv 3) (fun _ _ _ _ _ => pe_bl)))
      (pss_one (ps_ret (pe_lst (StX.pa_star (pv 0) (StX.pa_star (pe_lc (own := [("name", 3)]) (g := gName 3) rfl scJoin.nd (pi_seq (pv 1)) (blkOk_by (N := nJoin) (sc := defScope sJoin) (by decide +kernel))
          (fun _ _ _ _ _ => pg_name (i := 3) scJoin.nd rfl (.inl rfl)) (fun _ _ _ _ _ => pts_one (pt_cmp (pc_dnotin hu (pv 3) (pv 2)))) (fun _ _ _ _ _ => pv 3)) pa_nil))))), ?_⟩
    refine ⟨_, rfl, b, T, _, rfl, hT H (Same.refl H), fun D hD => dc_it walk_sq (fun i H2 => Same H H2 ∧ H2 D = some (.dK ((xs.take i).map seenKv))) ⟨same_new hD, upd_same⟩ (fun i H2 _ hh => hT _ hh.1) ?_ ?_⟩
    · rintro i x H2 H3 hi ⟨sm, hD2⟩ ⟨rfl, hx⟩
      obtain ⟨n, hn, rfl⟩ := get_map hx
      have fresh := not_before nd hn
      refine ⟨rfl, _, rfl, _, DPut.k (k := Sum.inr n) hD2 (by rw [List.length_map, List.length_take, sizeLine_eq]; omega), fun c o h => (upd_ne (ne_of_none h hD)).trans (sm c o h), ?_⟩
      rw [upd_same, putK_new (seen_none _ fresh), List.take_succ, hn, List.map_append]
      rfl
    · rintro H2 ⟨sm, hD2⟩
      rw [List.length_map, List.take_length] at hD2
      refine ⟨_, rfl, T, _, rfl, (hT _ sm).any.symm, _, rfl, c, U, _, rfl, hU _ sm, fun L hL => lc_it walk_sq (fun i H3 => Same H2 H3 ∧ H3 L = some (.lst (((ys.take i).filter fun y => decide (y ∉ xs)).map V.str))) ⟨same_new hL, upd_same⟩ (fun i H3 _ hh => hU _ (sm.trans hh.1)) ?_ ?_⟩
      · rintro i x H3 H4 hi ⟨sm3, hL3⟩ ⟨rfl, hx⟩
        obtain ⟨n, hn, rfl⟩ := get_map hx
        have er : ys.take (i + 1) = ys.take i ++ [n] := by rw [List.take_succ, hn]; rfl
        have lf := List.length_filter_le (fun y => decide (y ∉ xs)) (ys.take i)
        have lt := List.length_take_le' i ys
        have g : DGet H4 D (.str n) (valV (xs.map seenKv) (Sum.inr n)) := DGet.k (k := Sum.inr n) (sm3 _ _ hD2)
        refine ⟨rfl, _, rfl, _, rfl, D, _, rfl, g, _, rfl, ?_⟩
        by_cases m : n ∈ xs
        · rw [seen_some xs m]
          refine iteF ⟨sm3, ?_⟩
          rw [hL3, er, List.filter_append, List.filter_cons, if_neg (by rw [decide_eq_false (fun h => h m)]; decide), List.filter_nil, List.append_nil]
        · rw [seen_none xs m]
          refine iteT ⟨_, rfl, _, hL3, by rw [List.length_map, sizeLine_eq]; omega, fun c o h => (upd_ne (ne_of_none h hL)).trans (sm3 c o h), ?_⟩
          rw [upd_same, er, List.filter_append, List.filter_cons, if_pos (decide_eq_true m), List.map_append]
          rfl
      · rintro H3 ⟨sm3, hL3⟩
        rw [List.length_map, List.take_length] at hL3
        have lf := List.length_filter_le (fun y => decide (y ∉ xs)) ys
        refine ⟨L, _, rfl, .inr (SqL.of hL3), ?_, fun p hp => ?_⟩
        · rw [List.append_nil, List.length_append, List.length_map, List.length_map, sizeLine_eq]; omega
        have smT := sm.trans (sm3.trans (same_new (o := .lst (xs.map V.str ++ ((ys.filter fun y => decide (y ∉ xs)).map V.str ++ []))) hp))
        refine k p _ ((sm.trans sm3).free hp) ?_ smT
        rw [upd_same, List.append_nil, ← List.map_append]
        rfl
abbrev nAllows : List Str := ["rule", "row", "literal"]
theorem scAllows : FnScope nAllows ["rule", "row"] (defScope sAllows) := ⟨rfl, rfl, rfl, by decide +kernel, rfl, by decide +kernel, by decide +kernel⟩
theorem ok_allows (F : Fun K "allows" "allows" sAllows f fd) (T : RTxt K mg C) (GI : FnOk P w K mg base CX0 5 fI fdI ["self", "thing"] (spContains K C)) (hs : PySem.W.findIn K (.ref C) "__contains__" = some (some (.ref fI))) (hf : PySem.W.isFn K (.ref fI) = true) (bI : L2.Binds K fdI ["self", "thing"] []) :
    FnOk P w K mg base CX0 6 f fd ["rule", "row"] (spAllows K C) := by
  refine F.ok scAllows (fun vs H Q E h => ?_) (fun cdv A outer s H vs Q E hr h => ?_)
  · obtain ⟨x, t, r, sg, ns, rs, qs, rfl, _⟩ := h
    rfl
  · obtain ⟨x, t, r, sg, ns, rs, qs, rfl, cx, n60, nd, good, ht, hq, eq, goodn, sub, n60n, k⟩ := h
    have hu := hu_of hr
    have hr5 : Room 5 _ := hr.mono (by decide)
    refine ⟨_, pss_one (ps_ret (pe_cmpR (op_inOwn GI hs hf bI pass0 hr5) (pe_lc (own := [("literal", 2)]) (g := gName 2) rfl scAllows.nd (pi_seq (pv 1)) (blkOk_by (N := nAllows) (sc := defScope sAllows) (by decide +kernel))
          (fun _ _ _ _ _ => pg_name (i := 2) scAllows.nd rfl (.inl rfl)) (fun _ _ _ _ _ => pts_one (pt_cmp (pc_din hu (pv 2) (show PE _ _ (tFld K _ _) from pe_fld (pv 0) rfl)))) (fun _ _ _ _ _ => pv 2)) (pv 0) rfl)), ?_⟩
    obtain ⟨dx, a, pl, hx, _, hpl, _⟩ := cx.at_
    have lq : qs.length ≤ 60 := by rw [← eq, List.length_map] at n60n; exact n60n
    refine ⟨_, rfl, false, t, _, rfl, Sq.tup ht, fun L hL => lc_it walk_sq (fun i H2 => Same H H2 ∧ H2 L = some (.lst (((pickN sg (qs.take i)).map lit).map V.str))) ⟨same_new hL, upd_same⟩ (fun i H2 _ hh => Sq.tup (hh.1 _ _ ht)) ?_ ?_⟩
    · rintro i v H2 H3 hi ⟨sm, hL2⟩ ⟨rfl, hv⟩
      obtain ⟨l, hl, rfl⟩ := get_map hv
      obtain ⟨q, hq', rfl⟩ := get_map hl
      have qm := List.mem_of_getElem? hq'
      have gq := goodn _ (hq.sub q qm)
      have er : qs.take (i + 1) = qs.take i ++ [q] := by rw [List.take_succ, hq']; rfl
      have lf : (pickN sg (qs.take i)).length ≤ 60 := by
        have z1 := List.length_filter_le (fun q => decide (q.2 ∈ sg)) (qs.take i)
        have z2 := List.length_take_le' i qs
        unfold pickN
        omega
      have g : DGet H3 pl (.str (lit q)) (valV (plc sg) (Sum.inr (lit q))) := DGet.k (k := Sum.inr (lit q)) (sm _ _ hpl)
      refine ⟨rfl, _, rfl, _, rfl, x, C, dx, _, _, rfl, sm _ _ hx, T.cl, T.n2, fl2 .., pl, _, rfl, g, _, rfl, ?_⟩
      by_cases m : q.2 ∈ sg
      · obtain ⟨v, hv⟩ := plc_some nd good (lit_mem m)
        rw [hv]
        refine iteT ⟨_, rfl, _, hL2, by rw [List.length_map, List.length_map, sizeLine_eq]; omega, fun c o h => (upd_ne (ne_of_none h hL)).trans (sm c o h), ?_⟩
        rw [upd_same, er]
        unfold pickN
        rw [List.filter_append, List.filter_cons, if_pos (decide_eq_true m), List.map_append, List.map_append]
        rfl
      · rw [plcF_none _ 0 (fun h => m ((lit_iff good gq).mp h))]
        refine iteF ⟨sm, ?_⟩
        rw [hL2, er]
        unfold pickN
        rw [List.filter_append, List.filter_cons, if_neg (by rw [decide_eq_false m]; decide), List.filter_nil, List.append_nil]
    · rintro H2 ⟨sm, hL2⟩
      rw [List.length_map, List.length_map, List.take_length] at hL2
      have hx2 := sm _ _ hx
      refine ⟨_, rfl, x, dx, _, rfl, hx2, x, r, .ref L, sg, rs, rfl, cx.same sm, n60, nd, good, .inl ⟨pickN sg qs, given_list (pickN_lits hq) hL2 hx2, fun H3 sm3 => ⟨_, rfl, ?_⟩⟩⟩
      rw [decide_eq_true (pickN_len nd hq eq sub), pickN_asc good goodn hq]
      exact k H3 (sm.trans sm3)
end
end K6
namespace K6
open PySem PySem.Spec PyProof.Rows L2 LamX NdefX EV
abbrev sTurned : Stmt := inClass (top 27) 5
abbrev sAnd : Stmt := inClass (top 27) 8
abbrev sOr : Stmt := inClass (top 27) 9
abbrev sInv : Stmt := inClass (top 27) 10
abbrev sSub : Stmt := inClass (top 27) 11
abbrev sLt : Stmt := inClass (top 27) 13
abbrev psInit : List Str := ["self", "signs", "settings"]
/-! ### literals read back -/
def unlit (l : Str) : Bool × Str := match l.cps.toList with
  | 45 :: t => (true, ⟨t.toArray⟩)
  | _ => (false, l)
theorem unlit_lit {q : Bool × Str} (g : Name1 q.2) : unlit (lit q) = q := by
  obtain ⟨b, n⟩ := q
  cases b
  · show unlit n = (false, n)
    unfold unlit
    split
    · rename_i t e
      have z := g.2.2 45 (by show 45 ∈ n.cps.toList; rw [e]; exact List.mem_cons_self)
      omega
    · rfl
  · show unlit (neg n) = (true, n)
    unfold unlit
    rw [neg_list]
    obtain ⟨cs⟩ := n
    show (true, (⟨cs.toList.toArray⟩ : Str)) = _
    rw [Array.toArray_toList]
/-- a row turned at n, a row without n -/
def turnR (n : Str) (r : List Str) : List Str := r.map fun l => lit (turnQ n (unlit l))
def woR (n : Str) (r : List Str) : List Str := r.filter fun l => decide ((unlit l).2 ≠ n)
theorem turnR_lit {n : Str} {qs : List (Bool × Str)} (g : ∀ q ∈ qs, Name1 q.2) : turnR n (qs.map lit) = (qs.map (turnQ n)).map lit := by
  unfold turnR
  rw [List.map_map, List.map_map]
  refine List.map_congr_left fun q hq => ?_
  show lit (turnQ n (unlit (lit q))) = lit (turnQ n q)
  rw [unlit_lit (g q hq)]
theorem woR_lit {n : Str} : ∀ {qs : List (Bool × Str)}, (∀ q ∈ qs, Name1 q.2) → woR n (qs.map lit) = (qs.filter fun q => decide (q.2 ≠ n)).map lit
  | [], _ => rfl
  | q :: qs, g => by
    have ih := woR_lit (n := n) (qs := qs) fun z hz => g z (List.mem_cons_of_mem _ hz)
    unfold woR at ih ⊢
    rw [List.map_cons, List.filter_cons, List.filter_cons, unlit_lit (g q List.mem_cons_self), ih]
    split <;> rfl
theorem snd_turn (n : Str) (q : Bool × Str) : (turnQ n q).2 = q.2 := by
  unfold turnQ
  split <;> rfl
theorem full_names {sg r : List Str} (good : ∀ z ∈ sg, Name1 z) (h : r ∈ fulls sg) : ∃ qs : List (Bool × Str), qs.map Prod.snd = sg ∧ r = qs.map lit ∧ (∀ q ∈ qs, Name1 q.2) := by
  obtain ⟨qs, e, rfl⟩ := fulls_mem.mp h
  exact ⟨qs, e, rfl, fun q hq => good _ (by rw [← e]; exact List.mem_map_of_mem hq)⟩
theorem turnR_full {n : Str} {sg r : List Str} (good : ∀ z ∈ sg, Name1 z) (h : r ∈ fulls sg) : turnR n r ∈ fulls sg := by
  obtain ⟨qs, e, rfl, g⟩ := full_names good h
  rw [turnR_lit g]
  refine fulls_mem.mpr ⟨qs.map (turnQ n), ?_, rfl⟩
  rw [List.map_map, ← e]
  exact List.map_congr_left fun q _ => snd_turn n q
def rest (n : Str) (sg : List Str) : List Str := sg.filter fun z => decide (z ≠ n)
theorem woR_full {n : Str} {sg r : List Str} (good : ∀ z ∈ sg, Name1 z) (h : r ∈ fulls sg) : woR n r ∈ fulls (rest n sg) := by
  obtain ⟨qs, e, rfl, g⟩ := full_names good h
  rw [woR_lit g]
  refine fulls_mem.mpr ⟨qs.filter fun q => decide (q.2 ≠ n), ?_, rfl⟩
  unfold rest
  rw [← e, List.filter_map]
  rfl
/-! ### rules that are made -/
def joinR (g : Bool → Bool → Bool) (sg : List Str) (rs : List (List Str)) (sg' : List Str) (rs' : List (List Str)) : List (List Str) := (fulls (join sg sg')).filter fun q => g (decide (asc sg q ∈ rs)) (decide (asc sg' q ∈ rs'))
theorem join_nodup {xs ys : List Str} (h1 : xs.Nodup) (h2 : ys.Nodup) : (join xs ys).Nodup := by
  unfold join
  refine List.nodup_append.mpr ⟨h1, h2.filter _, fun a ha b hb e => ?_⟩
  have z := of_decide_eq_true (List.mem_filter.mp hb).2
  exact z (e ▸ ha)
theorem join_mem {xs ys : List Str} {z : Str} : z ∈ join xs ys ↔ z ∈ xs ∨ z ∈ ys := by
  unfold join
  rw [List.mem_append, List.mem_filter]
  constructor
  · rintro (h | h)
    · exact .inl h
    · exact .inr h.1
  · rintro (h | h)
    · exact .inl h
    · by_cases m : z ∈ xs
      · exact .inl m
      · exact .inr ⟨h, decide_eq_true m⟩
/-- what a rule's making leaves -/
def MadeR (K : PySem.W.Frag) (C : Addr) (H : Hp) (Q : VK) (sg : List Str) (rs : List (List Str)) : Prop := ∀ p r H', H p = none → H r = none → RuleR K C H' p sg rs r → Same H H' → Q (.ref p) H'
theorem filter_draw {sg : List Str} (n6 : sg.length ≤ 6) (nd : sg.Nodup) (good : ∀ z ∈ sg, Name1 z) (p : List Str → Bool) : Draw2 sg ((fulls sg).filter p) := ⟨n6, nd, good, List.filter_sublist⟩
theorem allow_draw {sg : List Str} (n6 : sg.length ≤ 6) (nd : sg.Nodup) (good : ∀ z ∈ sg, Name1 z) (gs : List (List Str)) : Draw2 sg (allow sg gs) := filter_draw n6 nd good _
theorem made {K : PySem.W.Frag} {C : Addr} {H0 H : Hp} {S0 T0 y dy : Addr} {b1 b2 : Bool} {sg : List Str} {gs : List (List Str)} {xs : List V} {qss : List (List (Bool × Str))} {Q : VK} (hy : H y = none) (hdy : H dy = none) (smH : Same H0 H) (hS : Sq K b1 H S0 (sg.map V.str)) (hT : Sq K b2 H T0 xs) (n6 : sg.length ≤ 6) (nd : sg.Nodup) (good : ∀ z ∈ sg, Name1 z)
    (u1 : Paired (Handed K H sg) xs qss) (u2 : gs = qss.map fun qs => qs.map lit) (u3 : ∀ qs ∈ qss, qs.length = sg.length) (full : ∀ q ∈ gs, q ∈ fulls sg) (few : gs.length ≤ 1000) (k : MadeR K C H0 Q sg (allow sg gs)) :
    spInit K C [.ref y, .ref S0, .ref T0] (upd (upd H dy (.own y)) y (.ins C dy [])) (fun v H2 => v = .non ∧ Q (.ref y) H2) E0 := by
  refine make_rule hy hdy hS hT n6 nd good u1 u3 (by rw [u2, List.length_map] at few; exact few) fun r H' sm cx fresh => ⟨rfl, ?_⟩
  rw [rowsOf_fulls nd good u2 full] at cx
  exact k y r H' (smH.free hy) (smH.free fresh) cx (smH.trans sm)
/-- lists that hold full settings, handed over -/
theorem handed_lists {K : PySem.W.Frag} {H : Hp} {sg : List Str} : ∀ {us : List Addr} {gs : List (List Str)}, Paired (fun a r => H a = some (.lst (r.map V.str))) us gs → (∀ r ∈ gs, FullOf sg r) →
    ∃ qss, Paired (Handed K H sg) (us.map V.ref) qss ∧ gs = qss.map (fun qs => qs.map lit) ∧ ∀ qs ∈ qss, qs.length = sg.length
  | [], [], _, _ => ⟨[], .nil, rfl, fun _ h => nomatch h⟩
  | t :: ts, r :: rs, .cons h tl, full => by
    obtain ⟨qs, hq, lq, rfl⟩ := full r List.mem_cons_self
    obtain ⟨qss, h1, h2, h3⟩ := handed_lists tl fun x hx => full x (List.mem_cons_of_mem _ hx)
    refine ⟨qs :: qss, .cons ⟨hq, true, t, rfl, SqL.of h⟩ h1, by rw [List.map_cons, h2], fun x hx => ?_⟩
    rcases List.mem_cons.mp hx with rfl | hx
    · exact lq
    · exact h3 x hx
def spTurned (K : PySem.W.Frag) (C : Addr) : Sp := fun vs H Q _ => ∃ (x r : Addr) (n : Str) (sg : List Str) (rs : List (List Str)), vs = [.ref x, .str n] ∧ RuleR K C H x sg rs r ∧ Draw2 sg rs ∧ n ∈ sg ∧ MadeR K C H Q sg (allow sg (rs.map (turnR n)))
def spSub (K : PySem.W.Frag) (C : Addr) : Sp := fun vs H Q _ => ∃ (x r : Addr) (n : Str) (sg : List Str) (rs : List (List Str)), vs = [.ref x, .str n] ∧ RuleR K C H x sg rs r ∧ Draw2 sg rs ∧ n ∈ sg ∧ MadeR K C H Q (rest n sg) (allow (rest n sg) (rs.map (woR n)))
def spInv (K : PySem.W.Frag) (C : Addr) : Sp := fun vs H Q _ => ∃ (x r : Addr) (sg : List Str) (rs : List (List Str)), vs = [.ref x] ∧ RuleR K C H x sg rs r ∧ Draw2 sg rs ∧ MadeR K C H Q sg ((fulls sg).filter fun q => decide (q ∉ rs))
def spBinR (g : Bool → Bool → Bool) (K : PySem.W.Frag) (C : Addr) : Sp := fun vs H Q _ => ∃ (x y r r' : Addr) (sg sg' : List Str) (rs rs' : List (List Str)), vs = [.ref x, .ref y] ∧ RuleR K C H x sg rs r ∧ RuleR K C H y sg' rs' r' ∧ Draw2 sg rs ∧ Draw2 sg' rs' ∧ (join sg sg').length ≤ 6 ∧ MadeR K C H Q (join sg sg') (joinR g sg rs sg' rs')
def spLt (K : PySem.W.Frag) (C : Addr) : Sp := fun vs H Q _ => ∃ (x y : Addr) (sg sg' : List Str) (rs rs' : List (List Str)) (r r' : Addr), vs = [.ref x, .ref y] ∧ RuleR K C H x sg rs r ∧ RuleR K C H y sg' rs' r' ∧ r ≠ r' ∧ sg.length ≤ 60 ∧ sg'.length ≤ 60 ∧ sg.Nodup ∧ sg'.Nodup ∧ (∀ z ∈ sg', Name1 z) ∧ (∀ q ∈ rs, FullOf sg q) ∧ rs.length ≤ 1000 ∧
  ∀ H', Same H H' → Q (.bl (leR sg rs sg' rs' && decide (rs.length < rs'.length))) H'
section
variable {P : Program} {w : World} {K : PySem.W.Frag} {mg : Str → Option Value} {base : Heap} {f fJ fU fS fA fI fN fO fK fW fT fL C : Addr} {fd fdJ fdU fdS fdA fdI fdN fdO fdK fdW fdT fdL : FuncData}
abbrev nTurnRow : List Str := ["row", "name", "literal"]
theorem scTurnRow : FnScope nTurnRow ["row", "name"] (defScope sTurnRow) := ⟨rfl, rfl, rfl, by decide +kernel, rfl, by decide +kernel, by decide +kernel⟩
theorem ok_turnRow (F : Fun K "turned_row" "turned_row" sTurnRow f fd) (GN : FnOk P w K mg base CX0 1 fN fdN ["literal"] spNameOf) (mN : mg "name_of" = some (.ref fN)) (kN : PySem.W.keepIn K (.ref fN) = true) (bN : L2.Binds K fdN ["literal"] [])
    (GO : FnOk P w K mg base CX0 1 fO fdO ["literal"] spOpp) (mO : mg "opposite" = some (.ref fO)) (kO : PySem.W.keepIn K (.ref fO) = true) (bO : L2.Binds K fdO ["literal"] []) :
    FnOk P w K mg base CX0 2 f fd ["row", "name"] (spTurnRow K) := by
  refine F.ok scTurnRow (fun vs H Q E h => ?_) (fun cdv A outer s H vs Q E hr h => ?_)
  · obtain ⟨t, n, qs, rfl, _⟩ := h
    rfl
  · obtain ⟨t, n, qs, rfl, ht, g, lq, k⟩ := h
    refine ⟨_, pss_one (ps_ret (pe_lc (own := [("literal", 2)]) (g := gName 2) (tt := tYes) rfl scTurnRow.nd (pi_seq (pv 0)) (blkOk_by (N := nTurnRow) (sc := defScope sTurnRow) (by decide +kernel))
          (fun _ _ _ _ _ => pg_name (i := 2) scTurnRow.nd rfl (.inl rfl)) (fun _ _ _ _ _ => pts_nil) (fun _ _ _ _ _ => pe_ifExp (pt_cmpR op_eq (pe_call GN hr (by rfl) mN kN bN .nil pass0 (pa_cons (pv 2) pa_nil)) (pv 1) (nomark _)) (pe_call GO hr (by rfl) mO kO bO .nil pass0 (pa_cons (pv 2) pa_nil)) (pv 2)))), ?_⟩
    refine ⟨_, rfl, false, t, _, rfl, ht H (Same.refl H), fun D hD => lc_it walk_sq (fun i H2 => Same H H2 ∧ H2 D = some (.lst ((((qs.take i).map (turnQ n)).map lit).map V.str))) ⟨same_new hD, upd_same⟩ (fun i H2 _ hh => ht _ hh.1) ?_ ?_⟩
    · rintro i v H2 H3 hi ⟨sm, hD2⟩ ⟨rfl, hv⟩
      obtain ⟨l, hl, rfl⟩ := get_map hv
      obtain ⟨q, hq', rfl⟩ := get_map hl
      have gq := g q (List.mem_of_getElem? hq')
      have er : qs.take (i + 1) = qs.take i ++ [q] := by rw [List.take_succ, hq']; rfl
      have lt := List.length_take_le' i qs
      have step : ∃ acc, H3 D = some (.lst acc) ∧ acc.length < sizeLine ∧ Same H (upd H3 D (.lst (acc ++ [.str (lit (turnQ n q))]))) ∧ upd H3 D (.lst (acc ++ [.str (lit (turnQ n q))])) D = some (.lst ((((qs.take (i + 1)).map (turnQ n)).map lit).map V.str)) := by
        refine ⟨_, hD2, by rw [List.length_map, List.length_map, List.length_map, sizeLine_eq]; omega, fun c o h => (upd_ne (ne_of_none h hD)).trans (sm c o h), ?_⟩
        rw [upd_same, er, List.map_append, List.map_append, List.map_append]
        rfl
      refine ⟨rfl, _, rfl, q, rfl, gq, _, rfl, rfl, _, rfl, ?_⟩
      by_cases e : q.2 = n
      · have e2 : decide (V.str q.2 = V.str n) = true := decide_eq_true (by rw [e])
        rw [e2]
        refine iteT ⟨_, rfl, q, rfl, gq, ?_⟩
        have z : turnQ n q = opp q := if_pos e
        rw [← z]
        exact step
      · have e2 : decide (V.str q.2 = V.str n) = false := decide_eq_false fun h => e (by injection h)
        rw [e2]
        refine iteF ⟨_, rfl, ?_⟩
        have z : turnQ n q = q := if_neg e
        have s2 := step
        rw [z] at s2
        exact s2
    · rintro H2 ⟨sm, hD2⟩
      rw [List.length_map, List.length_map, List.take_length] at hD2
      exact k D H2 hD hD2 sm
theorem scRowWithout : FnScope nTurnRow ["row", "name"] (defScope sRowWithout) := ⟨rfl, rfl, rfl, by decide +kernel, rfl, by decide +kernel, by decide +kernel⟩
theorem ok_rowWithout (F : Fun K "row_without" "row_without" sRowWithout f fd) (GN : FnOk P w K mg base CX0 1 fN fdN ["literal"] spNameOf) (mN : mg "name_of" = some (.ref fN)) (kN : PySem.W.keepIn K (.ref fN) = true) (bN : L2.Binds K fdN ["literal"] []) :
    FnOk P w K mg base CX0 2 f fd ["row", "name"] (spRowWithout K) := by
  refine F.ok scRowWithout (fun vs H Q E h => ?_) (fun cdv A outer s H vs Q E hr h => ?_)
  · obtain ⟨t, n, qs, rfl, _⟩ := h
    rfl
  · obtain ⟨t, n, qs, rfl, ht, g, lq, k⟩ := h
    refine ⟨_, pss_one (ps_ret (pe_lc (own := [("literal", 2)]) (g := gName 2) rfl scRowWithout.nd (pi_seq (pv 0)) (blkOk_by (N := nTurnRow) (sc := defScope sRowWithout) (by decide +kernel))
          (fun _ _ _ _ _ => pg_name (i := 2) scRowWithout.nd rfl (.inl rfl)) (fun _ _ _ _ _ => pts_one (pt_cmpR op_ne (pe_call GN hr (by rfl) mN kN bN .nil pass0 (pa_cons (pv 2) pa_nil)) (pv 1) (nomark _))) (fun _ _ _ _ _ => pv 2))), ?_⟩
    refine ⟨_, rfl, false, t, _, rfl, ht H (Same.refl H), fun D hD => lc_it walk_sq (fun i H2 => Same H H2 ∧ H2 D = some (.lst ((((qs.take i).filter fun q => decide (q.2 ≠ n)).map lit).map V.str))) ⟨same_new hD, upd_same⟩ (fun i H2 _ hh => ht _ hh.1) ?_ ?_⟩
    · rintro i v H2 H3 hi ⟨sm, hD2⟩ ⟨rfl, hv⟩
      obtain ⟨l, hl, rfl⟩ := get_map hv
      obtain ⟨q, hq', rfl⟩ := get_map hl
      have gq := g q (List.mem_of_getElem? hq')
      have er : qs.take (i + 1) = qs.take i ++ [q] := by rw [List.take_succ, hq']; rfl
      have lt := List.length_take_le' i qs
      have lf := List.length_filter_le (fun q => decide (q.2 ≠ n)) (qs.take i)
      refine ⟨rfl, _, rfl, q, rfl, gq, _, rfl, rfl, _, rfl, ?_⟩
      by_cases e : q.2 = n
      · have e2 : (!decide (V.str q.2 = V.str n)) = false := by rw [decide_eq_true (by rw [e])]; rfl
        rw [e2]
        refine iteF ⟨sm, ?_⟩
        rw [hD2, er, List.filter_append, List.filter_cons, if_neg (by rw [decide_eq_false (fun h => h e)]; decide), List.filter_nil, List.append_nil]
      · have e2 : (!decide (V.str q.2 = V.str n)) = true := by rw [decide_eq_false fun h => e (by injection h)]; rfl
        rw [e2]
        refine iteT ⟨_, rfl, _, hD2, by rw [List.length_map, List.length_map, sizeLine_eq]; omega, fun c o h => (upd_ne (ne_of_none h hD)).trans (sm c o h), ?_⟩
        rw [upd_same, er, List.filter_append, List.filter_cons, if_pos (decide_eq_true e), List.map_append, List.map_append]
        rfl
    · rintro H2 ⟨sm, hD2⟩
      rw [List.length_map, List.length_map, List.take_length] at hD2
      exact k D H2 hD hD2 sm
theorem scChkSign : FnScope ["rule", "name"] ["rule", "name"] (defScope sChkSign) := ⟨rfl, rfl, rfl, by decide +kernel, rfl, by decide +kernel, by decide +kernel⟩
theorem ok_chkSign (F : Fun K "check_sign" "check_sign" sChkSign f fd) (T : RTxt K mg C) : FnOk P w K mg base CX0 1 f fd ["rule", "name"] (spChkSign K C) := by
  refine F.ok scChkSign (fun vs H Q E h => ?_) (fun cdv A outer s H vs Q E hr h => ?_)
  · obtain ⟨x, r, n, sg, rs, rfl, _⟩ := h
    rfl
  · obtain ⟨x, r, n, sg, rs, rfl, cx, m, k⟩ := h
    obtain ⟨dx, a, pl, hx, ha, _, _⟩ := cx.at_
    refine ⟨_, pss_one (ps_if (pt_cmpR op_notIn_seq (pv 1) (pe_fld (pv 0) rfl) rfl) (pss_one ps_none) pss_nil), ?_⟩
    refine ⟨_, rfl, _, rfl, x, C, dx, _, _, rfl, hx, T.cl, T.n1, fl1 .., a, _, rfl, .inr (ha H (Same.refl H)), rfl, flat_str sg, _, rfl, ?_⟩
    rw [if_pos rfl, inV_str, decide_eq_true m]
    exact iteF k
abbrev nInv : List Str := ["self", "row"]
theorem scInv : FnScope nInv ["self"] (defScope sInv) := ⟨rfl, rfl, rfl, by decide +kernel, rfl, by decide +kernel, by decide +kernel⟩
theorem ok_inv (F : Fun K "__invert__" "Rule.__invert__" sInv f fd) (T : RTxt K mg C) (M : Mk K C fI) (GI : FnOk P w K mg base CX0 5 fI fdI psInit (spInit K C)) (bI : L2.Binds K fdI psInit [])
    (GS : FnOk P w K mg base CX0 1 fS fdS ["names"] (spFS K)) (mS : mg "full_settings" = some (.ref fS)) (kS : PySem.W.keepIn K (.ref fS) = true) (bS : L2.Binds K fdS ["names"] []) :
    FnOk P w K mg base CX0 7 f fd ["self"] (spInv K C) := by
  refine F.ok scInv (fun vs H Q E h => ?_) (fun cdv A outer s H vs Q E hr h => ?_)
  · obtain ⟨x, r, sg, rs, rfl, _⟩ := h
    rfl
  · obtain ⟨x, r, sg, rs, rfl, cx, Dr, k⟩ := h
    have hu := hu_of hr
    have hr1 : Room 1 _ := hr.mono (by decide)
    have hr6 : Room 6 _ := hr.mono (by decide)
    refine ⟨_, pss_one (ps_ret (pe_make M GI hr6 (by rfl) T.mgC bI .nil pass0 (pa_cons (pe_fld (pv 0) rfl) (pa_cons (pe_lc (own := [("row", 1)]) (g := gName 1) rfl scInv.nd (pi_list (pe_call GS hr1 (by rfl) mS kS bS .nil pass0 (pa_cons (pe_fld (pv 0) rfl) pa_nil))) (blkOk_by (N := nInv) (sc := defScope sInv) (by decide +kernel))
          (fun _ _ _ _ _ => pg_name (i := 1) scInv.nd rfl (.inl rfl)) (fun _ _ _ _ _ => pts_one (pt_cmp (pc_dnotin hu (pv 1) (show PE _ _ (tFld K _ _) from pe_fld (pv 0) rfl)))) (fun _ _ _ _ _ => pv 1)) pa_nil)))), ?_⟩
    obtain ⟨dx, a, pl, hx, ha, _, hr4⟩ := cx.at_
    have l6 := Dr.n6
    refine ⟨_, rfl, x, C, dx, _, _, rfl, hx, T.cl, T.n1, fl1 .., _, rfl, x, C, dx, _, _, rfl, hx, T.cl, T.n1, fl1 .., a, false, sg, rfl, (fun H' s' => ha H' s'), l6, (fun z hz => (Dr.good z hz).2.1), fun p ts H1 hp hp1 rows sm1 => ?_⟩
    have lts : ts.length = (fulls sg).length := Paired.length rows
    have f64 := fulls_few l6
    refine ⟨p, rfl, ⟨_, SqL.of hp1⟩, fun D hD => lc_it (walk_list (xs := ts.map V.ref)) (fun i H2 => Same H1 H2 ∧ ∃ us, H2 D = some (.lst (us.map V.ref)) ∧ RowsAt H2 us (((fulls sg).take i).filter fun q => decide (q ∉ rs))) ⟨same_new hD, [], upd_same, .nil⟩ (fun i H2 _ hh => SqL.of (hh.1 _ _ hp1)) ?_ ?_⟩
    · rintro i v H2 H3 hi ⟨sm, us, hD3, ru⟩ ⟨rfl, hv⟩
      obtain ⟨t, ht, rfl⟩ := get_map hv
      obtain ⟨q, hq, hqt⟩ := RowsAt.get rows i t ht
      have er : (fulls sg).take (i + 1) = (fulls sg).take i ++ [q] := by rw [List.take_succ, hq]; rfl
      have lus : us.length ≤ 64 := by
        have z1 := Paired.length ru
        have z2 := List.length_filter_le (fun q => decide (q ∉ rs)) ((fulls sg).take i)
        have z3 := List.length_take_le' i (fulls sg)
        omega
      have ht2 : H3 t = some (.tup ((q.map (Sum.inr : Str → Key)).map kV)) := by
        rw [kV_strs]
        exact sm _ _ hqt
      have g := DGet.t (k := q.map Sum.inr) (sm _ _ (sm1 _ _ hr4)) ht2
      have hx3 := sm _ _ (sm1 _ _ hx)
      refine ⟨rfl, _, rfl, _, rfl, x, C, dx, _, _, rfl, hx3, T.cl, T.n3, fl3 .., r, _, rfl, g, _, rfl, ?_⟩
      by_cases m : q ∈ rs
      · rw [row_some rs m]
        refine iteF ⟨sm, us, hD3, ?_⟩
        rw [er, List.filter_append, List.filter_cons, if_neg (by rw [decide_eq_false (fun h => h m)]; decide), List.filter_nil, List.append_nil]
        exact ru
      · rw [row_none rs m]
        refine iteT ⟨_, rfl, _, hD3, by rw [List.length_map, sizeLine_eq]; omega, fun b o h => (upd_ne (ne_of_none h hD)).trans (sm b o h), us ++ [t], ?_, RowsAt.put hD3 ?_⟩
        · rw [upd_same, List.map_append]
          rfl
        · rw [er, List.filter_append, List.filter_cons, if_pos (decide_eq_true m)]
          exact rows_snoc ru (sm _ _ hqt)
    · rintro H2 ⟨sm, us, hD2, ru⟩
      rw [List.length_map, lts, List.take_length] at ru
      have sub : ((fulls sg).filter fun q => decide (q ∉ rs)).Sublist (fulls sg) := List.filter_sublist
      obtain ⟨qss, u1, u2, u3⟩ := handed_full (K := K) ru fun q hq => full_of Dr.nd (sub.subset hq)
      have few := sub.length_le
      intro y dy hy hdy _
      refine made (b1 := false) (b2 := true) hy hdy (sm1.trans sm) (ha _ (sm1.trans sm)) (SqL.of hD2) l6 Dr.nd Dr.good u1 u2 u3 (fun q hq => sub.subset hq) (by omega) ?_
      rw [allow_sub sub]
      exact k
end
end K6
namespace K6
open PySem PySem.Spec PyProof.Rows L2 LamX NdefX EV
theorem fulls_lits {ns q : List Str} (nd : ns.Nodup) (h : q ∈ fulls ns) : ∃ qs : List (Bool × Str), qs.map Prod.snd = ns ∧ q = qs.map lit ∧ Lits ns qs := by
  obtain ⟨qs, e, rfl⟩ := fulls_mem.mp h
  exact ⟨qs, e, rfl, by rw [e]; exact nd, fun z hz => by rw [← e]; exact List.mem_map_of_mem hz⟩
section
variable {P : Program} {w : World} {K : PySem.W.Frag} {mg : Str → Option Value} {base : Heap} {f fJ fU fS fA fI fN fO fK fW fT fL C : Addr} {fd fdJ fdU fdS fdA fdI fdN fdO fdK fdW fdT fdL : FuncData}
abbrev nBin : List Str := ["self", "other", "names", "row"]
theorem scAnd : FnScope nBin ["self", "other"] (defScope sAnd) := ⟨rfl, rfl, rfl, by decide +kernel, rfl, by decide +kernel, by decide +kernel⟩
theorem scOr : FnScope nBin ["self", "other"] (defScope sOr) := ⟨rfl, rfl, rfl, by decide +kernel, rfl, by decide +kernel, by decide +kernel⟩
theorem ok_and (F : Fun K "__and__" "Rule.__and__" sAnd f fd) (T : RTxt K mg C) (M : Mk K C fI) (GI : FnOk P w K mg base CX0 5 fI fdI psInit (spInit K C)) (bI : L2.Binds K fdI psInit [])
    (GJ : FnOk P w K mg base CX0 1 fJ fdJ ["ones", "others"] (spJoin K)) (mJ : mg "joined_names" = some (.ref fJ)) (kJ : PySem.W.keepIn K (.ref fJ) = true) (bJ : L2.Binds K fdJ ["ones", "others"] [])
    (GU : FnOk P w K mg base CX0 1 fU fdU ["names"] (spChkCount K)) (mU : mg "check_count" = some (.ref fU)) (kU : PySem.W.keepIn K (.ref fU) = true) (bU : L2.Binds K fdU ["names"] [])
    (GS : FnOk P w K mg base CX0 1 fS fdS ["names"] (spFS K)) (mS : mg "full_settings" = some (.ref fS)) (kS : PySem.W.keepIn K (.ref fS) = true) (bS : L2.Binds K fdS ["names"] [])
    (GA : FnOk P w K mg base CX0 6 fA fdA ["rule", "row"] (spAllows K C)) (mA : mg "allows" = some (.ref fA)) (kA : PySem.W.keepIn K (.ref fA) = true) (bA : L2.Binds K fdA ["rule", "row"] []) :
    FnOk P w K mg base CX0 7 f fd ["self", "other"] (spBinR and K C) := by
  refine F.ok scAnd (fun vs H Q E h => ?_) (fun cdv A outer s H vs Q E hr h => ?_)
  · obtain ⟨x, y, r, r', sg, sg', rs, rs', rfl, _⟩ := h
    rfl
  · obtain ⟨x, y, r, r', sg, sg', rs, rs', rfl, cx, cy, D1, D2, n6, k⟩ := h
    have hu := hu_of hr
    have hr1 : Room 1 _ := hr.mono (by decide)
    have hr6 : Room 6 _ := hr.mono (by decide)
    refine ⟨_, pss_cons (ps_set (i := 2) scAnd.nd rfl (.inl rfl) (pe_call GJ hr1 (by rfl) mJ kJ bJ .nil pass0 (pa_cons (pe_fld (pv 0) rfl) (pa_cons (pe_fld (pv 1) rfl) pa_nil))))
      (pss_cons (ps_expr (pe_call GU hr1 (by rfl) mU kU bU .nil pass0 (pa_cons (pv 2) pa_nil)))
      (pss_one (ps_ret (pe_make M GI hr6 (by rfl) T.mgC bI .nil pass0 (pa_cons (pv 2) (pa_cons (pe_lc (own := [("row", 3)]) (g := gName 3) rfl scAnd.nd (pi_list (pe_call GS hr1 (by rfl) mS kS bS .nil pass0 (pa_cons (pv 2) pa_nil))) (blkOk_by (N := nBin) (sc := defScope sAnd) (by decide +kernel))
          (fun _ _ _ _ _ => pg_name (i := 3) scAnd.nd rfl (.inl rfl)) (fun _ _ _ _ _ => pts_one (PW.pt (pw_and (pt_val (pe_call GA hr6 (by rfl) mA kA bA .nil pass0 (pa_cons (pv 0) (pa_cons (pv 3) pa_nil)))) (pw_and1 (pt_val (pe_call GA hr6 (by rfl) mA kA bA .nil pass0 (pa_cons (pv 1) (pa_cons (pv 3) pa_nil)))))))) (fun _ _ _ _ _ => pv 3)) pa_nil)))))), ?_⟩
    obtain ⟨dx, a, pl, hx, ha, _, _⟩ := cx.at_
    obtain ⟨dy, a', pl', hy, ha', _, _⟩ := cy.at_
    have l1 := D1.n6
    have l2 := D2.n6
    have ndj := join_nodup D1.nd D2.nd
    have goodj : ∀ z ∈ join sg sg', Name1 z := fun z hz => (join_mem.mp hz).elim (D1.good z) (D2.good z)
    refine ⟨_, rfl, x, C, dx, _, _, rfl, hx, T.cl, T.n1, fl1 .., _, rfl, y, C, dy, _, _, rfl, hy, T.cl, T.n1, fl1 .., a, a', false, false, sg, sg', rfl, (fun H' s' => ha H' s'), (fun H' s' => ha' H' s'), by omega, by omega, D1.nd, fun J H1 hJ0 hJ1 sm1 => ?_⟩
    refine ⟨_, rfl, J, true, _, rfl, SqL.of hJ1, by rw [List.length_map]; exact n6, ?_⟩
    refine ⟨_, rfl, _, rfl, J, true, join sg sg', rfl, (fun H' s' => SqL.of (s' _ _ hJ1)), n6, (fun z hz => (goodj z hz).2.1), fun p ts H2 hp hp2 rows sm2 => ?_⟩
    have lts : ts.length = (fulls (join sg sg')).length := Paired.length rows
    have f64 := fulls_few n6
    have sm02 := sm1.trans sm2
    refine ⟨p, rfl, ⟨_, SqL.of hp2⟩, fun D hD => lc_it (walk_list (xs := ts.map V.ref)) (fun i H3 => Same H2 H3 ∧ ∃ us, H3 D = some (.lst (us.map V.ref)) ∧ RowsAt H3 us (((fulls (join sg sg')).take i).filter fun q => and (decide (asc sg q ∈ rs)) (decide (asc sg' q ∈ rs')))) ⟨same_new hD, [], upd_same, .nil⟩ (fun i H3 _ hh => SqL.of (hh.1 _ _ hp2)) ?_ ?_⟩
    · rintro i v H3 H4 hi ⟨sm, us, hD4, ru⟩ ⟨rfl, hv⟩
      obtain ⟨t, ht, rfl⟩ := get_map hv
      obtain ⟨q, hq, hqt⟩ := RowsAt.get rows i t ht
      have er : (fulls (join sg sg')).take (i + 1) = (fulls (join sg sg')).take i ++ [q] := by rw [List.take_succ, hq]; rfl
      have lus : us.length ≤ 64 := by
        have z1 := Paired.length ru
        have z2 := List.length_filter_le (fun q => and (decide (asc sg q ∈ rs)) (decide (asc sg' q ∈ rs'))) ((fulls (join sg sg')).take i)
        have z3 := List.length_take_le' i (fulls (join sg sg'))
        omega
      have sm04 := sm02.trans sm
      have hqt4 := sm _ _ hqt
      obtain ⟨qs, eq, eq2, Lq⟩ := fulls_lits ndj (List.mem_of_getElem? hq)
      have yes : ∀ H5, Same H4 H5 → and (decide (asc sg q ∈ rs)) (decide (asc sg' q ∈ rs')) = true → ∃ acc, H5 D = some (.lst acc) ∧ acc.length < sizeLine ∧ (Same H2 (upd H5 D (.lst (acc ++ [.ref t]))) ∧ ∃ us, upd H5 D (.lst (acc ++ [.ref t])) D = some (.lst (us.map V.ref)) ∧ RowsAt (upd H5 D (.lst (acc ++ [.ref t]))) us (((fulls (join sg sg')).take (i + 1)).filter fun q => and (decide (asc sg q ∈ rs)) (decide (asc sg' q ∈ rs')))) := fun H5 s5 e => by
        refine ⟨_, s5 _ _ hD4, by rw [List.length_map, sizeLine_eq]; omega, fun b o h => (upd_ne (ne_of_none h hD)).trans (s5 _ _ (sm b o h)), us ++ [t], ?_, RowsAt.put (s5 _ _ hD4) ?_⟩
        · rw [upd_same, List.map_append]
          rfl
        · rw [er, List.filter_append, List.filter_cons, if_pos e]
          exact rows_snoc (ru.same s5) (s5 _ _ hqt4)
      have no : ∀ H5, Same H4 H5 → and (decide (asc sg q ∈ rs)) (decide (asc sg' q ∈ rs')) = false → (Same H2 H5 ∧ ∃ us, H5 D = some (.lst (us.map V.ref)) ∧ RowsAt H5 us (((fulls (join sg sg')).take (i + 1)).filter fun q => and (decide (asc sg q ∈ rs)) (decide (asc sg' q ∈ rs')))) := fun H5 s5 e => by
        refine ⟨sm.trans s5, us, s5 _ _ hD4, ?_⟩
        rw [er, List.filter_append, List.filter_cons, if_neg (by rw [e]; decide), List.filter_nil, List.append_nil]
        exact ru.same s5
      have hqt4' : H4 t = some (.tup ((qs.map lit).map V.str)) := by rw [← eq2]; exact hqt4
      refine ⟨rfl, _, rfl, _, rfl, x, t, r, sg, join sg sg', rs, qs, rfl, cx.same sm04, by omega, D1.nd, D1.good, hqt4', Lq, eq, goodj, (fun n hn => join_mem.mpr (.inl hn)), by omega, fun H5 s5 => ⟨_, rfl, ?_⟩⟩
      rw [← eq2]
      cases h1 : decide (asc sg q ∈ rs) with
      | false => exact iteF (iteF (no H5 s5 (by rw [h1]; rfl)))
      | true =>
        refine iteT ⟨_, rfl, _, rfl, y, t, r', sg', join sg sg', rs', qs, rfl, cy.same (sm04.trans s5), by omega, D2.nd, D2.good, s5 _ _ hqt4', Lq, eq, goodj, (fun n hn => join_mem.mpr (.inr hn)), by omega, fun H6 s6 => ⟨_, rfl, ?_⟩⟩
        rw [← eq2]
        cases h2 : decide (asc sg' q ∈ rs') with
        | false => exact iteF (no H6 (s5.trans s6) (by rw [h1, h2]; rfl))
        | true => exact iteT ⟨_, rfl, yes H6 (s5.trans s6) (by rw [h1, h2]; rfl)⟩
    · rintro H3 ⟨sm, us, hD3, ru⟩
      rw [List.length_map, lts, List.take_length] at ru
      have sub : (joinR and sg rs sg' rs').Sublist (fulls (join sg sg')) := List.filter_sublist
      obtain ⟨qss, u1, u2, u3⟩ := handed_full (K := K) ru fun q hq => full_of ndj (sub.subset hq)
      have few := sub.length_le
      intro y dy hy hdy _
      refine made (b1 := true) (b2 := true) hy hdy (sm02.trans sm) (SqL.of (sm _ _ (sm2 _ _ hJ1))) (SqL.of hD3) n6 ndj goodj u1 u2 u3 (fun q hq => sub.subset hq) (by unfold joinR at few; omega) ?_
      show MadeR K C H Q (join sg sg') (allow (join sg sg') (joinR and sg rs sg' rs'))
      rw [allow_sub sub]
      exact k
theorem ok_or (F : Fun K "__or__" "Rule.__or__" sOr f fd) (T : RTxt K mg C) (M : Mk K C fI) (GI : FnOk P w K mg base CX0 5 fI fdI psInit (spInit K C)) (bI : L2.Binds K fdI psInit [])
    (GJ : FnOk P w K mg base CX0 1 fJ fdJ ["ones", "others"] (spJoin K)) (mJ : mg "joined_names" = some (.ref fJ)) (kJ : PySem.W.keepIn K (.ref fJ) = true) (bJ : L2.Binds K fdJ ["ones", "others"] [])
    (GU : FnOk P w K mg base CX0 1 fU fdU ["names"] (spChkCount K)) (mU : mg "check_count" = some (.ref fU)) (kU : PySem.W.keepIn K (.ref fU) = true) (bU : L2.Binds K fdU ["names"] [])
    (GS : FnOk P w K mg base CX0 1 fS fdS ["names"] (spFS K)) (mS : mg "full_settings" = some (.ref fS)) (kS : PySem.W.keepIn K (.ref fS) = true) (bS : L2.Binds K fdS ["names"] [])
    (GA : FnOk P w K mg base CX0 6 fA fdA ["rule", "row"] (spAllows K C)) (mA : mg "allows" = some (.ref fA)) (kA : PySem.W.keepIn K (.ref fA) = true) (bA : L2.Binds K fdA ["rule", "row"] []) :
    FnOk P w K mg base CX0 7 f fd ["self", "other"] (spBinR or K C) := by
  refine F.ok scOr (fun vs H Q E h => ?_) (fun cdv A outer s H vs Q E hr h => ?_)
  · obtain ⟨x, y, r, r', sg, sg', rs, rs', rfl, _⟩ := h
    rfl
  · obtain ⟨x, y, r, r', sg, sg', rs, rs', rfl, cx, cy, D1, D2, n6, k⟩ := h
    have hu := hu_of hr
    have hr1 : Room 1 _ := hr.mono (by decide)
    have hr6 : Room 6 _ := hr.mono (by decide)
    refine ⟨_, pss_cons (ps_set (i := 2) scOr.nd rfl (.inl rfl) (pe_call GJ hr1 (by rfl) mJ kJ bJ .nil pass0 (pa_cons (pe_fld (pv 0) rfl) (pa_cons (pe_fld (pv 1) rfl) pa_nil))))
      (pss_cons (ps_expr (pe_call GU hr1 (by rfl) mU kU bU .nil pass0 (pa_cons (pv 2) pa_nil)))
      (pss_one (ps_ret (pe_make M GI hr6 (by rfl) T.mgC bI .nil pass0 (pa_cons (pv 2) (pa_cons (pe_lc (own := [("row", 3)]) (g := gName 3) rfl scOr.nd (pi_list (pe_call GS hr1 (by rfl) mS kS bS .nil pass0 (pa_cons (pv 2) pa_nil))) (blkOk_by (N := nBin) (sc := defScope sOr) (by decide +kernel))
          (fun _ _ _ _ _ => pg_name (i := 3) scOr.nd rfl (.inl rfl)) (fun _ _ _ _ _ => pts_one (PW.pt (pw_or (pt_val (pe_call GA hr6 (by rfl) mA kA bA .nil pass0 (pa_cons (pv 0) (pa_cons (pv 3) pa_nil)))) (pw_or1 (pt_val (pe_call GA hr6 (by rfl) mA kA bA .nil pass0 (pa_cons (pv 1) (pa_cons (pv 3) pa_nil)))))))) (fun _ _ _ _ _ => pv 3)) pa_nil)))))), ?_⟩
    obtain ⟨dx, a, pl, hx, ha, _, _⟩ := cx.at_
    obtain ⟨dy, a', pl', hy, ha', _, _⟩ := cy.at_
    have l1 := D1.n6
    have l2 := D2.n6
    have ndj := join_nodup D1.nd D2.nd
    have goodj : ∀ z ∈ join sg sg', Name1 z := fun z hz => (join_mem.mp hz).elim (D1.good z) (D2.good z)
    refine ⟨_, rfl, x, C, dx, _, _, rfl, hx, T.cl, T.n1, fl1 .., _, rfl, y, C, dy, _, _, rfl, hy, T.cl, T.n1, fl1 .., a, a', false, false, sg, sg', rfl, (fun H' s' => ha H' s'), (fun H' s' => ha' H' s'), by omega, by omega, D1.nd, fun J H1 hJ0 hJ1 sm1 => ?_⟩
    refine ⟨_, rfl, J, true, _, rfl, SqL.of hJ1, by rw [List.length_map]; exact n6, ?_⟩
    refine ⟨_, rfl, _, rfl, J, true, join sg sg', rfl, (fun H' s' => SqL.of (s' _ _ hJ1)), n6, (fun z hz => (goodj z hz).2.1), fun p ts H2 hp hp2 rows sm2 => ?_⟩
    have lts : ts.length = (fulls (join sg sg')).length := Paired.length rows
    have f64 := fulls_few n6
    have sm02 := sm1.trans sm2
    refine ⟨p, rfl, ⟨_, SqL.of hp2⟩, fun D hD => lc_it (walk_list (xs := ts.map V.ref)) (fun i H3 => Same H2 H3 ∧ ∃ us, H3 D = some (.lst (us.map V.ref)) ∧ RowsAt H3 us (((fulls (join sg sg')).take i).filter fun q => or (decide (asc sg q ∈ rs)) (decide (asc sg' q ∈ rs')))) ⟨same_new hD, [], upd_same, .nil⟩ (fun i H3 _ hh => SqL.of (hh.1 _ _ hp2)) ?_ ?_⟩
    · rintro i v H3 H4 hi ⟨sm, us, hD4, ru⟩ ⟨rfl, hv⟩
      obtain ⟨t, ht, rfl⟩ := get_map hv
      obtain ⟨q, hq, hqt⟩ := RowsAt.get rows i t ht
      have er : (fulls (join sg sg')).take (i + 1) = (fulls (join sg sg')).take i ++ [q] := by rw [List.take_succ, hq]; rfl
      have lus : us.length ≤ 64 := by
        have z1 := Paired.length ru
        have z2 := List.length_filter_le (fun q => or (decide (asc sg q ∈ rs)) (decide (asc sg' q ∈ rs'))) ((fulls (join sg sg')).take i)
        have z3 := List.length_take_le' i (fulls (join sg sg'))
        omega
      have sm04 := sm02.trans sm
      have hqt4 := sm _ _ hqt
      obtain ⟨qs, eq, eq2, Lq⟩ := fulls_lits ndj (List.mem_of_getElem? hq)
      have yes : ∀ H5, Same H4 H5 → or (decide (asc sg q ∈ rs)) (decide (asc sg' q ∈ rs')) = true → ∃ acc, H5 D = some (.lst acc) ∧ acc.length < sizeLine ∧ (Same H2 (upd H5 D (.lst (acc ++ [.ref t]))) ∧ ∃ us, upd H5 D (.lst (acc ++ [.ref t])) D = some (.lst (us.map V.ref)) ∧ RowsAt (upd H5 D (.lst (acc ++ [.ref t]))) us (((fulls (join sg sg')).take (i + 1)).filter fun q => or (decide (asc sg q ∈ rs)) (decide (asc sg' q ∈ rs')))) := fun H5 s5 e => by
        refine ⟨_, s5 _ _ hD4, by rw [List.length_map, sizeLine_eq]; omega, fun b o h => (upd_ne (ne_of_none h hD)).trans (s5 _ _ (sm b o h)), us ++ [t], ?_, RowsAt.put (s5 _ _ hD4) ?_⟩
        · rw [upd_same, List.map_append]
          rfl
        · rw [er, List.filter_append, List.filter_cons, if_pos e]
          exact rows_snoc (ru.same s5) (s5 _ _ hqt4)
      have no : ∀ H5, Same H4 H5 → or (decide (asc sg q ∈ rs)) (decide (asc sg' q ∈ rs')) = false → (Same H2 H5 ∧ ∃ us, H5 D = some (.lst (us.map V.ref)) ∧ RowsAt H5 us (((fulls (join sg sg')).take (i + 1)).filter fun q => or (decide (asc sg q ∈ rs)) (decide (asc sg' q ∈ rs')))) := fun H5 s5 e => by
        refine ⟨sm.trans s5, us, s5 _ _ hD4, ?_⟩
        rw [er, List.filter_append, List.filter_cons, if_neg (by rw [e]; decide), List.filter_nil, List.append_nil]
        exact ru.same s5
      have hqt4' : H4 t = some (.tup ((qs.map lit).map V.str)) := by rw [← eq2]; exact hqt4
      refine ⟨rfl, _, rfl, _, rfl, x, t, r, sg, join sg sg', rs, qs, rfl, cx.same sm04, by omega, D1.nd, D1.good, hqt4', Lq, eq, goodj, (fun n hn => join_mem.mpr (.inl hn)), by omega, fun H5 s5 => ⟨_, rfl, ?_⟩⟩
      rw [← eq2]
      cases h1 : decide (asc sg q ∈ rs) with
      | true => exact iteT (iteT ⟨_, rfl, yes H5 s5 (by rw [h1]; rfl)⟩)
      | false =>
        refine iteF ⟨_, rfl, _, rfl, y, t, r', sg', join sg sg', rs', qs, rfl, cy.same (sm04.trans s5), by omega, D2.nd, D2.good, s5 _ _ hqt4', Lq, eq, goodj, (fun n hn => join_mem.mpr (.inr hn)), by omega, fun H6 s6 => ⟨_, rfl, ?_⟩⟩
        rw [← eq2]
        cases h2 : decide (asc sg' q ∈ rs') with
        | false => exact iteF (no H6 (s5.trans s6) (by rw [h1, h2]; rfl))
        | true => exact iteT ⟨_, rfl, yes H6 (s5.trans s6) (by rw [h1, h2]; rfl)⟩
    · rintro H3 ⟨sm, us, hD3, ru⟩
      rw [List.length_map, lts, List.take_length] at ru
      have sub : (joinR or sg rs sg' rs').Sublist (fulls (join sg sg')) := List.filter_sublist
      obtain ⟨qss, u1, u2, u3⟩ := handed_full (K := K) ru fun q hq => full_of ndj (sub.subset hq)
      have few := sub.length_le
      intro y dy hy hdy _
      refine made (b1 := true) (b2 := true) hy hdy (sm02.trans sm) (SqL.of (sm _ _ (sm2 _ _ hJ1))) (SqL.of hD3) n6 ndj goodj u1 u2 u3 (fun q hq => sub.subset hq) (by unfold joinR at few; omega) ?_
      show MadeR K C H Q (join sg sg') (allow (join sg sg') (joinR or sg rs sg' rs'))
      rw [allow_sub sub]
      exact k
end
end K6
namespace K6
open PySem PySem.Spec PyProof.Rows L2 LamX NdefX EV
section
variable {P : Program} {w : World} {K : PySem.W.Frag} {mg : Str → Option Value} {base : Heap} {f fI fK fT fL C : Addr} {fd fdI fdK fdT fdL : FuncData}
abbrev nTurned : List Str := ["self", "name", "row"]
theorem scTurned : FnScope nTurned ["self", "name"] (defScope sTurned) := ⟨rfl, rfl, rfl, by decide +kernel, rfl, by decide +kernel, by decide +kernel⟩
abbrev nSub : List Str := ["self", "name", "rest", "sign", "row"]
theorem scSub : FnScope nSub ["self", "name"] (defScope sSub) := ⟨rfl, rfl, rfl, by decide +kernel, rfl, by decide +kernel, by decide +kernel⟩
theorem ok_turned (F : Fun K "turned" "Rule.turned" sTurned f fd) (T : RTxt K mg C) (M : Mk K C fI) (GI : FnOk P w K mg base CX0 5 fI fdI psInit (spInit K C)) (bI : L2.Binds K fdI psInit [])
    (GK : FnOk P w K mg base CX0 1 fK fdK ["rule", "name"] (spChkSign K C)) (mK : mg "check_sign" = some (.ref fK)) (kK : PySem.W.keepIn K (.ref fK) = true) (bK : L2.Binds K fdK ["rule", "name"] [])
    (GT : FnOk P w K mg base CX0 2 fT fdT ["row", "name"] (spTurnRow K)) (mT : mg "turned_row" = some (.ref fT)) (kT : PySem.W.keepIn K (.ref fT) = true) (bT : L2.Binds K fdT ["row", "name"] []) :
    FnOk P w K mg base CX0 7 f fd ["self", "name"] (spTurned K C) := by
  refine F.ok scTurned (fun vs H Q E h => ?_) (fun cdv A outer s H vs Q E hr h => ?_)
  · obtain ⟨x, r, n, sg, rs, rfl, _⟩ := h
    rfl
  · obtain ⟨x, r, n, sg, rs, rfl, cx, Dr, hn, k⟩ := h
    have hu := hu_of hr
    have hr1 : Room 1 _ := hr.mono (by decide)
    have hr2 : Room 2 _ := hr.mono (by decide)
    have hr6 : Room 6 _ := hr.mono (by decide)
    refine ⟨_, pss_cons (ps_expr (pe_call GK hr1 (by rfl) mK kK bK .nil pass0 (pa_cons (pv 0) (pa_cons (pv 1) pa_nil))))
      (pss_one (ps_ret (pe_make M GI hr6 (by rfl) T.mgC bI .nil pass0 (pa_cons (pe_fld (pv 0) rfl) (pa_cons (pe_lock (pe_lc (own := [("row", 2)]) (g := gName 2) (tt := tYes) rfl scTurned.nd (pi_keys (pe_fld (pv 0) rfl)) (blkOk_by (N := nTurned) (sc := defScope sTurned) (by decide +kernel))
          (fun _ _ _ _ _ => pg_name (i := 2) scTurned.nd rfl (.inl rfl)) (fun _ _ _ _ _ => pts_nil) (fun _ _ _ _ _ => pe_call GT hr2 (by rfl) mT kT bT .nil pass0 (pa_cons (pv 2) (pa_cons (pv 1) pa_nil))))) pa_nil))))), ?_⟩
    obtain ⟨dx, a, pl, hx, ha, _, hr4⟩ := cx.at_
    have l6 := Dr.n6
    have l64 := Dr.few
    refine ⟨_, rfl, _, rfl, x, r, n, sg, rs, rfl, cx, hn, ?_⟩
    have n6R : sg.length ≤ 6 := l6
    have ndR := Dr.nd
    have goodR := Dr.good
    obtain ⟨H1, eH1⟩ : ∃ H1, H = H1 := ⟨_, rfl⟩
    have sm1 : Same H H1 := by rw [eH1]; exact Same.refl _
    have hx1 := sm1 _ _ hx
    have hd1 := sm1 _ _ hr4
    refine ⟨_, rfl, x, C, dx, _, _, rfl, hx, T.cl, T.n1, fl1 .., ?_⟩
    rw [eH1]
    refine ⟨r, _, hd1, trivial, fun od => ?_⟩
    have g0 : Grow r H1 (upd H1 r (.frz od (.dT (rs.map rowKv)))) := Grow.put
    have nxr : x ≠ r := ne_of hx1 hd1 fun z => nomatch z
    refine ⟨_, rfl, x, C, dx, _, _, rfl, (upd_ne nxr).trans hx1, T.cl, T.n3, fl3 .., r, od, rfl, .inr ⟨_, upd_same, fun L hL => lc_it walk_keysT (fun i H2 => H2 r = some (.frz od (.dT (rs.map rowKv))) ∧ (∃ us, H2 L = some (.lst (us.map V.ref)) ∧ Paired (fun a q => (a ≠ L ∧ a ≠ r) ∧ H2 a = some (.lst (q.map V.str))) us ((rs.take i).map (turnR n))) ∧ Grow r H1 H2) ?_ (fun i H2 _ hh => hh.1) ?_ ?_⟩⟩
    · have nrL : r ≠ L := ne_of_none (show upd H1 r (.frz od (.dT (rs.map rowKv))) r = some _ from upd_same) hL
      exact ⟨(upd_ne nrL).trans upd_same, ⟨[], upd_same, .nil⟩, fun c o nc e => (upd_ne (ne_of_none (g0 c o nc e) hL)).trans (g0 c o nc e)⟩
    · rintro i v H2 H3 hi ⟨hr2', ⟨us, hL2, ru⟩, g2⟩ ⟨rfl, kk, vv, q, hkv, rfl, hq⟩
      obtain ⟨row, hrow, ekv⟩ := get_map hkv
      injection ekv with ek ev
      rw [ek, kV_strs] at hq
      have rf := Dr.sub.subset (List.mem_of_getElem? hrow)
      obtain ⟨qs, eqs, rfl, gq⟩ := full_names Dr.good rf
      have lqs : qs.length ≤ 60 := by
        have z := congrArg List.length eqs
        rw [List.length_map] at z
        omega
      have er : rs.take (i + 1) = rs.take i ++ [qs.map lit] := by rw [List.take_succ, hrow]; rfl
      have lus : us.length ≤ 64 := by
        have z1 := Paired.length ru
        rw [List.length_map, List.length_take] at z1
        omega
      refine ⟨rfl, _, rfl, _, rfl, q, n, qs, rfl, (fun H' s' => SqT.of (s' _ _ hq)), gq, lqs, fun p H4 hp hp4 sm4 => ?_⟩
      have npL : p ≠ L := (ne_of_none hL2 hp).symm
      have npr : p ≠ r := (ne_of_none hr2' hp).symm
      have hL4 := sm4 _ _ hL2
      have hL1 : H1 L = none := by
        have y := hL
        rwa [upd_ne (ne_of_none (show upd H1 r (.frz od (.dT (rs.map rowKv))) r = some _ from upd_same) hL).symm] at y
      have nrL : r ≠ L := ne_of hr2' hL2 fun z => nomatch z
      refine ⟨_, hL4, by rw [List.length_map, sizeLine_eq]; omega, (upd_ne nrL).trans (sm4 _ _ hr2'), ⟨us ++ [p], by rw [upd_same, List.map_append]; rfl, ?_⟩, fun c o nc e => (upd_ne (ne_of_none e hL1)).trans (sm4 _ _ (g2 c o nc e))⟩
      rw [er, List.map_append]
      refine Paired.snoc (Paired.mapP ru fun b z y => ⟨y.1, (upd_ne y.1.1).trans (sm4 _ _ y.2)⟩) ⟨⟨npL, npr⟩, (upd_ne npL).trans ?_⟩
      rw [turnR_lit gq]
      exact hp4
    · rintro H2 ⟨hr2', ⟨us, hL2, ru⟩, g2⟩
      rw [List.length_map, List.take_length] at ru
      have nrL : L ≠ r := ne_of hL2 hr2' fun z => nomatch z
      have sm3 : Same H1 (upd H2 r (.dT (rs.map rowKv))) := fun c o e => by
        by_cases q : c = r
        · rw [q, hd1] at e
          rw [q, upd_same, e]
        · exact (upd_ne q).trans (g2 c o q e)
      have full : ∀ q ∈ rs.map (turnR n), q ∈ fulls sg := fun q hq => by
        obtain ⟨r0, hr0, rfl⟩ := List.mem_map.mp hq
        exact turnR_full Dr.good (Dr.sub.subset hr0)
      obtain ⟨qss, u1, u2, u3⟩ := handed_lists (K := K) (H := upd H2 r (.dT (rs.map rowKv))) (sg := sg) (Paired.mapP ru fun a q z => (upd_ne z.1.2).trans z.2) fun q hq => full_of ndR (full q hq)
      refine ⟨hr2', fun y dy hy hdy _ => ?_⟩
      exact made (H := upd H2 r (.dT (rs.map rowKv))) (b1 := false) (b2 := true) hy hdy (sm1.trans sm3) (ha _ (sm1.trans sm3)) (SqL.of ((upd_ne nrL).trans hL2)) n6R ndR goodR u1 u2 u3 full (by rw [List.length_map]; omega) k
theorem ok_sub (F : Fun K "__sub__" "Rule.__sub__" sSub f fd) (T : RTxt K mg C) (M : Mk K C fI) (GI : FnOk P w K mg base CX0 5 fI fdI psInit (spInit K C)) (bI : L2.Binds K fdI psInit [])
    (GK : FnOk P w K mg base CX0 1 fK fdK ["rule", "name"] (spChkSign K C)) (mK : mg "check_sign" = some (.ref fK)) (kK : PySem.W.keepIn K (.ref fK) = true) (bK : L2.Binds K fdK ["rule", "name"] [])
    (GT : FnOk P w K mg base CX0 2 fT fdT ["row", "name"] (spRowWithout K)) (mT : mg "row_without" = some (.ref fT)) (kT : PySem.W.keepIn K (.ref fT) = true) (bT : L2.Binds K fdT ["row", "name"] []) :
    FnOk P w K mg base CX0 7 f fd ["self", "name"] (spSub K C) := by
  refine F.ok scSub (fun vs H Q E h => ?_) (fun cdv A outer s H vs Q E hr h => ?_)
  · obtain ⟨x, r, n, sg, rs, rfl, _⟩ := h
    rfl
  · obtain ⟨x, r, n, sg, rs, rfl, cx, Dr, hn, k⟩ := h
    have hu := hu_of hr
    have hr1 : Room 1 _ := hr.mono (by decide)
    have hr2 : Room 2 _ := hr.mono (by decide)
    have hr6 : Room 6 _ := hr.mono (by decide)
    refine ⟨_, pss_cons (ps_expr (pe_call GK hr1 (by rfl) mK kK bK .nil pass0 (pa_cons (pv 0) (pa_cons (pv 1) pa_nil))))
      (pss_cons (ps_setLc (i := 2) (own := [("sign", 3)]) (g := gName 3) (by rfl) scSub.nd rfl rfl (sw_true rfl rfl rfl (by decide +kernel)) (pi_seq (pe_fld (pv 0) rfl)) (blkOk_by (N := nSub) (sc := defScope sSub) (by decide +kernel))
          (fun _ _ _ _ _ => pg_name (i := 3) scSub.nd rfl (.inl rfl)) (fun _ _ _ _ _ => pts_one (pt_cmpR op_ne (pv 3) (pv 1) (nomark _))) (fun _ _ _ _ _ => pv 3))
      (pss_one (ps_ret (pe_make M GI hr6 (by rfl) T.mgC bI .nil pass0 (pa_cons (pv 2) (pa_cons (pe_lock (pe_lc (own := [("row", 4)]) (g := gName 4) (tt := tYes) rfl scSub.nd (pi_keys (pe_fld (pv 0) rfl)) (blkOk_by (N := nSub) (sc := defScope sSub) (by decide +kernel))
          (fun _ _ _ _ _ => pg_name (i := 4) scSub.nd rfl (.inl rfl)) (fun _ _ _ _ _ => pts_nil) (fun _ _ _ _ _ => pe_call GT hr2 (by rfl) mT kT bT .nil pass0 (pa_cons (pv 4) (pa_cons (pv 1) pa_nil))))) pa_nil)))))), ?_⟩
    obtain ⟨dx, a, pl, hx, ha, _, hr4⟩ := cx.at_
    have l6 := Dr.n6
    have l64 := Dr.few
    refine ⟨_, rfl, _, rfl, x, r, n, sg, rs, rfl, cx, hn, ?_⟩
    have lrest : (rest n sg).length ≤ sg.length := List.length_filter_le _ _
    have n6R : (rest n sg).length ≤ 6 := by omega
    have ndR : (rest n sg).Nodup := Dr.nd.filter _
    have goodR : ∀ z ∈ rest n sg, Name1 z := fun z hz => Dr.good z (List.mem_filter.mp hz).1
    refine ⟨_, rfl, x, C, dx, _, _, rfl, hx, T.cl, T.n1, fl1 .., false, a, _, rfl, ha H (Same.refl H), fun W hW => lc_it walk_sq (fun i H2 => Same H H2 ∧ H2 W = some (.lst ((rest n (sg.take i)).map V.str))) ⟨same_new hW, upd_same⟩ (fun i H2 _ hh => ha _ hh.1) ?_ ?_⟩
    · rintro i v H2 H3 hi ⟨sm, hW2⟩ ⟨rfl, hv⟩
      obtain ⟨z, hz, rfl⟩ := get_map hv
      have er : sg.take (i + 1) = sg.take i ++ [z] := by rw [List.take_succ, hz]; rfl
      have lt := List.length_take_le' i sg
      have lf : (rest n (sg.take i)).length ≤ (sg.take i).length := List.length_filter_le _ _
      refine ⟨rfl, _, rfl, _, rfl, rfl, _, rfl, ?_⟩
      by_cases e : z = n
      · have e2 : (!decide (V.str z = V.str n)) = false := by rw [decide_eq_true (by rw [e])]; rfl
        rw [e2]
        refine iteF ⟨sm, ?_⟩
        rw [hW2, er]
        unfold rest
        rw [List.filter_append, List.filter_cons, if_neg (by rw [decide_eq_false (fun h => h e)]; decide), List.filter_nil, List.append_nil]
      · have e2 : (!decide (V.str z = V.str n)) = true := by rw [decide_eq_false fun h => e (by injection h)]; rfl
        rw [e2]
        refine iteT ⟨_, rfl, _, hW2, by rw [List.length_map, sizeLine_eq]; omega, fun c o h => (upd_ne (ne_of_none h hW)).trans (sm c o h), ?_⟩
        rw [upd_same, er]
        unfold rest
        rw [List.filter_append, List.filter_cons, if_pos (decide_eq_true e), List.map_append]
        rfl
    rintro H1 ⟨sm1, hW1⟩
    rw [List.length_map, List.take_length] at hW1
    have hx1 := sm1 _ _ hx
    have hd1 := sm1 _ _ hr4
    refine ⟨_, rfl, r, _, hd1, trivial, fun od => ?_⟩
    have g0 : Grow r H1 (upd H1 r (.frz od (.dT (rs.map rowKv)))) := Grow.put
    have nxr : x ≠ r := ne_of hx1 hd1 fun z => nomatch z
    refine ⟨_, rfl, x, C, dx, _, _, rfl, (upd_ne nxr).trans hx1, T.cl, T.n3, fl3 .., r, od, rfl, .inr ⟨_, upd_same, fun L hL => lc_it walk_keysT (fun i H2 => H2 r = some (.frz od (.dT (rs.map rowKv))) ∧ (∃ us, H2 L = some (.lst (us.map V.ref)) ∧ Paired (fun a q => (a ≠ L ∧ a ≠ r) ∧ H2 a = some (.lst (q.map V.str))) us ((rs.take i).map (woR n))) ∧ Grow r H1 H2) ?_ (fun i H2 _ hh => hh.1) ?_ ?_⟩⟩
    · have nrL : r ≠ L := ne_of_none (show upd H1 r (.frz od (.dT (rs.map rowKv))) r = some _ from upd_same) hL
      exact ⟨(upd_ne nrL).trans upd_same, ⟨[], upd_same, .nil⟩, fun c o nc e => (upd_ne (ne_of_none (g0 c o nc e) hL)).trans (g0 c o nc e)⟩
    · rintro i v H2 H3 hi ⟨hr2', ⟨us, hL2, ru⟩, g2⟩ ⟨rfl, kk, vv, q, hkv, rfl, hq⟩
      obtain ⟨row, hrow, ekv⟩ := get_map hkv
      injection ekv with ek ev
      rw [ek, kV_strs] at hq
      have rf := Dr.sub.subset (List.mem_of_getElem? hrow)
      obtain ⟨qs, eqs, rfl, gq⟩ := full_names Dr.good rf
      have lqs : qs.length ≤ 60 := by
        have z := congrArg List.length eqs
        rw [List.length_map] at z
        omega
      have er : rs.take (i + 1) = rs.take i ++ [qs.map lit] := by rw [List.take_succ, hrow]; rfl
      have lus : us.length ≤ 64 := by
        have z1 := Paired.length ru
        rw [List.length_map, List.length_take] at z1
        omega
      refine ⟨rfl, _, rfl, _, rfl, q, n, qs, rfl, (fun H' s' => SqT.of (s' _ _ hq)), gq, lqs, fun p H4 hp hp4 sm4 => ?_⟩
      have npL : p ≠ L := (ne_of_none hL2 hp).symm
      have npr : p ≠ r := (ne_of_none hr2' hp).symm
      have hL4 := sm4 _ _ hL2
      have hL1 : H1 L = none := by
        have y := hL
        rwa [upd_ne (ne_of_none (show upd H1 r (.frz od (.dT (rs.map rowKv))) r = some _ from upd_same) hL).symm] at y
      have nrL : r ≠ L := ne_of hr2' hL2 fun z => nomatch z
      refine ⟨_, hL4, by rw [List.length_map, sizeLine_eq]; omega, (upd_ne nrL).trans (sm4 _ _ hr2'), ⟨us ++ [p], by rw [upd_same, List.map_append]; rfl, ?_⟩, fun c o nc e => (upd_ne (ne_of_none e hL1)).trans (sm4 _ _ (g2 c o nc e))⟩
      rw [er, List.map_append]
      refine Paired.snoc (Paired.mapP ru fun b z y => ⟨y.1, (upd_ne y.1.1).trans (sm4 _ _ y.2)⟩) ⟨⟨npL, npr⟩, (upd_ne npL).trans ?_⟩
      rw [woR_lit gq]
      exact hp4
    · rintro H2 ⟨hr2', ⟨us, hL2, ru⟩, g2⟩
      rw [List.length_map, List.take_length] at ru
      have nrL : L ≠ r := ne_of hL2 hr2' fun z => nomatch z
      have sm3 : Same H1 (upd H2 r (.dT (rs.map rowKv))) := fun c o e => by
        by_cases q : c = r
        · rw [q, hd1] at e
          rw [q, upd_same, e]
        · exact (upd_ne q).trans (g2 c o q e)
      have full : ∀ q ∈ rs.map (woR n), q ∈ fulls (rest n sg) := fun q hq => by
        obtain ⟨r0, hr0, rfl⟩ := List.mem_map.mp hq
        exact woR_full Dr.good (Dr.sub.subset hr0)
      obtain ⟨qss, u1, u2, u3⟩ := handed_lists (K := K) (H := upd H2 r (.dT (rs.map rowKv))) (sg := rest n sg) (Paired.mapP ru fun a q z => (upd_ne z.1.2).trans z.2) fun q hq => full_of ndR (full q hq)
      refine ⟨hr2', fun y dy hy hdy _ => ?_⟩
      exact made (H := upd H2 r (.dT (rs.map rowKv))) (b1 := true) (b2 := true) hy hdy (sm1.trans sm3) (SqL.of (sm3 _ _ hW1)) (SqL.of ((upd_ne nrL).trans hL2)) n6R ndR goodR u1 u2 u3 full (by rw [List.length_map]; omega) k
theorem scLt : FnScope ["self", "other"] ["self", "other"] (defScope sLt) := ⟨rfl, rfl, rfl, by decide +kernel, rfl, by decide +kernel, by decide +kernel⟩
theorem ok_lt (F : Fun K "__lt__" "Rule.__lt__" sLt f fd) (T : RTxt K mg C) (TI : CIs K C) (nf : PySem.W.notFirst K C (.ref C) = true)
    (GL : FnOk P w K mg base CX0 6 fL fdL ["self", "other"] (spLe K C)) (hs : PySem.W.findIn K (.ref C) "__le__" = some (some (.ref fL))) (hf : PySem.W.isFn K (.ref fL) = true) (bL : L2.Binds K fdL ["self", "other"] []) :
    FnOk P w K mg base CX0 7 f fd ["self", "other"] (spLt K C) := by
  refine F.ok scLt (fun vs H Q E h => ?_) (fun cdv A' outer s H vs Q E hr h => ?_)
  · obtain ⟨x, y, sg, sg', rs, rs', r, r', rfl, _⟩ := h
    rfl
  · obtain ⟨x, y, sg, sg', rs, rs', r, r', rfl, cx, cy, ner, n1, n2, d1, d2, good', rows, few, k⟩ := h
    have hr6 : Room 6 _ := hr.mono (by decide)
    refine ⟨_, pss_one (ps_ret (pe_and (pe_cmpR (op_leOwn GL hs hf bL pass0 hr6) (pv 0) (pv 1) (nomark _))
        (pe_one (pe_cmpR op_lt (pe_callB call_len_dT (by rfl) T.len PySem.boot_len (pa_cons (pe_fld (pv 0) rfl) pa_nil)) (pe_callB call_len_dT (by rfl) T.len PySem.boot_len (pa_cons (pe_fld (pv 1) rfl) pa_nil)) (nomark _))))), ?_⟩
    obtain ⟨dx, a, pl, hx, _, _, hr4⟩ := cx.at_
    obtain ⟨dy, a', pl', hy, _, _, hr4'⟩ := cy.at_
    have tyy : TyX K H (.ref y) (.ref C) := .base (.ins hy T.cl TI.cl TI.gt TI.tk TI.ob)
    refine ⟨_, rfl, _, rfl, .ref C, tyy, nf, x, dx, _, rfl, hx, x, y, sg, sg', rs, rs', r, r', rfl, cx, cy, ner, n1, n2, d1, d2, good', rows, few, fun H1 sm1 => ⟨_, rfl, _, rfl, ?_⟩⟩
    cases e1 : leR sg rs sg' rs' with
    | false =>
      have z := k H1 sm1
      rw [e1] at z
      exact iteF z
    | true =>
      refine iteT ⟨_, rfl, x, C, dx, _, _, rfl, sm1 _ _ hx, T.cl, T.n3, fl3 .., r, _, rfl, sm1 _ _ hr4, _, rfl, y, C, dy, _, _, rfl, sm1 _ _ hy, T.cl, T.n3, fl3 .., r', _, rfl, sm1 _ _ hr4', _, _, rfl, rfl, ?_⟩
      have eL : decide ((((rs.map rowKv).length : Nat) : Int) < (((rs'.map rowKv).length : Nat) : Int)) = decide (rs.length < rs'.length) := by
        rw [List.length_map, List.length_map]
        exact decide_eq_decide.mpr (by omega)
      have z := k H1 sm1
      rw [e1] at z
      show Q (.bl (decide ((((rs.map rowKv).length : Nat) : Int) < (((rs'.map rowKv).length : Nat) : Int)))) H1
      rw [eL]
      exact z
end
end K6
namespace K6
open PySem PySem.Spec PyProof.Rows L2 LamX NdefX EV
/-! ### the law's own small defs -/
theorem cut_first {q : Bool × Str} (g : Name1 q.2) : (cutS (lit q) none (some 1) = Str.ofString "-" ↔ q.1 = true) := by
  have e1 : ∀ z : Str, 1 ≤ z.length → cutS z none (some 1) = Str.mk ((z.cps.toList.take 1).toArray) := fun z hz => by
    unfold cutS
    rw [HT.sIx_none, show HT.sIx z.length z.length (some 1) = min 1 z.length from HT.sIx_nat _ _ 1, Nat.min_eq_left hz, List.drop_zero]
  obtain ⟨b, n⟩ := q
  obtain ⟨g1, g2, g3⟩ := g
  replace g1 : 1 ≤ n.length := g1
  replace g3 : ∀ ch ∈ n.cps.toList, 97 ≤ ch ∧ ch ≤ 122 := g3
  cases b
  · have z : cutS (lit (false, n)) none (some 1) = Str.mk ((n.cps.toList.take 1).toArray) := e1 n g1
    rw [z]
    refine ⟨fun h => ?_, fun h => nomatch h⟩
    cases e : n.cps.toList with
    | nil =>
      have y : n.length = n.cps.toList.length := (Array.length_toList).symm
      rw [e] at y
      simp at y
      omega
    | cons c t =>
      rw [e] at h
      have h2 := congrArg (fun s : Str => s.cps.toList) h
      replace h2 : [c] = [45] := h2
      have c45 : c = 45 := by injection h2
      have := (g3 c (by rw [e]; exact List.mem_cons_self)).1
      omega
  · have z : cutS (lit (true, n)) none (some 1) = Str.mk (((neg n).cps.toList.take 1).toArray) := e1 (neg n) (by rw [neg_len]; omega)
    rw [z, neg_list]
    exact ⟨fun _ => rfl, fun _ => rfl⟩
def spBare : Sp := fun vs H Q _ => ∃ q : Bool × Str, vs = [.str (lit q)] ∧ Name1 q.2 ∧ Q (.str q.2) H
section
variable {P : Program} {w : World} {K : PySem.W.Frag} {mg : Str → Option Value} {base : Heap} {f fS C : Addr} {fd fdS : FuncData}
theorem scNeg : FnScope ["_law_one"] ["_law_one"] (defScope sNeg) := ⟨rfl, rfl, rfl, by decide +kernel, rfl, by decide +kernel, by decide +kernel⟩
theorem ok_neg (F : Fun K "_law_neg" "_law_neg" sNeg f fd) : FnOk P w K mg base CX0 1 f fd ["_law_one"] spOpp := by
  refine F.ok scNeg (fun vs H Q E h => ?_) (fun cdv A outer s H vs Q E hr h => ?_)
  · obtain ⟨q, rfl, _⟩ := h
    rfl
  · obtain ⟨q, rfl, good, k⟩ := h
    have n8 := good.2.1
    refine ⟨_, pss_one (ps_ret (pe_ifExp (pt_cmpR op_eq (pe_slice sl_str (pv 0) po_none (po_some pe_int)) pe_str (nomark _)) (pe_slice sl_str (pv 0) (po_some pe_int) po_none) (pe_op op_add_str pe_str (pv 0)))), ?_⟩
    have ll : (lit q).length ≤ sizeLine := by
      obtain ⟨b, n⟩ := q
      replace n8 : n.length ≤ 8 := n8
      cases b
      · show n.length ≤ _
        rw [sizeLine_eq]; omega
      · show (neg n).length ≤ _
        rw [neg_len, sizeLine_eq]; omega
    refine ⟨_, rfl, _, rfl, lit q, rfl, ll, rfl, _, rfl, ?_⟩
    obtain ⟨b, n⟩ := q
    replace n8 : n.length ≤ 8 := n8
    cases b
    · have e : decide (V.str (cutS (lit (false, n)) none (some 1)) = V.str (Str.ofString "-")) = false := decide_eq_false fun h => by
        injection h with h
        exact Bool.noConfusion ((cut_first good).mp h)
      rw [e]
      refine iteF ⟨_, rfl, _, _, rfl, rfl, ?_, k⟩
      show 1 + n.length ≤ sizeLine
      rw [sizeLine_eq]; omega
    · have e : decide (V.str (cutS (lit (true, n)) none (some 1)) = V.str (Str.ofString "-")) = true := decide_eq_true (by rw [(cut_first (q := (true, n)) good).mpr rfl])
      rw [e]
      refine iteT ⟨_, rfl, _, rfl, lit (true, n), rfl, ll, ?_⟩
      rw [show cutS (lit (true, n)) (some 1) none = n from cut_neg n]
      exact k
theorem scBare : FnScope ["_law_one"] ["_law_one"] (defScope sBare) := ⟨rfl, rfl, rfl, by decide +kernel, rfl, by decide +kernel, by decide +kernel⟩
theorem ok_bare (F : Fun K "_law_bare" "_law_bare" sBare f fd) : FnOk P w K mg base CX0 1 f fd ["_law_one"] spBare := by
  refine F.ok scBare (fun vs H Q E h => ?_) (fun cdv A outer s H vs Q E hr h => ?_)
  · obtain ⟨q, rfl, _⟩ := h
    rfl
  · obtain ⟨q, rfl, good, k⟩ := h
    have n8 := good.2.1
    refine ⟨_, pss_one (ps_ret (pe_ifExp (pt_cmpR op_eq (pe_slice sl_str (pv 0) po_none (po_some pe_int)) pe_str (nomark _)) (pe_slice sl_str (pv 0) (po_some pe_int) po_none) (pv 0))), ?_⟩
    have ll : (lit q).length ≤ sizeLine := by
      obtain ⟨b, n⟩ := q
      replace n8 : n.length ≤ 8 := n8
      cases b
      · show n.length ≤ _
        rw [sizeLine_eq]; omega
      · show (neg n).length ≤ _
        rw [neg_len, sizeLine_eq]; omega
    refine ⟨_, rfl, _, rfl, lit q, rfl, ll, rfl, _, rfl, ?_⟩
    obtain ⟨b, n⟩ := q
    cases b
    · have e : decide (V.str (cutS (lit (false, n)) none (some 1)) = V.str (Str.ofString "-")) = false := decide_eq_false fun h => by
        injection h with h
        exact Bool.noConfusion ((cut_first good).mp h)
      rw [e]
      exact iteF ⟨_, rfl, k⟩
    · have e : decide (V.str (cutS (lit (true, n)) none (some 1)) = V.str (Str.ofString "-")) = true := decide_eq_true (by rw [(cut_first (q := (true, n)) good).mpr rfl])
      rw [e]
      refine iteT ⟨_, rfl, _, rfl, lit (true, n), rfl, ll, ?_⟩
      rw [show cutS (lit (true, n)) (some 1) none = n from cut_neg n]
      exact k
end
/-! ### what a rule is -/
def dataOf (sg : List Str) (rs : List (List Str)) : PyData := .list [.list (sg.map PyData.str), .list (rs.map fun r => PyData.tuple (r.map PyData.str))]
theorem dataOf_small {sg : List Str} {rs : List (List Str)} (D : Draw2 sg rs) : Small (dataOf sg rs) 6000 := by
  have l6 := D.n6
  have l64 := D.few
  obtain ⟨a1, a2, a3, a4⟩ := small_list (small_names (by omega) D.good)
  obtain ⟨c1, c2, c3, c4⟩ := small_list (small_allowed (by omega) D.good D.full)
  have bk : ((9 + 1) * 7 + 1) * rs.length ≤ 4600 := by omega
  have all := SmallAll.cons (m := 9) a1 a2 a3 (by omega) (.cons (m := 9) c1 (Nat.le_trans c2 bk) c3 (by omega) SmallAll.nil)
  obtain ⟨e1, e2, e3, e4⟩ := small_list all
  have e4' : (dataOf sg rs).depth ≤ 9 + 1 := e4
  exact ⟨e1, Nat.le_trans e2 (by decide), e3, by omega⟩
def spIs (K : PySem.W.Frag) (C : Addr) : Sp := fun vs H Q _ => ∃ (x r ps pr : Addr) (sg : List Str) (ts : List Addr) (rs : List (List Str)), vs = [.ref x, .ref ps, .ref pr] ∧ RuleR K C H x sg rs r ∧ H ps = some (.lst (sg.map V.str)) ∧ H pr = some (.lst (ts.map V.ref)) ∧ RowsAt H ts rs ∧ Draw2 sg rs ∧ ∀ H', Same H H' → Q (.bl true) H'
section
variable {P : Program} {w : World} {K : PySem.W.Frag} {mg : Str → Option Value} {base : Heap} {f fS f1 f3 C : Addr} {fd fdS fd1 fd3 : FuncData}
theorem scIs : FnScope ["_law_rule", "_law_signs", "_law_allowed"] ["_law_rule", "_law_signs", "_law_allowed"] (defScope sIs) := ⟨rfl, rfl, rfl, by decide +kernel, rfl, by decide +kernel, by decide +kernel⟩
theorem ok_is (F : Fun K "_law_is" "_law_is" sIs f fd) (T : RTxt K mg C)
    (GS : FnG P w K mg base 1 fS fdS ["_law_found", "_law_due"] (spSameP K)) (mS : mg "_law_same" = some (.ref fS)) (kS : PySem.W.keepIn K (.ref fS) = true) (bS : L2.Binds K fdS ["_law_found", "_law_due"] [])
    (G1 : FnOk P w K mg base CX0 1 f1 fd1 ["self"] (spSigns K C)) (m1 : Meth K C "signs" f1) (b1 : L2.Binds K fd1 ["self"] [])
    (G3 : FnOk P w K mg base CX0 1 f3 fd3 ["self"] (spSettings K C)) (m3 : Meth K C "settings" f3) (b3 : L2.Binds K fd3 ["self"] []) :
    FnG P w K mg base 2 f fd ["_law_rule", "_law_signs", "_law_allowed"] (spIs K C) := by
  refine fng_of F scIs (fun vs H Q E h => ?_) (fun cdv A outer s H vs Q E hg hr h => ?_)
  · obtain ⟨x, r, ps, pr, sg, ts, rs, rfl, _⟩ := h
    rfl
  · obtain ⟨x, r, ps, pr, sg, ts, rs, rfl, cx, hps, hpr, rows, D, k⟩ := h
    have hr1 : Room 1 _ := hr.mono (by decide)
    refine ⟨_, pss_one (ps_ret (pe_callG GS hg hr1 (by rfl) mS kS bS (pa_cons (pe_lst (pa_cons (pe_meth0 (pv 0) T.cl m1 G1 hr1 b1 .nil pass0) (pa_cons (pe_meth0 (pv 0) T.cl m3 G3 hr1 b3 .nil pass0) pa_nil))) (pa_cons (pe_lst (pa_cons (pv 1) (pa_cons (pv 2) pa_nil))) pa_nil)))), ?_⟩
    obtain ⟨dx, a, pl, hx, _⟩ := cx.at_
    refine ⟨_, rfl, x, dx, _, rfl, hx, fl_no (by decide +kernel), x, r, sg, rs, rfl, cx, fun p1 hp1 => ?_⟩
    have s1 : Same H _ := same_new (o := .lst (sg.map V.str)) hp1
    refine ⟨_, rfl, x, dx, _, rfl, s1 _ _ hx, fl_no (by decide +kernel), x, r, sg, rs, rfl, cx.same s1, fun p2 ts' hp2 hrs => ?_⟩
    have s2 : Same H _ := s1.trans (same_new (o := .lst (ts'.map V.ref)) hp2)
    have w1 := (same_new (o := .lst (ts'.map V.ref)) hp2) _ _ (upd_same (H := H) (a := p1) (o := .lst (sg.map V.str)))
    have w2 := upd_same (H := upd H p1 (.lst (sg.map V.str))) (a := p2) (o := .lst (ts'.map V.ref))
    have hrs2 : RowsAt _ ts' rs := RowsAt.same (same_new (o := .lst (ts'.map V.ref)) hp2) hrs
    generalize upd (upd H p1 (.lst (sg.map V.str))) p2 (.lst (ts'.map V.ref)) = H2 at s2 w1 w2 hrs2 ⊢
    refine ⟨by show 2 ≤ sizeLine; decide, fun L hL => ?_⟩
    have s3 : Same H2 _ := same_new (o := .lst [.ref p1, .ref p2]) hL
    have wL := upd_same (H := H2) (a := L) (o := .lst [.ref p1, .ref p2])
    generalize upd H2 L (.lst [.ref p1, .ref p2]) = H3 at s3 wL ⊢
    refine ⟨_, rfl, _, rfl, by show 2 ≤ sizeLine; decide, fun M hM => ?_⟩
    have s4 : Same H3 _ := same_new (o := .lst [.ref ps, .ref pr]) hM
    have s24 := s3.trans s4
    have s04 := s2.trans s24
    exact ⟨.ref L, .ref M, dataOf sg rs, 6000, rfl, .lst (SqL.of (s4 _ _ wL)) (.cons (.lst (SqL.of (s24 _ _ w1)) (dp_strs sg)) (.cons (.lst (SqL.of (s24 _ _ w2)) (RowsAt.lift (hrs2.same s24))) .nil)),
      .lst (SqL.of upd_same) (.cons (.lst (SqL.of (s04 _ _ hps)) (dp_strs sg)) (.cons (.lst (SqL.of (s04 _ _ hpr)) (RowsAt.lift (rows.same s04))) .nil)), dataOf_small D, by decide, k _ s04⟩
end
end K6
namespace K6
open PySem PySem.Spec PyProof.Rows L2 LamX NdefX EV
/-! ### a row among rows -/
section
variable {X : Cx} {pins : List (Addr × Obj)} {σ : L2.St} {H : Hp} {s : Shared}
noncomputable def isAt (H : Hp) (q : List Str) (a : Addr) : Bool := @decide (H a = some (.tup (q.map V.str))) (Classical.propDecidable _)
theorem isAt_iff {H : Hp} {q : List Str} {a : Addr} : isAt H q a = true ↔ H a = some (.tup (q.map V.str)) := by
  unfold isAt
  exact @decide_eq_true_iff _ (Classical.propDecidable _)
noncomputable def isRow (H : Hp) (q : List Str) : Value → Bool
  | .ref a => isAt H q a
  | _ => false
theorem str_inj {a b : List Str} (h : a.map V.str = b.map V.str) : a = b := by
  induction a generalizing b with
  | nil =>
    cases b with
    | nil => rfl
    | cons y ys => exact nomatch h
  | cons x xs ih =>
    cases b with
    | nil => exact nomatch h
    | cons y ys =>
      rw [List.map_cons, List.map_cons] at h
      injection h with h1 h2
      injection h1 with h1
      rw [h1, ih h2]
theorem rows_any {q : List Str} : ∀ {ts : List Addr} {rs : List (List Str)} {us : List Value}, RowsAt H ts rs → Vals (ts.map V.ref) us → us.any (isRow H q) = decide (q ∈ rs)
  | [], [], _, _, .nil => rfl
  | t :: ts, r :: rs, u :: us, .cons h tl, .cons e vl => by
    have ih := rows_any (q := q) tl vl
    cases e
    rw [List.any_cons, ih]
    have h' : H t = some (.tup (r.map V.str)) := h
    by_cases m : q = r
    · have z : isRow H q (.ref t) = true := isAt_iff.mpr (by rw [m]; exact h')
      rw [z, Bool.true_or, decide_eq_true (by rw [m]; exact List.mem_cons_self)]
    · have z : isRow H q (.ref t) = false := Bool.eq_false_iff.mpr fun y => m (by
        replace y := isAt_iff.mp y
        rw [h'] at y
        injection y with y
        injection y with y
        exact (str_inj y).symm)
      rw [z, Bool.false_or]
      refine decide_eq_decide.mpr ⟨fun y => List.mem_cons_of_mem _ y, fun y => ?_⟩
      rcases List.mem_cons.mp y with y | y
      · exact absurd y m
      · exact y
theorem rows_eqAt (I : Inv X pins σ H s) (hu : X.A.units + 1 < cLine) {x : Addr} {q : List Str} (hx : H x = some (.tup (q.map V.str))) : ∀ {ts : List Addr} {rs : List (List Str)} {us : List Value}, RowsAt H ts rs → Vals (ts.map V.ref) us → ∀ y ∈ us, SeqAt.EqAt X.A.in1 s y (.ref x) (isRow H q y)
  | [], [], _, _, .nil => fun y hy => nomatch hy
  | t :: ts, r :: rs, u :: us, .cons h tl, .cons e vl => fun y hy => by
    rcases List.mem_cons.mp hy with rfl | hy
    · cases e
      intro prog w E Q hQ
      have hu1 : X.A.in1.units < cLine := by
        show X.A.units + 1 < cLine
        omega
      obtain ⟨its, r1, ⟨o, ho, hc, n, hd⟩, _⟩ := I.tuple (SqT.of (show H t = some (.tup (r.map V.str)) from h))
      obtain ⟨its2, r2, ⟨o2, ho2, hc2, n2, hd2⟩, _⟩ := I.tuple (SqT.of hx)
      have a1 : IsTupleKey (mixKind prog w) s.heap (r.map (Sum.inr : Str → Key)) t := ⟨o, _, n, ho, hc, hd, by rw [List.toList_toArray]; exact items_are (by rw [kV_strs]; exact r1)⟩
      have a2 : IsTupleKey (mixKind prog w) s.heap (q.map (Sum.inr : Str → Key)) x := ⟨o2, _, n2, ho2, hc2, hd2, by rw [List.toList_toArray]; exact items_are (by rw [kV_strs]; exact r2)⟩
      refine wpAny_eqBool_tuple hu1 a1 a2 ?_
      have z : isRow H q (.ref t) = decide (r.map (Sum.inr : Str → Key) = q.map Sum.inr) := by
        refine Bool.eq_iff_iff.mpr (isAt_iff.trans (Iff.trans ⟨fun y => ?_, fun y => ?_⟩ decide_eq_true_iff.symm))
        · rw [show H t = some (.tup (r.map V.str)) from h] at y
          injection y with y
          injection y with y
          rw [str_inj y]
        · rw [inr_inj y] at h
          exact h
      rw [← z]
      exact hQ
    · exact rows_eqAt I hu hx tl vl y hy
end
/-- a row in a list of rows -/
def rInR (K : PySem.W.Frag) : R2 := fun x y H Q => ∃ (t p : Addr) (q : List Str) (ts : List Addr) (rs : List (List Str)), x = .ref t ∧ H t = some (.tup (q.map V.str)) ∧ y = .ref p ∧ SqL K H p (ts.map V.ref) ∧ RowsAt H ts rs ∧ Q (.bl (decide (q ∈ rs))) H
def rNotR (K : PySem.W.Frag) : R2 := fun x y H Q => ∃ (t p : Addr) (q : List Str) (ts : List Addr) (rs : List (List Str)), x = .ref t ∧ H t = some (.tup (q.map V.str)) ∧ y = .ref p ∧ SqL K H p (ts.map V.ref) ∧ RowsAt H ts rs ∧ Q (.bl (!decide (q ∈ rs))) H
section
variable {X : Cx}
theorem op_inRows (hu : X.A.units + 1 < cLine) : OpR X (compareOp .In) (rInR X.K) := by
  intro pins s σ H x y v u Q I rx ry h
  obtain ⟨t, p, q, ts, rs, rfl, ht, rfl, hp, rows, k⟩ := h
  cases rx
  cases ry
  obtain ⟨its, r, pl, hz⟩ := I.list hp
  refine SeqAt.in_listAt (isRow H q) pl.isList (fun w hw => rows_eqAt I hu ht rows r w (by simpa using hw)) ⟨.bl _, H, I, rfl, ?_⟩
  rw [show its.toArray.any (isRow H q) = its.any (isRow H q) by simp, rows_any rows r]
  exact k
theorem op_notInRows (hu : X.A.units + 1 < cLine) : OpR X (compareOp .NotIn) (rNotR X.K) := by
  intro pins s σ H x y v u Q I rx ry h
  obtain ⟨t, p, q, ts, rs, rfl, ht, rfl, hp, rows, k⟩ := h
  cases rx
  cases ry
  obtain ⟨its, r, pl, hz⟩ := I.list hp
  refine SeqAt.notIn_listAt (isRow H q) pl.isList (fun w hw => rows_eqAt I hu ht rows r w (by simpa using hw)) ⟨.bl _, H, I, rfl, ?_⟩
  rw [show its.toArray.any (isRow H q) = its.any (isRow H q) by simp, rows_any rows r]
  exact k
end
end K6
namespace K6
open PySem PySem.Spec PyProof.Rows L2 LamX NdefX EV
/-! ### the four comparisons -/
def ltR (sg : List Str) (rs : List (List Str)) (sg' : List Str) (rs' : List (List Str)) : Bool := leR sg rs sg' rs' && decide (rs.length < rs'.length)
def spCmp (K : PySem.W.Frag) (C : Addr) : Sp := fun vs H Q _ => ∃ (x y r r' : Addr) (sg sg' : List Str) (rs rs' : List (List Str)), vs = [.ref x, .ref y] ∧ RuleR K C H x sg rs r ∧ RuleR K C H y sg' rs' r' ∧ r ≠ r' ∧ Draw2 sg rs ∧ Draw2 sg' rs' ∧
  ∀ p H', H p = none → H' p = some (.lst [.bl (leR sg rs sg' rs'), .bl (ltR sg rs sg' rs'), .bl (leR sg' rs' sg rs), .bl (ltR sg' rs' sg rs)]) → Same H H' → Q (.ref p) H'
section
variable {P : Program} {w : World} {K : PySem.W.Frag} {mg : Str → Option Value} {base : Heap} {f fL fT fS fC C : Addr} {fd fdL fdT fdS fdC : FuncData}
theorem scCmp : FnScope ["_law_one", "_law_other"] ["_law_one", "_law_other"] (defScope sCmp) := ⟨rfl, rfl, rfl, by decide +kernel, rfl, by decide +kernel, by decide +kernel⟩
theorem ok_cmp (F : Fun K "_law_compared" "_law_compared" sCmp f fd) (T : RTxt K mg C) (TI : CIs K C) (nf : PySem.W.notFirst K C (.ref C) = true)
    (GL : FnOk P w K mg base CX0 6 fL fdL ["self", "other"] (spLe K C)) (hs : PySem.W.findIn K (.ref C) "__le__" = some (some (.ref fL))) (hf : PySem.W.isFn K (.ref fL) = true) (bL : L2.Binds K fdL ["self", "other"] [])
    (GT : FnOk P w K mg base CX0 7 fT fdT ["self", "other"] (spLt K C)) (hsT : PySem.W.findIn K (.ref C) "__lt__" = some (some (.ref fT))) (hfT : PySem.W.isFn K (.ref fT) = true) (bT : L2.Binds K fdT ["self", "other"] []) :
    FnOk P w K mg base CX0 8 f fd ["_law_one", "_law_other"] (spCmp K C) := by
  refine F.ok scCmp (fun vs H Q E h => ?_) (fun cdv A' outer s H vs Q E hr h => ?_)
  · obtain ⟨x, y, r, r', sg, sg', rs, rs', rfl, _⟩ := h
    rfl
  · obtain ⟨x, y, r, r', sg, sg', rs, rs', rfl, cx, cy, ner, D1, D2, k⟩ := h
    have hr6 : Room 6 _ := hr.mono (by decide)
    have hr7 : Room 7 _ := hr.mono (by decide)
    refine ⟨_, pss_one (ps_ret (pe_lst (pa_cons (pe_cmpR (op_leOwn GL hs hf bL pass0 hr6) (pv 0) (pv 1) (nomark _)) (pa_cons (pe_cmpR (op_ltOwn GT hsT hfT bT pass0 hr7) (pv 0) (pv 1) (nomark _))
      (pa_cons (pe_cmpR (op_leOwn GL hs hf bL pass0 hr6) (pv 1) (pv 0) (nomark _)) (pa_cons (pe_cmpR (op_ltOwn GT hsT hfT bT pass0 hr7) (pv 1) (pv 0) (nomark _)) pa_nil)))))), ?_⟩
    obtain ⟨dx, a, pl, hx, _⟩ := cx.at_
    obtain ⟨dy, a', pl', hy, _⟩ := cy.at_
    have l1 := D1.n6
    have l2 := D2.n6
    have f1 := D1.few
    have f2 := D2.few
    have o1 := D1.ok
    have o2 := D2.ok
    have tyy : ∀ {H2 : Hp}, Same H H2 → TyX K H2 (.ref y) (.ref C) := fun sm => .base (.ins (sm _ _ hy) T.cl TI.cl TI.gt TI.tk TI.ob)
    have tyx : ∀ {H2 : Hp}, Same H H2 → TyX K H2 (.ref x) (.ref C) := fun sm => .base (.ins (sm _ _ hx) T.cl TI.cl TI.gt TI.tk TI.ob)
    refine ⟨_, rfl, _, rfl, .ref C, tyy (Same.refl _), nf, x, dx, _, rfl, hx, x, y, sg, sg', rs, rs', r, r', rfl, cx, cy, ner, o1.n60, o2.n60, o1.nd, o2.nd, o2.good, o1.full, o1.few, fun H1 sm1 => ⟨_, rfl, ?_⟩⟩
    refine ⟨_, rfl, _, rfl, .ref C, tyy sm1, nf, x, dx, _, rfl, sm1 _ _ hx, x, y, sg, sg', rs, rs', r, r', rfl, cx.same sm1, cy.same sm1, ner, o1.n60, o2.n60, o1.nd, o2.nd, o2.good, o1.full, o1.few, fun H2 sm2' => ⟨_, rfl, ?_⟩⟩
    have sm2 := sm1.trans sm2'
    refine ⟨_, rfl, _, rfl, .ref C, tyx sm2, nf, y, dy, _, rfl, sm2 _ _ hy, y, x, sg', sg, rs', rs, r', r, rfl, cy.same sm2, cx.same sm2, ner.symm, o2.n60, o1.n60, o2.nd, o1.nd, o1.good, o2.full, o2.few, fun H3 sm3' => ⟨_, rfl, ?_⟩⟩
    have sm3 := sm2.trans sm3'
    refine ⟨_, rfl, _, rfl, .ref C, tyx sm3, nf, y, dy, _, rfl, sm3 _ _ hy, y, x, sg', sg, rs', rs, r', r, rfl, cy.same sm3, cx.same sm3, ner.symm, o2.n60, o1.n60, o2.nd, o1.nd, o1.good, o2.full, o2.few, fun H4 sm4' => ⟨_, rfl, ?_⟩⟩
    have sm4 := sm3.trans sm4'
    exact ⟨by show 4 ≤ sizeLine; decide, fun p hp => k p _ (sm4.free hp) upd_same (sm4.trans (same_new hp))⟩
end
end K6
namespace K6
open PySem PySem.Spec PyProof.Rows L2 LamX NdefX EV
def within (cs ds : List (List Str)) : Bool := cs.all fun q => decide (q ∈ ds)
def spSo (K : PySem.W.Frag) (C : Addr) : Sp := fun vs H Q _ => ∃ (x y r r' pc pd : Addr) (sg sg' : List Str) (rs rs' cs ds : List (List Str)) (ts us : List Addr), vs = [.ref x, .ref y, .ref pc, .ref pd] ∧ RuleR K C H x sg rs r ∧ RuleR K C H y sg' rs' r' ∧ r ≠ r' ∧ Draw2 sg rs ∧ Draw2 sg' rs' ∧
  H pc = some (.lst (ts.map V.ref)) ∧ RowsAt H ts cs ∧ H pd = some (.lst (us.map V.ref)) ∧ RowsAt H us ds ∧ cs.length ≤ 200 ∧ ds.length ≤ 200 ∧
  leR sg rs sg' rs' = within cs ds ∧ leR sg' rs' sg rs = within ds cs ∧ ltR sg rs sg' rs' = (within cs ds && !within ds cs) ∧ ltR sg' rs' sg rs = (within ds cs && !within cs ds) ∧ ∀ H', Same H H' → Q (.bl true) H'
theorem small_bools : ∀ bs : List Bool, SmallAll (bs.map PyData.bool) (6 * bs.length) 1
  | [] => SmallAll.nil
  | b :: bs => by
    have z := SmallAll.cons (d := PyData.bool b) (a := 5) (m := 1) rfl (by cases b <;> decide) rfl (by cases b <;> decide) (small_bools bs)
    rw [List.length_cons, Nat.mul_add, Nat.mul_one, Nat.add_comm]
    exact z
theorem dp_bools {K : PySem.W.Frag} {H : Hp} : ∀ bs : List Bool, DpAll K H (bs.map V.bl) (bs.map PyData.bool)
  | [] => .nil
  | b :: bs => .cons (.bl b) (dp_bools bs)
theorem bools_small {bs : List Bool} (l : bs.length ≤ 10) : Small (PyData.list (bs.map PyData.bool)) 60 := by
  obtain ⟨a1, a2, a3, a4⟩ := small_list (small_bools bs)
  exact ⟨a1, by omega, a3, by omega⟩
section
variable {P : Program} {w : World} {K : PySem.W.Frag} {mg : Str → Option Value} {base : Heap} {f fC fS C : Addr} {fd fdC fdS : FuncData}
abbrev nSo : List Str := ["_law_one", "_law_other", "_law_c", "_law_d", "_law_less", "_law_more", "_law_due", "_law_full"]
theorem scSo : FnScope nSo ["_law_one", "_law_other", "_law_c", "_law_d"] (defScope sSo) := ⟨rfl, rfl, rfl, by decide +kernel, rfl, by decide +kernel, by decide +kernel⟩
theorem ok_so (F : Fun K "_law_are_so" "_law_are_so" sSo f fd) (mA : mg "all" = none)
    (GC : Has P w K mg base 8 "_law_compared" ["_law_one", "_law_other"] (spCmp K C)) (GS : HasG P w K mg base 1 "_law_same" ["_law_found", "_law_due"] (spSameP K)) :
    FnG P w K mg base 9 f fd ["_law_one", "_law_other", "_law_c", "_law_d"] (spSo K C) := by
  refine fng_of F scSo (fun vs H Q E h => ?_) (fun cdv A outer s H vs Q E hg hr h => ?_)
  · obtain ⟨x, y, r, r', pc, pd, sg, sg', rs, rs', cs, ds, ts, us, rfl, _⟩ := h
    rfl
  · obtain ⟨x, y, r, r', pc, pd, sg, sg', rs, rs', cs, ds, ts, us, rfl, cx, cy, ner, D1, D2, hpc, rc, hpd, rd, lc, ld, e1, e2, e3, e4, k⟩ := h
    have hu := hu_of hr
    have hr1 : Room 1 _ := hr.mono (by decide)
    refine ⟨_, pss_cons (ps_par (i := 4) (j := 5) rfl scSo.nd rfl rfl (by decide) (by rfl) (by rfl) (pa_cons (pe_callB (cr_all rfl) (by rfl) mA (by decide +kernel) (pa_cons (pe_lc (own := [("_law_full", 7)]) (g := gName 7) (tt := tYes) rfl scSo.nd (pi_list (pv 2)) (blkOk_by (N := nSo) (sc := defScope sSo) (by decide +kernel))
          (fun _ _ _ _ _ => pg_name (i := 7) scSo.nd rfl (.inl rfl)) (fun _ _ _ _ _ => pts_nil) (fun _ _ _ _ _ => show PE _ _ (tOp (rInR K) _ _) from pe_cmpR (op_inRows hu) (pv 7) (pv 3) rfl)) pa_nil))
        (pa_cons (pe_callB (cr_all rfl) (by rfl) mA (by decide +kernel) (pa_cons (pe_lc (own := [("_law_full", 7)]) (g := gName 7) (tt := tYes) rfl scSo.nd (pi_list (pv 3)) (blkOk_by (N := nSo) (sc := defScope sSo) (by decide +kernel))
          (fun _ _ _ _ _ => pg_name (i := 7) scSo.nd rfl (.inl rfl)) (fun _ _ _ _ _ => pts_nil) (fun _ _ _ _ _ => show PE _ _ (tOp (rInR K) _ _) from pe_cmpR (op_inRows hu) (pv 7) (pv 2) rfl)) pa_nil)) pa_nil)) rfl)
      (pss_cons (ps_set (i := 6) scSo.nd rfl (.inl rfl) (pe_lst (pa_cons (pv 4) (pa_cons (pe_and (pv 4) (pe_one (pe_not (pv 5)))) (pa_cons (pv 5) (pa_cons (pe_and (pv 5) (pe_one (pe_not (pv 4)))) pa_nil))))))
      (pss_one (ps_ret (pe_callHG GS hg hr1 (by rfl) (pa_cons (pe_callH GC hr (by rfl) (pa_cons (pv 0) (pa_cons (pv 1) pa_nil))) (pa_cons (pv 6) pa_nil)))))), ?_⟩
    have lts : ts.length = cs.length := Paired.length rc
    have lus : us.length = ds.length := Paired.length rd
    refine ⟨_, rfl, pc, rfl, ⟨_, SqL.of hpc⟩, fun L1 hL1 => lc_it (walk_list (xs := ts.map V.ref)) (fun i H2 => Same H H2 ∧ H2 L1 = some (.lst (((cs.take i).map fun q => decide (q ∈ ds)).map V.bl))) ⟨same_new hL1, upd_same⟩ (fun i H2 _ hh => SqL.of (hh.1 _ _ hpc)) ?_ ?_⟩
    · rintro i v H2 H3 hi ⟨sm, hL2⟩ ⟨rfl, hv⟩
      obtain ⟨t, ht, rfl⟩ := get_map hv
      obtain ⟨q, hq, hqt⟩ := RowsAt.get rc i t ht
      have er : cs.take (i + 1) = cs.take i ++ [q] := by rw [List.take_succ, hq]; rfl
      have lt := List.length_take_le' i cs
      refine ⟨rfl, _, rfl, _, rfl, t, pd, q, us, ds, rfl, sm _ _ hqt, rfl, SqL.of (sm _ _ hpd), rd.same sm, _, hL2, by rw [List.length_map, List.length_map, sizeLine_eq]; omega, fun b o e => (upd_ne (ne_of_none e hL1)).trans (sm b o e), ?_⟩
      rw [upd_same, er, List.map_append, List.map_append]
      rfl
    rintro H1 ⟨sm1, hL1'⟩
    rw [List.length_map, lts, List.take_length] at hL1'
    refine ⟨L1, _, rfl, SqL.of hL1', ?_⟩
    rw [show ((cs.map fun q => decide (q ∈ ds)).all id) = within cs ds from List.all_map]
    refine ⟨_, rfl, pd, rfl, ⟨_, SqL.of (sm1 _ _ hpd)⟩, fun L2' hL2 => lc_it (walk_list (xs := us.map V.ref)) (fun i H2 => Same H1 H2 ∧ H2 L2' = some (.lst (((ds.take i).map fun q => decide (q ∈ cs)).map V.bl))) ⟨same_new hL2, upd_same⟩ (fun i H2 _ hh => SqL.of (hh.1 _ _ (sm1 _ _ hpd))) ?_ ?_⟩
    · rintro i v H2 H3 hi ⟨sm, hL3⟩ ⟨rfl, hv⟩
      have sm2 := sm1.trans sm
      obtain ⟨t, ht, rfl⟩ := get_map hv
      obtain ⟨q, hq, hqt⟩ := RowsAt.get rd i t ht
      have er : ds.take (i + 1) = ds.take i ++ [q] := by rw [List.take_succ, hq]; rfl
      have lt := List.length_take_le' i ds
      refine ⟨rfl, _, rfl, _, rfl, t, pc, q, ts, cs, rfl, sm2 _ _ hqt, rfl, SqL.of (sm2 _ _ hpc), rc.same sm2, _, hL3, by rw [List.length_map, List.length_map, sizeLine_eq]; omega, fun b o e => (upd_ne (ne_of_none e hL2)).trans (sm b o e), ?_⟩
      rw [upd_same, er, List.map_append, List.map_append]
      rfl
    rintro H2 ⟨sm2', hL2'⟩
    rw [List.length_map, lus, List.take_length] at hL2'
    refine ⟨L2', _, rfl, SqL.of hL2', ?_⟩
    rw [show ((ds.map fun q => decide (q ∈ cs)).all id) = within ds cs from List.all_map]
    have sm2 := sm1.trans sm2'
    have k' := fun H' sm => k H' (sm2.trans sm)
    have cx2 := cx.same sm2
    have cy2 := cy.same sm2
    clear hL1' hL2'
    cases ha : within cs ds <;> cases hb : within ds cs
    all_goals
      rw [ha] at e1 e3 e4
      rw [hb] at e2 e3 e4
      refine ⟨_, _, rfl, _, rfl, _, rfl, _, rfl, ?_⟩
      first
        | refine iteF ?_
        | refine iteT ⟨_, rfl, _, rfl, ?_⟩
      refine ⟨_, rfl, _, rfl, _, rfl, ?_⟩
      first
        | refine iteF ?_
        | refine iteT ⟨_, rfl, _, rfl, ?_⟩
      refine ⟨by show 4 ≤ sizeLine; decide, fun M hM => ?_⟩
      refine ⟨_, rfl, _, rfl, x, y, r, r', sg, sg', rs, rs', rfl, cx2.same (same_new hM), cy2.same (same_new hM), ner, D1, D2, fun p H4 hp hp4 sm4 => ?_⟩
      rw [e1, e2, e3, e4] at hp4
      refine ⟨_, rfl, .ref p, .ref M, _, 60, rfl, .lst (SqL.of hp4) (dp_bools [_, _, _, _]), .lst (SqL.of (sm4 _ _ upd_same)) (dp_bools [_, _, _, _]), bools_small (by show 4 ≤ 10; decide), by decide, k' _ ((same_new hM).trans sm4)⟩
end
end K6
namespace K6
open PySem PySem.Spec PyProof.Rows L2 LamX NdefX EV
/-! ### row == row -/
def rEqR (x y : V) (H : Hp) (Q : VK) : Prop := ∃ (a b : Addr) (r q : List Str), x = .ref a ∧ H a = some (.tup (r.map V.str)) ∧ y = .ref b ∧ H b = some (.tup (q.map V.str)) ∧ Q (.bl (decide (r = q))) H
theorem op_eqRows {X : Cx} (hu : X.A.units + 1 < cLine) : OpR X (compareOp .Eq) rEqR := by
  intro pins s σ H x y v u Q I rx ry h
  obtain ⟨a, b, r, q, rfl, ha, rfl, hb, k⟩ := h
  cases rx
  cases ry
  obtain ⟨its, r1, ⟨o, ho, hc, n, hd⟩, _⟩ := I.tuple (SqT.of ha)
  obtain ⟨its2, r2, ⟨o2, ho2, hc2, n2, hd2⟩, _⟩ := I.tuple (SqT.of hb)
  have a1 : IsTupleKey (mixKind X.prog X.w) s.heap (r.map (Sum.inr : Str → Key)) a := ⟨o, _, n, ho, hc, hd, by rw [List.toList_toArray]; exact items_are (by rw [kV_strs]; exact r1)⟩
  have a2 : IsTupleKey (mixKind X.prog X.w) s.heap (q.map (Sum.inr : Str → Key)) b := ⟨o2, _, n2, ho2, hc2, hd2, by rw [List.toList_toArray]; exact items_are (by rw [kV_strs]; exact r2)⟩
  have e : decide (r.map (Sum.inr : Str → Key) = q.map Sum.inr) = decide (r = q) := decide_eq_decide.mpr ⟨inr_inj, fun z => by rw [z]⟩
  show wpAny (model X.prog X.w) X.A (richCompare .Eq (.ref a) (.ref b)) (EP X pins σ Q) X.xe s
  refine wpAny_richCompare_same_room (op := .Eq) a1.typeIs a2.typeIs F.slot_tuple_eq (wpAny_call_entry F.slot_tuple_eq a1.typeIs F.entry_tuple_eq (tuple_eq_tree a1 a2 ⟨_, rfl, (fun e => nomatch e), ⟨.bl _, H, I, rfl, ?_⟩⟩) (F.args_tuple_eq_2 _ _)) (by omega)
  rw [e]
  exact k
/-- all that the law's own defs ask of the text -/
structure LT4 (P : Program) (w : World) (K : PySem.W.Frag) (mg : Str → Option Value) (base : Heap) (C : Addr) : Prop where
  T : RTxt K mg C
  CI : CIs K C
  not2 : PySem.W.notFirst K C (.ref C) = true
  self1 : PySem.W.selfFirst K C = true
  subro : PySem.W.findIn K (.ref C) (dunderR Operator.Sub.info.2) = some none
  sub1 : PySem.W.findIn K (.type "str") (PySem.dunder Operator.Sub.info.2) = some none
  sub2 : PySem.W.findIn K (.type "str") (dunderR Operator.Sub.info.2) = some none
  subs : PySem.W.subIn K (.type "str") (.ref C) = some false
  any : mg "any" = none
  all : mg "all" = none
  range : mg "range" = none
  int : mg "int" = none
  draw : Has P w K mg base 1 "_law_draw" ["_law_stream", "_law_many"] spDraw
  mixed : Has P w K mg base 2 "_law_mixed" ["_law_stream", "_law_things"] (spMixed K)
  names : Has P w K mg base 4 "_law_names" ["_law_stream", "_law_many"] spNames
  fulls : Has P w K mg base 1 "_law_fulls" ["_law_names_here"] (spFulls K)
  up : Has P w K mg base 1 "_law_up" ["_law_some", "_law_names_here"] (spUp K)
  neg : Has P w K mg base 1 "_law_neg" ["_law_one"] spOpp
  bare : Has P w K mg base 1 "_law_bare" ["_law_one"] spBare
  same : HasG P w K mg base 1 "_law_same" ["_law_found", "_law_due"] (spSameP K)
  is_ : HasG P w K mg base 2 "_law_is" ["_law_rule", "_law_signs", "_law_allowed"] (spIs K C)
  cmp : Has P w K mg base 8 "_law_compared" ["_law_one", "_law_other"] (spCmp K C)
  so : HasG P w K mg base 9 "_law_are_so" ["_law_one", "_law_other", "_law_c", "_law_d"] (spSo K C)
  make : ∃ fI fdI, Mk K C fI ∧ FnOk P w K mg base CX0 5 fI fdI psInit (spInit K C) ∧ L2.Binds K fdI psInit []
  eq : ∃ fE fdE, FnOk P w K mg base CX0 7 fE fdE ["self", "other"] (spEq K C) ∧ NeTxt K C fE ∧ L2.Binds K fdE ["self", "other"] []
  and_ : ∃ fA fdA, FnOk P w K mg base CX0 7 fA fdA ["self", "other"] (spBinR and K C) ∧ PySem.W.findIn K (.ref C) (PySem.dunder Operator.BitAnd.info.2) = some (some (.ref fA)) ∧ PySem.W.isFn K (.ref fA) = true ∧ L2.Binds K fdA ["self", "other"] []
  or_ : ∃ fA fdA, FnOk P w K mg base CX0 7 fA fdA ["self", "other"] (spBinR or K C) ∧ PySem.W.findIn K (.ref C) (PySem.dunder Operator.BitOr.info.2) = some (some (.ref fA)) ∧ PySem.W.isFn K (.ref fA) = true ∧ L2.Binds K fdA ["self", "other"] []
  sub : ∃ fA fdA, FnOk P w K mg base CX0 7 fA fdA ["self", "name"] (spSub K C) ∧ PySem.W.findIn K (.ref C) (PySem.dunder Operator.Sub.info.2) = some (some (.ref fA)) ∧ PySem.W.isFn K (.ref fA) = true ∧ L2.Binds K fdA ["self", "name"] []
  inv : ∃ fA fdA, FnOk P w K mg base CX0 7 fA fdA ["self"] (spInv K C) ∧ PySem.W.findIn K (.ref C) "__invert__" = some (some (.ref fA)) ∧ PySem.W.isFn K (.ref fA) = true ∧ L2.Binds K fdA ["self"] []
  turned : ∃ fA fdA, FnOk P w K mg base CX0 7 fA fdA ["self", "name"] (spTurned K C) ∧ Meth K C "turned" fA ∧ L2.Binds K fdA ["self", "name"] []
/-! ### what the law reckons of a rule that is lessened -/
theorem lit_unlit_mem {ns : List Str} {l : Str} (good : ∀ z ∈ ns, Name1 z) (h : l ∈ lits ns) : (unlit l).2 ∈ ns ∧ lit (unlit l) = l := by
  obtain ⟨n, hn, e⟩ := lits_mem.mp h
  rcases e with rfl | rfl
  · have z := unlit_lit (q := (false, l)) (good l hn)
    exact ⟨by rw [show l = lit (false, l) from rfl, z]; exact hn, by rw [show unlit l = (false, l) from z]; rfl⟩
  · have z := unlit_lit (q := (true, n)) (good n hn)
    exact ⟨by rw [show neg n = lit (true, n) from rfl, z]; exact hn, by rw [show unlit (neg n) = (true, n) from z]; rfl⟩
theorem asc_wo {n : Str} {sg r : List Str} (nd : sg.Nodup) (good : ∀ z ∈ sg, Name1 z) (h : r ∈ fulls sg) : asc (rest n sg) r = woR n r := by
  have goodr : ∀ z ∈ rest n sg, Name1 z := fun z hz => good z (List.mem_filter.mp hz).1
  rw [← asc_fulls (nd.filter _) goodr (woR_full (n := n) good h)]
  unfold asc
  refine List.filter_congr fun l hl => decide_eq_decide.mpr ?_
  have hn := (lit_unlit_mem goodr hl).1
  have ne := of_decide_eq_true (List.mem_filter.mp hn).2
  unfold woR
  rw [List.mem_filter]
  exact ⟨fun y => ⟨y, decide_eq_true ne⟩, fun y => y.1⟩
def keptR (n : Str) (sg : List Str) (rs : List (List Str)) : List (List Str) := (fulls (rest n sg)).filter fun f => (rs.map fun p => decide (asc (rest n sg) p = f)).any id
theorem kept_eq {n : Str} {sg : List Str} {rs : List (List Str)} (D : Draw2 sg rs) : keptR n sg rs = allow (rest n sg) (rs.map (woR n)) := by
  unfold keptR allow
  refine List.filter_congr fun f hf => ?_
  rw [Bool.eq_iff_iff, List.any_eq_true, decide_eq_true_iff]
  constructor
  · rintro ⟨b, hb, e⟩
    obtain ⟨p, hp, rfl⟩ := List.mem_map.mp hb
    have z := of_decide_eq_true e
    rw [asc_wo D.nd D.good (D.sub.subset hp)] at z
    exact List.mem_map.mpr ⟨p, hp, z⟩
  · intro h
    obtain ⟨p, hp, z⟩ := List.mem_map.mp h
    refine ⟨_, List.mem_map_of_mem hp, decide_eq_true ?_⟩
    rw [asc_wo D.nd D.good (D.sub.subset hp)]
    exact z
theorem eq_same {sg : List Str} {rs : List (List Str)} (D : Draw2 sg rs) : eqR sg rs sg rs = true := by
  have mem : sameMem sg sg = true := sameMem_iff.mpr ⟨rfl, fun x hx => hx⟩
  unfold eqR leR
  rw [mem, decide_eq_true rfl, Bool.and_true, Bool.true_and]
  refine List.all_eq_true.mpr fun b hb => ?_
  obtain ⟨q, hq, rfl⟩ := List.mem_map.mp hb
  refine decide_eq_true ?_
  rw [asc_fulls D.nd D.good (D.sub.subset hq)]
  exact hq
end K6
namespace K6
open PySem PySem.Spec PyProof.Rows L2 LamX NdefX EV
def spLess (K : PySem.W.Frag) (C : Addr) : Sp := fun vs H Q _ => ∃ (x r ps pc : Addr) (sg : List Str) (ts : List Addr) (rs : List (List Str)), vs = [.ref x, .ref ps, .ref pc] ∧ RuleR K C H x sg rs r ∧ Draw2 sg rs ∧ H ps = some (.lst (sg.map V.str)) ∧ H pc = some (.lst (ts.map V.ref)) ∧ RowsAt H ts rs ∧ ∀ H', Same H H' → Q (.bl true) H'
abbrev nLess : List Str := ["_law_rule", "_law_signs", "_law_allowed", "_law_name", "_law_rest", "_law_kept", "_law_exchanged", "_law_sign", "_law_full", "_law_part"]
theorem scLess : FnScope nLess ["_law_rule", "_law_signs", "_law_allowed"] (defScope sLess) := ⟨rfl, rfl, rfl, by decide +kernel, rfl, by decide +kernel, by decide +kernel⟩
abbrev scKept : Scope := { kind := .function, names := [(".0", .local), ("_law_full", .cell), ("any", .globalImplicit), ("_law_allowed", .free), ("_law_rest", .free)], isGenerator := false, isCoroutine := false }
abbrev scExch : Scope := { kind := .function, names := [(".0", .local), ("_law_full", .local), ("_law_name", .free)], isGenerator := false, isCoroutine := false }
theorem lookup_relabel_cf {env : Env} : ∀ {names : List (Str × NameKind)} {x : Str}, (names.lookup x = some .cell ∨ names.lookup x = some .free) →
    ((names.map fun (n, k) => if (k == NameKind.free && env.scope.kind == .function && env.kindOf n == some .cell) then (n, NameKind.cell) else (n, k)).lookup x = some .cell ∨
     (names.map fun (n, k) => if (k == NameKind.free && env.scope.kind == .function && env.kindOf n == some .cell) then (n, NameKind.cell) else (n, k)).lookup x = some .free)
  | [], _, h => by rcases h with h | h <;> cases h
  | (n, k) :: r, x, h => by
    have ih := @lookup_relabel_cf env r x
    show (List.lookup x ((if (k == NameKind.free && env.scope.kind == .function && env.kindOf n == some .cell) = true then (n, NameKind.cell) else (n, k)) :: _) = _ ∨ List.lookup x ((if (k == NameKind.free && env.scope.kind == .function && env.kindOf n == some .cell) = true then (n, NameKind.cell) else (n, k)) :: _) = _)
    by_cases hc : (k == NameKind.free && env.scope.kind == .function && env.kindOf n == some .cell) = true
    · rw [if_pos hc]
      cases hx : x == n with
      | true =>
        left
        simp [List.lookup_cons, hx]
      | false =>
        simp only [List.lookup_cons, hx] at h ⊢
        exact ih h
    · rw [if_neg hc]
      cases hx : x == n with
      | true =>
        simp only [List.lookup_cons, hx] at h ⊢
        exact h
      | false =>
        simp only [List.lookup_cons, hx] at h ⊢
        exact ih h
theorem blk_in {N : List Str} {sc scope : Scope} {own : List (Str × Nat)} {env : Env} (h : BlkOk N sc scope own) : BlkOk N (relabel sc env) scope own :=
  ⟨h.kind, h.uniq, h.ix, fun y hy e => lookup_relabel_cf (h.free y hy e), h.own⟩
section
variable {P : Program} {w : World} {K : PySem.W.Frag} {mg : Str → Option Value} {base : Heap} {f C : Addr} {fd : FuncData}
theorem ok_less (F : Fun K "_law_is_lessened" "_law_is_lessened" sLess f fd) (L : LT4 P w K mg base C) :
    FnG P w K mg base 8 f fd ["_law_rule", "_law_signs", "_law_allowed"] (spLess K C) := by
  have T := L.T
  obtain ⟨fI, fdI, M, GI, bI⟩ := L.make
  obtain ⟨fE, fdE, FE, TE, bE⟩ := L.eq
  obtain ⟨fS, fdS, FS, hsS, hfS, bS⟩ := L.sub
  obtain ⟨fT, fdT, FT, mT, bT⟩ := L.turned
  refine fng_of F scLess (fun vs H Q E h => ?_) (fun cdv A outer s H vs Q E hg hr h => ?_)
  · obtain ⟨x, r, ps, pc, sg, ts, rs, rfl, _⟩ := h
    rfl
  · obtain ⟨x, r, ps, pc, sg, ts, rs, rfl, cx, D, hps, hpc, rows, k⟩ := h
    have hu := hu_of hr
    have hr1 : Room 1 _ := hr.mono (by decide)
    have hr2 : Room 2 _ := hr.mono (by decide)
    have hr6 : Room 6 _ := hr.mono (by decide)
    refine ⟨_, pss_cons (ps_for PassesOwn.never rfl (pi_list (pv 1)) (pg_name (i := 3) scLess.nd rfl (.inr rfl))
        (pss_cons (ps_set (i := 4) scLess.nd rfl (.inr rfl) (pe_lc (own := [("_law_sign", 7)]) (g := gName 7) rfl scLess.nd (pi_list (pv 1)) (blkOk_by (N := nLess) (sc := defScope sLess) (by decide +kernel))
            (fun _ _ _ _ _ => pg_name (i := 7) scLess.nd rfl (.inl rfl)) (fun _ _ _ _ _ => pts_one (pt_cmpR op_ne (pv 7) (pv 3) (nomark _))) (fun _ _ _ _ _ => pv 7)))
        (pss_cons (ps_setLc (i := 5) (own := [("_law_full", 8)]) (g := gName 8) (by rfl) scLess.nd rfl rfl (sw_true rfl rfl rfl (by decide +kernel)) (pi_list (pe_callH L.fulls hr1 (by rfl) (pa_cons (pv 4) pa_nil))) (blkOk_by (N := nLess) (sc := defScope sLess) (by decide +kernel))
            (fun _ _ _ _ _ => pg_name (i := 8) scLess.nd rfl (.inr rfl))
            (fun _ _ _ _ _ => pts_one (show PT _ _ (tB (tCB (rAny K) (tCons (tLc (iList K _) _ _ (tOp rEqR _ _) _) tNil))) from pt_val (pe_callB (cr_any rfl) (by rfl) L.any (by decide +kernel) (pa_cons (pe_lc (own := [("_law_part", 9)]) (g := gName 9) (tt := tYes) rfl scLess.nd (pi_list (pv 2)) (blk_in (sc := scKept) (blkOk_by (N := nLess) (sc := scKept) (by decide +kernel)))
                (fun _ _ _ _ _ => pg_name (i := 9) scLess.nd rfl (.inl rfl)) (fun _ _ _ _ _ => pts_nil) (fun _ _ _ _ _ => pe_cmpR (op_eqRows hu) (pe_callH L.up hr1 (by rfl) (pa_cons (pv 9) (pa_cons (pv 4) pa_nil))) (pv 8) (nomark _))) pa_nil)))) (fun _ _ _ _ _ => pv 8))
        (pss_cons (ps_setLc (i := 6) (own := [("_law_full", 8)]) (g := gName 8) (tt := tYes) (by rfl) scLess.nd rfl rfl (sw_true rfl rfl rfl (by decide +kernel)) (pi_list (pv 2)) (blkOk_by (N := nLess) (sc := defScope sLess) (by decide +kernel))
            (fun _ _ _ _ _ => pg_name (i := 8) scLess.nd rfl (.inl rfl)) (fun _ _ _ _ _ => pts_nil)
            (fun _ _ _ _ _ => show PE _ _ (tLc (iSeq K _) _ _ _ _) from pe_lc (own := [("_law_part", 9)]) (g := gName 9) (tt := tYes) rfl scLess.nd (pi_seq (pv 8)) (blk_in (sc := scExch) (blkOk_by (N := nLess) (sc := scExch) (by decide +kernel)))
                (fun _ _ _ _ _ => pg_name (i := 9) scLess.nd rfl (.inl rfl)) (fun _ _ _ _ _ => pts_nil) (fun _ _ _ _ _ => pe_ifExp (pt_cmpR op_eq (pe_callH L.bare hr1 (by rfl) (pa_cons (pv 9) pa_nil)) (pv 3) (nomark _)) (pe_callH L.neg hr1 (by rfl) (pa_cons (pv 9) pa_nil)) (pv 9))))
        (pss_one (ps_if (PW.pt (pw_or (pt_not (pt_val (pe_callHG L.is_ hg hr2 (by rfl) (pa_cons (pe_op (op_binStr FS L.self1 hsS hfS L.subro L.sub1 L.sub2 L.subs bS pass0 hr) (pv 0) (pv 3)) (pa_cons (pv 4) (pa_cons (pv 5) pa_nil))))))
            (pw_or1 (pt_not (pt_cmpR (op_eqOwn FE TE.eq TE.fn bE pass0 hr) (pe_meth (pv 0) T.cl mT FT hr bT .nil pass0 (pa_cons (pv 3) pa_nil)) (pe_make M GI hr6 (by rfl) T.mgC bI .nil pass0 (pa_cons (pv 1) (pa_cons (pv 6) pa_nil))) (nomark _)))))) (pss_one (ps_ret pe_bl)) pss_nil))))))
      (pss_one (ps_ret pe_bl)), ?_⟩
    have l6 := D.n6
    have l64 := D.few
    have lts : ts.length = rs.length := Paired.length rows
    refine ⟨_, rfl, ps, rfl, ⟨_, SqL.of hps⟩, for_list (K := K) (a := ps) (xs := sg.map V.str) (fun i σ H2 => ∃ o3 o4 o5 o6 o7 o8 o9, σ = [some (.ref x), some (.ref ps), some (.ref pc), o3, o4, o5, o6, o7, o8, o9] ∧ Same H H2) ⟨_, _, _, _, _, _, _, rfl, Same.refl H⟩ (fun i σ H2 _ ⟨_, _, _, _, _, _, _, _, sm⟩ => SqL.of (sm _ _ hps)) ?_ ?_⟩
    · rintro i0 v0 σ H1 hv0 ⟨o3, o4, o5, o6, o7, o8, o9, rfl, sm1⟩
      obtain ⟨n, hn, rfl⟩ := get_map hv0
      have nmem := List.mem_of_getElem? hn
      have lrest : (rest n sg).length ≤ sg.length := List.length_filter_le _ _
      have n6R : (rest n sg).length ≤ 6 := by omega
      have ndR : (rest n sg).Nodup := D.nd.filter _
      have goodR : ∀ z ∈ rest n sg, Name1 z := fun z hz => D.good z (List.mem_filter.mp hz).1
      refine ⟨_, rfl, ps, rfl, ⟨_, SqL.of (sm1 _ _ hps)⟩, fun W hW => lc_it (walk_list (xs := sg.map V.str)) (fun i H2 => Same H1 H2 ∧ H2 W = some (.lst ((rest n (sg.take i)).map V.str))) ⟨same_new hW, upd_same⟩ (fun i H2 _ hh => SqL.of (hh.1 _ _ (sm1 _ _ hps))) ?_ ?_⟩
      · rintro i v H2 H3 hi ⟨sm, hW2⟩ ⟨rfl, hv⟩
        obtain ⟨z, hz, rfl⟩ := get_map hv
        have er : sg.take (i + 1) = sg.take i ++ [z] := by rw [List.take_succ, hz]; rfl
        have lt := List.length_take_le' i sg
        have lf : (rest n (sg.take i)).length ≤ (sg.take i).length := List.length_filter_le _ _
        refine ⟨rfl, _, rfl, _, rfl, rfl, _, rfl, ?_⟩
        by_cases e : z = n
        · have e2 : (!decide (V.str z = V.str n)) = false := by rw [decide_eq_true (by rw [e])]; rfl
          rw [e2]
          refine iteF ⟨sm, ?_⟩
          rw [hW2, er]
          unfold rest
          rw [List.filter_append, List.filter_cons, if_neg (by rw [decide_eq_false (fun h => h e)]; decide), List.filter_nil, List.append_nil]
        · have e2 : (!decide (V.str z = V.str n)) = true := by rw [decide_eq_false fun h => e (by injection h)]; rfl
          rw [e2]
          refine iteT ⟨_, rfl, _, hW2, by rw [List.length_map, sizeLine_eq]; omega, fun c o h => (upd_ne (ne_of_none h hW)).trans (sm c o h), ?_⟩
          rw [upd_same, er]
          unfold rest
          rw [List.filter_append, List.filter_cons, if_pos (decide_eq_true e), List.map_append]
          rfl
      rintro H3 ⟨sm3', hW3⟩
      rw [List.length_map, List.take_length] at hW3
      have sm3 := sm1.trans sm3'
      refine ⟨_, rfl, W, rest n sg, rfl, (fun H' s' => SqL.of (s' _ _ hW3)), n6R, (fun z hz => (goodR z hz).2.1), fun pf fs H4 hpf hpf4 rowsF sm4' => ?_⟩
      have sm4 := sm3.trans sm4'
      have lfs : fs.length = (fulls (rest n sg)).length := Paired.length rowsF
      have f64 := fulls_few n6R
      refine ⟨pf, rfl, ⟨_, SqL.of hpf4⟩, fun D2 hD2 => lc_it (walk_list (xs := fs.map V.ref)) (fun i H5 => Same H4 H5 ∧ ∃ us, H5 D2 = some (.lst (us.map V.ref)) ∧ RowsAt H5 us (((fulls (rest n sg)).take i).filter fun f => (rs.map fun p => decide (asc (rest n sg) p = f)).any id)) ⟨same_new hD2, [], upd_same, .nil⟩ (fun i H5 _ hh => SqL.of (hh.1 _ _ hpf4)) ?_ ?_⟩
      · rintro i v H5 H6 hi ⟨sm5, us, hD5, ru⟩ ⟨rfl, hv⟩
        obtain ⟨t, ht, rfl⟩ := get_map hv
        obtain ⟨q, hq, hqt⟩ := RowsAt.get rowsF i t ht
        have er : (fulls (rest n sg)).take (i + 1) = (fulls (rest n sg)).take i ++ [q] := by rw [List.take_succ, hq]; rfl
        have lus : us.length ≤ 64 := by
          have z1 := Paired.length ru
          have z2 := List.length_filter_le (fun f => (rs.map fun p => decide (asc (rest n sg) p = f)).any id) ((fulls (rest n sg)).take i)
          have z3 := List.length_take_le' i (fulls (rest n sg))
          omega
        have sm6 := sm4.trans sm5
        have hqt6 := sm5 _ _ hqt
        have hW6 := (sm4'.trans sm5) _ _ hW3
        refine ⟨rfl, _, rfl, pc, rfl, ⟨_, SqL.of (sm6 _ _ hpc)⟩, fun Lb hLb => lc_it (walk_list (xs := ts.map V.ref)) (fun j H7 => Same H6 H7 ∧ H7 Lb = some (.lst (((rs.take j).map fun p => decide (asc (rest n sg) p = q)).map V.bl))) ⟨same_new hLb, upd_same⟩ (fun j H7 _ hh => SqL.of (hh.1 _ _ (sm6 _ _ hpc))) ?_ ?_⟩
        · rintro j v2 H7 H8 hj ⟨sm7, hL7⟩ ⟨rfl, hv2⟩
          obtain ⟨t2, ht2, rfl⟩ := get_map hv2
          obtain ⟨p2, hp2, hpt2⟩ := RowsAt.get rows j t2 ht2
          have er2 : rs.take (j + 1) = rs.take j ++ [p2] := by rw [List.take_succ, hp2]; rfl
          have lt2 := List.length_take_le' j rs
          have hpt7 : _ = some (HO.tup (p2.map V.str)) := (sm6.trans sm7) _ _ hpt2
          refine ⟨rfl, _, rfl, _, rfl, t2, W, false, p2, rest n sg, rfl, Sq.tup hpt7, (fun H' s' => Sq.tup (s' _ _ hpt7)), SqL.of (sm7 _ _ hW6), (fun H' s' => SqL.of (s' _ _ (sm7 _ _ hW6))), by omega, (fun z hz => (goodR z hz).2.1), fun p9 H9 hp9 hp9' sm9 => ?_⟩
          refine ⟨_, rfl, p9, t, _, q, rfl, hp9', rfl, sm9 _ _ (sm7 _ _ hqt6), _, sm9 _ _ hL7, by rw [List.length_map, List.length_map, sizeLine_eq]; omega, fun b o e => (upd_ne (ne_of_none e hLb)).trans (sm9 _ _ (sm7 b o e)), ?_⟩
          rw [upd_same, er2, List.map_append, List.map_append]
          rfl
        · rintro H7 ⟨sm7, hL7⟩
          rw [List.length_map, lts, List.take_length] at hL7
          refine ⟨Lb, _, rfl, SqL.of hL7, _, rfl, ?_⟩
          cases e : (rs.map fun p => decide (asc (rest n sg) p = q)).any id with
          | false =>
            refine iteF ⟨sm5.trans sm7, us, sm7 _ _ hD5, ?_⟩
            rw [er, List.filter_append, List.filter_cons, if_neg (by rw [e]; decide), List.filter_nil, List.append_nil]
            exact ru.same sm7
          | true =>
            refine iteT ⟨_, rfl, _, sm7 _ _ hD5, by rw [List.length_map, sizeLine_eq]; omega, fun b o h => (upd_ne (ne_of_none h hD2)).trans (sm7 _ _ (sm5 b o h)), us ++ [t], ?_, RowsAt.put (sm7 _ _ hD5) ?_⟩
            · rw [upd_same, List.map_append]
              rfl
            · rw [er, List.filter_append, List.filter_cons, if_pos e]
              exact rows_snoc (ru.same sm7) (sm7 _ _ hqt6)
      rintro H5 ⟨sm5', us, hD5, ruK⟩
      rw [List.length_map, lfs, List.take_length] at ruK
      have ruK' : RowsAt H5 us (keptR n sg rs) := ruK
      rw [kept_eq D] at ruK'
      clear ruK
      have sm5 := sm4.trans sm5'
      have hW5 := (sm4'.trans sm5') _ _ hW3
      refine ⟨_, rfl, pc, rfl, ⟨_, SqL.of (sm5 _ _ hpc)⟩, fun D3 hD3 => lc_it (walk_list (xs := ts.map V.ref)) (fun i H6 => Same H5 H6 ∧ ∃ ws, H6 D3 = some (.lst (ws.map V.ref)) ∧ Paired (fun a r => a ≠ D3 ∧ H6 a = some (.lst (r.map V.str))) ws ((rs.take i).map (turnR n))) ⟨same_new hD3, [], upd_same, .nil⟩ (fun i H6 _ hh => SqL.of (hh.1 _ _ (sm5 _ _ hpc))) ?_ ?_⟩
      · rintro i v H6 H7 hi ⟨sm6, ws, hD6, rw6⟩ ⟨rfl, hv⟩
        obtain ⟨t, ht, rfl⟩ := get_map hv
        obtain ⟨row, hrow, hrt⟩ := RowsAt.get rows i t ht
        obtain ⟨qs, eqs, rfl, gq⟩ := full_names D.good (D.sub.subset (List.mem_of_getElem? hrow))
        have lqs : qs.length ≤ 60 := by
          have z := congrArg List.length eqs
          rw [List.length_map] at z
          omega
        have er : rs.take (i + 1) = rs.take i ++ [qs.map lit] := by rw [List.take_succ, hrow]; rfl
        have lws : ws.length ≤ 64 := by
          have z1 := Paired.length rw6
          rw [List.length_map, List.length_take] at z1
          omega
        have sm7 := sm5.trans sm6
        have hrt7 : _ = some (HO.tup ((qs.map lit).map V.str)) := sm7 _ _ hrt
        refine ⟨rfl, _, rfl, false, t, _, rfl, Sq.tup hrt7, fun L6 hL6 => lc_it walk_sq (fun j H8 => Same H7 H8 ∧ H8 L6 = some (.lst ((((qs.take j).map (turnQ n)).map lit).map V.str))) ⟨same_new hL6, upd_same⟩ (fun j H8 _ hh => Sq.tup (hh.1 _ _ hrt7)) ?_ ?_⟩
        · rintro j v2 H8 H9 hj ⟨sm8, hL8⟩ ⟨rfl, hv2⟩
          obtain ⟨l, hl, rfl⟩ := get_map hv2
          obtain ⟨q, hq', rfl⟩ := get_map hl
          have gq1 := gq q (List.mem_of_getElem? hq')
          have er2 : qs.take (j + 1) = qs.take j ++ [q] := by rw [List.take_succ, hq']; rfl
          have lt := List.length_take_le' j qs
          have step : ∃ acc, H9 L6 = some (.lst acc) ∧ acc.length < sizeLine ∧ Same H7 (upd H9 L6 (.lst (acc ++ [.str (lit (turnQ n q))]))) ∧ upd H9 L6 (.lst (acc ++ [.str (lit (turnQ n q))])) L6 = some (.lst ((((qs.take (j + 1)).map (turnQ n)).map lit).map V.str)) := by
            refine ⟨_, hL8, by rw [List.length_map, List.length_map, List.length_map, sizeLine_eq]; omega, fun c o h => (upd_ne (ne_of_none h hL6)).trans (sm8 c o h), ?_⟩
            rw [upd_same, er2, List.map_append, List.map_append, List.map_append]
            rfl
          refine ⟨rfl, _, rfl, q, rfl, gq1, _, rfl, rfl, _, rfl, ?_⟩
          by_cases e : q.2 = n
          · have e2 : decide (V.str q.2 = V.str n) = true := decide_eq_true (by rw [e])
            rw [e2]
            refine iteT ⟨_, rfl, q, rfl, gq1, ?_⟩
            have z : turnQ n q = opp q := if_pos e
            rw [← z]
            exact step
          · have e2 : decide (V.str q.2 = V.str n) = false := decide_eq_false fun h => e (by injection h)
            rw [e2]
            refine iteF ⟨_, rfl, ?_⟩
            have z : turnQ n q = q := if_neg e
            have s2 := step
            rw [z] at s2
            exact s2
        · rintro H8 ⟨sm8, hL8⟩
          rw [List.length_map, List.length_map, List.take_length] at hL8
          have ne3 : L6 ≠ D3 := (ne_of_none hD6 hL6).symm
          refine ⟨_, sm8 _ _ hD6, by rw [List.length_map, sizeLine_eq]; omega, fun b o h => (upd_ne (ne_of_none h hD3)).trans (sm8 _ _ (sm6 b o h)), ws ++ [L6], by rw [upd_same, List.map_append]; rfl, ?_⟩
          rw [er, List.map_append]
          refine Paired.snoc (Paired.mapP rw6 fun b z y => ⟨y.1, (upd_ne y.1).trans (sm8 _ _ y.2)⟩) ⟨ne3, (upd_ne ne3).trans ?_⟩
          rw [turnR_lit gq]
          exact hL8
      rintro H6 ⟨sm6', ws, hD6, rw6⟩
      rw [List.length_map, lts, List.take_length] at rw6
      have sm6 := sm5.trans sm6'
      have hx6 := sm6
      obtain ⟨dx, a, pl, hx, _⟩ := cx.at_
      have cx6 := cx.same sm6
      refine ⟨_, rfl, _, rfl, ⟨n, rfl⟩, x, dx, _, rfl, sm6 _ _ hx, x, r, n, sg, rs, rfl, cx6, D, nmem, fun p r1 H7 hp hr1' c1 sm7 => ⟨_, rfl, ?_⟩⟩
      have smW := sm6'.trans sm7
      refine ⟨_, rfl, _, rfl, p, r1, W, D2, rest n sg, us, _, rfl, c1, smW _ _ hW5, smW _ _ hD5, ruK'.same smW, allow_draw n6R ndR goodR _, fun H8 sm8 => ⟨_, rfl, iteF ?_⟩⟩
      have sm68 := sm7.trans sm8
      have cx8 := cx6.same sm68
      refine ⟨_, rfl, x, dx, _, rfl, sm68 _ _ (sm6 _ _ hx), fl_no (by decide +kernel), _, rfl, x, r, n, sg, rs, rfl, cx8, D, nmem, fun p2 r2 H9 hp2 hr2' c2 sm9 => ?_⟩
      have full : ∀ q ∈ rs.map (turnR n), q ∈ fulls sg := fun q hq => by
        obtain ⟨r0, hr0, rfl⟩ := List.mem_map.mp hq
        exact turnR_full D.good (D.sub.subset hr0)
      have sm69 := sm68.trans sm9
      obtain ⟨qss, u1, u2, u3⟩ := handed_lists (K := K) (H := H9) (sg := sg) (Paired.mapP rw6 fun a q z => sm69 _ _ z.2) fun q hq => full_of D.nd (full q hq)
      have lq : qss.length = rs.length := by
        have y := congrArg List.length u2
        rw [List.length_map, List.length_map] at y
        omega
      refine ⟨_, rfl, _, rfl, fun p3 dy hp3 hdy _ => ?_⟩
      refine make_rule (b1 := true) (b2 := true) (sg := sg) hp3 hdy (SqL.of ((sm6.trans sm69) _ _ hps)) (SqL.of (sm69 _ _ hD6)) l6 D.nd D.good u1 u3 (by omega) fun r3 H10 sm10 c3 hr3 => ⟨rfl, ?_⟩
      rw [rowsOf_fulls D.nd D.good u2 full] at c3
      have Da := allow_draw l6 D.nd D.good (rs.map (turnR n))
      obtain ⟨_, _, _, h2, _, _, hr2h⟩ := c2.at_
      obtain ⟨_, _, _, h3, _⟩ := c3.at_
      have ne : r2 ≠ r3 := ne_of_none hr2h hr3
      have ok := Da.ok
      refine ⟨.ref C, .base (.ins h3 T.cl L.CI.cl L.CI.gt L.CI.tk L.CI.ob), L.not2, p2, _, _, rfl, sm10 _ _ h2, p2, .ref p3, _, _, r2, rfl, c2.same sm10, ok.n60, ok.nd, ok.full, ok.few, .inl ⟨p3, _, _, r3, rfl, c3, ne, ok.n60, ok.nd, ok.good, fun H11 sm11 => ⟨_, rfl, _, rfl, ?_⟩⟩⟩
      rw [eq_same Da]
      exact iteF ⟨_, _, _, _, _, _, _, rfl, sm6.trans (sm69.trans (sm10.trans sm11))⟩
    · rintro σ H2 ⟨o3, o4, o5, o6, o7, o8, o9, rfl, sm⟩
      exact k H2 sm
end
end K6
/-! ### xs[::k], k a number from 1 on -/
namespace EV
open PySem PySem.Spec PyProof.Rows L2
def stepIx (k n : Nat) : List Nat := sliceRange (sliceBounds none none (some (k : Int)) n).1 (sliceBounds none none (some (k : Int)) n).2.1 (sliceBounds none none (some (k : Int)) n).2.2
def pickS {α : Type} (k : Nat) (xs : List α) : List α := (stepIx k xs.length).filterMap fun i => xs[i]?
theorem vals_pick {xs : List V} {us : List Value} (h : Vals xs us) : ∀ ix : List Nat, Vals (ix.filterMap fun i => xs[i]?) (ix.filterMap fun i => us[i]?)
  | [] => .nil
  | i :: ix => by
    have ih := vals_pick h ix
    have rel : ∀ {xs : List V} {us : List Value}, Vals xs us → ∀ i : Nat, (xs[i]? = none ∧ us[i]? = none) ∨ ∃ x u, xs[i]? = some x ∧ us[i]? = some u ∧ RelV x u := by
      intro xs us h
      induction h with
      | nil => exact fun i => .inl ⟨rfl, rfl⟩
      | cons a _ ih =>
        intro i
        cases i with
        | zero => exact .inr ⟨_, _, rfl, rfl, a⟩
        | succ i => exact ih i
    rcases rel h i with ⟨e1, e2⟩ | ⟨x, u, e1, e2, r⟩
    · rw [List.filterMap_cons_none e1, List.filterMap_cons_none e2]
      exact ih
    · rw [List.filterMap_cons_some e1, List.filterMap_cons_some e2]
      exact .cons r ih
def tStepS (K : PySem.W.Frag) (k : Nat) (te : TE) : TE := fun σ H Q => te σ H fun x H1 => ∃ a xs, x = .ref a ∧ SqL K H1 a xs ∧ (pickS k xs).length ≤ sizeLine ∧ ∀ p, H1 p = none → Q (.ref p) (upd H1 p (.lst (pickS k xs)))
theorem pe_stepS {X : Cx} {e : Expr} {te : TE} {n k : Nat} {p1 p3 pos : Pos} (hn : some (n : Int) ≠ some 0) (he : PE X e te) : PE X (.Subscript e (.Slice none none (some (.Constant (.int (n : Int)) k p1)) p3) pos) (tStepS X.K n te) := by
  refine ⟨fun pins s σ H Q I h => ?_⟩
  refine Subscript_ (thn (he.run pins s σ H _ I h) fun v s1 ⟨x, H1, I1, r1, q1⟩ => ?_)
  obtain ⟨a, xs, ex, hx, lp, q⟩ := q1
  subst ex
  cases r1
  have hst : PO X (some (.Constant (.int (n : Int)) k p1)) (tPart (tC (.int (n : Int)))) := po_some pe_int
  refine wpAny_Slice (thn (po_none.run pins s1 σ H1 (fun o H2 => o = none ∧ H2 = H1) I1 ⟨rfl, rfl⟩) fun vl s2 ⟨l, H2, I2, pl, el, e2⟩ => ?_)
  subst el e2
  refine thn (po_none.run pins s2 σ H2 (fun o H3 => o = none ∧ H3 = H2) I2 ⟨rfl, rfl⟩) fun vu s3 ⟨u, H3, I3, pu, eu, e3⟩ => ?_
  subst eu e3
  refine thn (hst.run pins s3 σ H3 (fun o H4 => o = some (n : Int) ∧ H4 = H3) I3 ⟨_, rfl, rfl, rfl⟩) fun vs s4 ⟨o, H4, I4, ps, eo, e4⟩ => ?_
  subst eo e4
  have I5 : Inv X pins σ H4 { s4 with heap := s4.heap.push { cls := .type "slice", data := .fields #[vl, vu, vs] } } := I4.kept (t' := s4.toks) fun b ob q => Heap.get?_push_of_some _ q
  obtain ⟨its, r, ht, hz⟩ := I5.list hx
  have hlen := r.length
  show wpAny (model X.prog X.w) X.A (subscriptTail e (.Slice none none (some (.Constant (.int (n : Int)) k p1)) p3) (.ref a) (.ref s4.heap.objs.size)) (EP X pins σ Q) X.xe { s4 with heap := s4.heap.push { cls := .type "slice", data := .fields #[vl, vu, vs] } }
  refine tail_any (ops := [.ref a, .ref s4.heap.objs.size]) ht.isList.typeIs (PySem.slot_list_getitem.lookup) ?_ (by with_unfolding_all rfl)
  refine wpAny_getItem_list_slice ht.isList (Heap.IsSliceOf.new _ vl vu vs) pl pu ps hn ?_ (by rw [List.size_toArray]; omega)
  have vp : Vals (pickS n xs) ((stepIx n xs.length).filterMap fun i => its[i]?) := vals_pick r _
  have e : slicePick its.toArray none none (some (n : Int)) = ((stepIx n xs.length).filterMap fun i => its[i]?).toArray := by
    unfold slicePick stepIx
    rw [List.size_toArray, ← hlen]
    simp only [List.getElem?_toArray]
  rw [e]
  refine ⟨.ref _, _, I5.laid (t' := s4.toks) (o := .lst (pickS n xs)) (fun b ob q => Heap.get?_push_of_some _ q) (Nat.le_refl _) ?_, rfl, q _ (I5.hok.fresh (Nat.le_refl _))⟩
  exact ⟨lp, _, 0, vp, Heap.get?_push_size _ rfl⟩
end EV
namespace K6
open PySem PySem.Spec PyProof.Rows L2 LamX NdefX EV
/-! ### what the law reckons of two rules together -/
def lawBin (g : Bool → Bool → Bool) (ns sg : List Str) (cs : List (List Str)) (sg' : List Str) (ds : List (List Str)) : List (List Str) := (fulls ns).filter fun q => g (decide (asc sg q ∈ cs)) (decide (asc sg' q ∈ ds))
theorem sub_full {ns sg q : List Str} (nd : ns.Nodup) (good : ∀ z ∈ ns, Name1 z) (nds : sg.Nodup) (sub : ∀ z ∈ sg, z ∈ ns) (h : q ∈ fulls ns) : asc sg q ∈ fulls sg := by
  obtain ⟨qs, e, rfl, hl⟩ := fulls_lits nd h
  have goods : ∀ z ∈ sg, Name1 z := fun z hz => good z (sub z hz)
  rw [← pickN_asc goods good hl]
  exact asc_any nds goods (pickN_lits hl) (pickN_len nds hl e sub)
theorem bin_eq {g : Bool → Bool → Bool} {ns sg sg' : List Str} {cs ds : List (List Str)} (e : join sg sg' = ns) (nd : ns.Nodup) (good : ∀ z ∈ ns, Name1 z) (nds : sg.Nodup) (nds' : sg'.Nodup) : joinR g sg (allow sg cs) sg' (allow sg' ds) = lawBin g ns sg cs sg' ds := by
  unfold joinR lawBin
  rw [e]
  refine List.filter_congr fun q hq => ?_
  have s1 : ∀ z ∈ sg, z ∈ ns := fun z hz => by rw [← e]; exact join_mem.mpr (.inl hz)
  have s2 : ∀ z ∈ sg', z ∈ ns := fun z hz => by rw [← e]; exact join_mem.mpr (.inr hz)
  have a1 : decide (asc sg q ∈ allow sg cs) = decide (asc sg q ∈ cs) := decide_eq_decide.mpr (allow_mem.trans (and_iff_right (sub_full nd good nds s1 hq)))
  have a2 : decide (asc sg' q ∈ allow sg' ds) = decide (asc sg' q ∈ ds) := decide_eq_decide.mpr (allow_mem.trans (and_iff_right (sub_full nd good nds' s2 hq)))
  rw [a1, a2]
theorem join_six {a b c d e f : Str} (nd : [a, b, c, d, e, f].Nodup) : join [a, b, c, d] [c, d, e, f] = [a, b, c, d, e, f] := by
  unfold join
  simp only [List.nodup_cons, List.mem_cons, not_or] at nd
  obtain ⟨⟨_, _, _, n1, n2, _⟩, ⟨_, _, n3, n4, _⟩, ⟨_, n5, n6, _⟩, ⟨n7, n8, _⟩, _⟩ := nd
  rw [List.filter_cons, if_neg (by simp), List.filter_cons, if_neg (by simp), List.filter_cons, if_pos (by simp; exact ⟨Ne.symm n1, Ne.symm n3, Ne.symm n5, Ne.symm n7⟩), List.filter_cons, if_pos (by simp; exact ⟨Ne.symm n2, Ne.symm n4, Ne.symm n6, Ne.symm n8⟩)]
  rfl
theorem pick_map {α β : Type} {f : α → β} {k : Nat} {xs : List α} : pickS k (xs.map f) = (pickS k xs).map f := by
  unfold pickS
  rw [List.map_filterMap, List.length_map]
  congr 1
  funext i
  exact List.getElem?_map
theorem pick_mem {α : Type} {k : Nat} {xs : List α} {x : α} (h : x ∈ pickS k xs) : x ∈ xs := by
  obtain ⟨i, _, e⟩ := List.mem_filterMap.mp h
  exact List.mem_of_getElem? e
theorem pick_len {α : Type} {k : Nat} {xs : List α} (h : xs.length = 16) : (pickS k xs).length ≤ (stepIx k 16).length := by
  unfold pickS
  rw [h]
  exact List.length_filterMap_le _ _
theorem pick3 : (stepIx 3 16).length = 6 := by decide +kernel
theorem pick2 : (stepIx 2 16).length = 8 := by decide +kernel
theorem rows_pickI {H : Hp} {ts : List Addr} {rs : List (List Str)} (h : RowsAt H ts rs) : ∀ ix : List Nat, RowsAt H (ix.filterMap fun i => ts[i]?) (ix.filterMap fun i => rs[i]?)
  | [] => .nil
  | i :: ix => by
    have ih := rows_pickI h ix
    cases e : ts[i]? with
    | none =>
      have e2 : rs[i]? = none := by
        have l : ts.length = rs.length := Paired.length h
        rw [List.getElem?_eq_none_iff] at e ⊢
        omega
      rw [List.filterMap_cons_none e, List.filterMap_cons_none e2]
      exact ih
    | some t =>
      obtain ⟨r, e2, ht⟩ := RowsAt.get h i t e
      rw [List.filterMap_cons_some e, List.filterMap_cons_some e2]
      exact .cons ht ih
theorem rows_pick {H : Hp} {k : Nat} {ts : List Addr} {rs : List (List Str)} (h : RowsAt H ts rs) : RowsAt H (pickS k ts) (pickS k rs) := by
  have l : ts.length = rs.length := Paired.length h
  unfold pickS
  rw [l]
  exact rows_pickI h _
theorem and_case {c1 c2 : Bool} {i : Nat} {σ : L2.St} {H : Hp} {Q : VK} (h9 : σ[i]? = some (some (.bl c2))) (h : Q (.bl (c1 && c2)) H) : if c1 = true then tVar i σ H Q else Q (.bl false) H := by
  cases c1
  · exact h
  · exact ⟨_, h9, h⟩
theorem or_case {c1 c2 : Bool} {i : Nat} {σ : L2.St} {H : Hp} {Q : VK} (h9 : σ[i]? = some (some (.bl c2))) (h : Q (.bl (c1 || c2)) H) : if c1 = true then Q (.bl true) H else tVar i σ H Q := by
  cases c1
  · exact ⟨_, h9, h⟩
  · exact h
theorem take_filter {α : Type} {p : α → Bool} {xs : List α} {i : Nat} {x : α} (h : xs[i]? = some x) : (xs.take (i + 1)).filter p = (xs.take i).filter p ++ (if p x = true then [x] else []) := by
  have e : xs.take (i + 1) = xs.take i ++ [x] := by rw [List.take_succ, h]; rfl
  rw [e, List.filter_append, List.filter_cons, List.filter_nil]
/-- [t] * int(b) behind the rows -/
theorem rep_rows {H : Hp} {ws : List Addr} {rs : List (List Str)} {t : Addr} {q : List Str} (b : Bool) (h : RowsAt H ws rs) (ht : TupAt H t q) : ∃ ws' : List Addr, ws.map V.ref ++ (List.replicate (if b = true then (1 : Int) else 0).toNat [V.ref t]).flatten = ws'.map V.ref ∧ RowsAt H ws' (rs ++ if b = true then [q] else []) ∧ ws'.length ≤ ws.length + 1 := by
  cases b
  · refine ⟨ws, ?_, ?_, Nat.le_succ _⟩
    · exact List.append_nil _
    · exact (List.append_nil rs).symm ▸ h
  · refine ⟨ws ++ [t], ?_, rows_snoc h ht, by rw [List.length_append]; exact Nat.le_refl _⟩
    rw [List.map_append]
    rfl
def spSix (K : PySem.W.Frag) (C : Addr) : Sp := fun vs H Q _ => ∃ (pn : Addr) (ns : List Str), vs = [.ref pn] ∧ H pn = some (.lst (ns.map V.str)) ∧ ns.length = 6 ∧ ns.Nodup ∧ (∀ z ∈ ns, Name1 z) ∧ ∀ H', Same H H' → Q (.bl true) H'
abbrev nSix : List Str := ["_law_names_here", "_law_c", "_law_d", "_law_one", "_law_other", "_law_some", "_law_any_of", "_law_full", "_law_is_first", "_law_is_second"]
theorem scSix : FnScope nSix ["_law_names_here"] (defScope sSix) := ⟨rfl, rfl, rfl, by decide +kernel, rfl, by decide +kernel, by decide +kernel⟩
section
variable {P : Program} {w : World} {K : PySem.W.Frag} {mg : Str → Option Value} {base : Heap} {f C : Addr} {fd : FuncData}
theorem ok_six (F : Fun K "_law_are_six" "_law_are_six" sSix f fd) (L : LT4 P w K mg base C) :
    FnG P w K mg base 8 f fd ["_law_names_here"] (spSix K C) := by
  have T := L.T
  obtain ⟨fI, fdI, M, GI, bI⟩ := L.make
  obtain ⟨fA, fdA, FA, hsA, hfA, bA⟩ := L.and_
  obtain ⟨fO, fdO, FO, hsO, hfO, bO⟩ := L.or_
  refine fng_of F scSix (fun vs H Q E h => ?_) (fun cdv A outer s H vs Q E hg hr h => ?_)
  · obtain ⟨pn, ns, rfl, _⟩ := h
    rfl
  · obtain ⟨pn, ns, rfl, hpn, l6, nd, good, k⟩ := h
    have hu := hu_of hr
    have hr1 : Room 1 _ := hr.mono (by decide)
    have hr2 : Room 2 _ := hr.mono (by decide)
    have hr6 : Room 6 _ := hr.mono (by decide)
    refine ⟨_, pss_cons (ps_par (i := 1) (j := 2) rfl scSix.nd rfl rfl (by decide) (by rfl) (by rfl) (pa_cons (pe_stepS (n := 3) (by decide) (pe_callH L.fulls hr1 (by rfl) (pa_cons (pe_slice sl_list (pv 0) po_none (po_some pe_int)) pa_nil))) (pa_cons (pe_stepS (n := 2) (by decide) (pe_callH L.fulls hr1 (by rfl) (pa_cons (pe_slice sl_list (pv 0) (po_some pe_int) po_none) pa_nil))) pa_nil)) rfl)
      (pss_cons (ps_asg (pe_tup (pa_cons (pe_make M GI hr6 (by rfl) T.mgC bI .nil pass0 (pa_cons (pe_slice sl_list (pv 0) po_none (po_some pe_int)) (pa_cons (pv 1) pa_nil))) (pa_cons (pe_make M GI hr6 (by rfl) T.mgC bI .nil pass0 (pa_cons (pe_slice sl_list (pv 0) (po_some pe_int) po_none) (pa_cons (pv 2) pa_nil))) (pa_cons (pe_lst pa_nil) (pa_cons (pe_lst pa_nil) pa_nil)))))
          (pg_tup (by rfl) (pgs_cons (pg_name (i := 3) scSix.nd rfl (.inl rfl)) (pgs_cons (pg_name (i := 4) scSix.nd rfl (.inl rfl)) (pgs_cons (pg_name (i := 5) scSix.nd rfl (.inl rfl)) (pgs_cons (pg_name (i := 6) scSix.nd rfl (.inl rfl)) pgs_nil))))))
      (pss_cons (ps_for PassesOwn.never rfl (pi_list (pe_callH L.fulls hr1 (by rfl) (pa_cons (pv 0) pa_nil))) (pg_name (i := 7) scSix.nd rfl (.inl rfl))
          (pss_cons (ps_par (i := 8) (j := 9) rfl scSix.nd rfl rfl (by decide) (by rfl) (by rfl) (pa_cons (pe_cmpR (op_inRows hu) (pe_callH L.up hr1 (by rfl) (pa_cons (pv 7) (pa_cons (pe_slice sl_list (pv 0) po_none (po_some pe_int)) pa_nil))) (pv 1) rfl) (pa_cons (pe_cmpR (op_inRows hu) (pe_callH L.up hr1 (by rfl) (pa_cons (pv 7) (pa_cons (pe_slice sl_list (pv 0) (po_some pe_int) po_none) pa_nil))) (pv 2) rfl) pa_nil)) rfl)
          (pss_cons (ps_expr (pe_bm PySem.F.plainAttrs_list PySem.F.slot_list_extend PySem.F.type_list_extend mt_extend (pv 5) (pa_cons (pe_op op_rep (pe_lst (pa_cons (pv 7) pa_nil)) (pe_callTy call_int1 (by rfl) L.int (by decide +kernel) (pa_cons (pe_and (pv 8) (pe_one (pv 9))) pa_nil))) pa_nil)))
          (pss_one (ps_expr (pe_bm PySem.F.plainAttrs_list PySem.F.slot_list_extend PySem.F.type_list_extend mt_extend (pv 6) (pa_cons (pe_op op_rep (pe_lst (pa_cons (pv 7) pa_nil)) (pe_callTy call_int1 (by rfl) L.int (by decide +kernel) (pa_cons (pe_or (pv 8) (pe_one (pv 9))) pa_nil))) pa_nil)))))))
      (pss_one (ps_ret (pe_and (pe_callHG L.is_ hg hr2 (by rfl) (pa_cons (pe_op (op_binOwn FA L.self1 hsA hfA bA pass0 hr) (pv 3) (pv 4)) (pa_cons (pv 0) (pa_cons (pv 5) pa_nil))))
          (pe_one (pe_callHG L.is_ hg hr2 (by rfl) (pa_cons (pe_op (op_binOwn FO L.self1 hsO hfO bO pass0 hr) (pv 3) (pv 4)) (pa_cons (pv 0) (pa_cons (pv 6) pa_nil)))))))))), ?_⟩
    obtain ⟨a, b, c, d, e, f', rfl⟩ : ∃ a b c d e f, ns = [a, b, c, d, e, f] := by
      match ns, l6 with
      | [a, b, c, d, e, f], _ => exact ⟨_, _, _, _, _, _, rfl⟩
    have eq4 : cutV ([a, b, c, d, e, f'].map V.str) none (some 4) = [a, b, c, d].map V.str := rfl
    have eq2 : cutV ([a, b, c, d, e, f'].map V.str) (some 2) none = [c, d, e, f'].map V.str := rfl
    have ej := join_six nd
    have sub4 : ∀ z ∈ [a, b, c, d], z ∈ [a, b, c, d, e, f'] := fun z hz => by rw [← ej]; exact join_mem.mpr (.inl hz)
    have sub2 : ∀ z ∈ [c, d, e, f'], z ∈ [a, b, c, d, e, f'] := fun z hz => by rw [← ej]; exact join_mem.mpr (.inr hz)
    have nd4 : [a, b, c, d].Nodup := nd.sublist (List.take_sublist 4 [a, b, c, d, e, f'])
    have nd2 : [c, d, e, f'].Nodup := nd.sublist (List.drop_sublist 2 [a, b, c, d, e, f'])
    have eb : ∀ (g : Bool → Bool → Bool) (cs ds : List (List Str)), joinR g [a, b, c, d] (allow [a, b, c, d] cs) [c, d, e, f'] (allow [c, d, e, f'] ds) = lawBin g [a, b, c, d, e, f'] [a, b, c, d] cs [c, d, e, f'] ds := fun g cs ds => bin_eq ej nd good nd4 nd2
    have good4 : ∀ z ∈ [a, b, c, d], Name1 z := fun z hz => good z (sub4 z hz)
    have good2 : ∀ z ∈ [c, d, e, f'], Name1 z := fun z hz => good z (sub2 z hz)
    have n4 : [a, b, c, d].length = 4 := rfl
    have n2 : [c, d, e, f'].length = 4 := rfl
    generalize [a, b, c, d, e, f'] = ns at *
    generalize [a, b, c, d] = s4 at eq4 ej sub4 nd4 eb good4 n4
    generalize [c, d, e, f'] = s2 at eq2 ej sub2 nd2 eb good2 n2
    have l16 : ∀ {sg : List Str}, sg.length = 4 → (fulls sg).length = 16 := fun h => by rw [fulls_len, h]
    refine ⟨_, rfl, _, rfl, pn, _, rfl, SqL.of hpn, fun p1 hp1 => ?_⟩
    rw [eq4]
    have s1 : Same H _ := same_new (o := .lst (s4.map V.str)) hp1
    refine ⟨p1, s4, rfl, (fun H' s' => SqL.of (s' _ _ upd_same)), by omega, (fun z hz => (good4 z hz).2.1), fun pf fs H2 hpf hpf2 rowsF sm2' => ?_⟩
    have sm2 := s1.trans sm2'
    have lf : fs.length = 16 := (Paired.length rowsF).trans (l16 n4)
    refine ⟨pf, _, rfl, SqL.of hpf2, ?_, fun pc hpc => ?_⟩
    · rw [pick_map, List.length_map]
      refine Nat.le_trans (pick_len lf) ?_
      rw [pick3]
      decide
    rw [pick_map]
    have s3 : Same H2 _ := same_new (o := .lst ((pickS 3 fs).map V.ref)) hpc
    have hpc3 : upd H2 pc (.lst ((pickS 3 fs).map V.ref)) pc = some (.lst ((pickS 3 fs).map V.ref)) := upd_same
    have rC : RowsAt _ (pickS 3 fs) (pickS 3 (fulls s4)) := (rows_pick rowsF).same s3
    have lC : (pickS 3 fs).length ≤ 16 := by
      have z := pick_len (k := 3) lf
      rw [pick3] at z
      omega
    generalize upd H2 pc (.lst ((pickS 3 fs).map V.ref)) = H3 at s3 hpc3 rC ⊢
    generalize pickS 3 fs = cf at hpc3 rC lC ⊢
    have memC : ∀ q ∈ pickS 3 (fulls s4), q ∈ fulls s4 := fun q hq => pick_mem hq
    generalize pickS 3 (fulls s4) = cs at rC memC ⊢
    have sm3 := sm2.trans s3
    refine ⟨_, rfl, _, rfl, pn, _, rfl, SqL.of (sm3 _ _ hpn), fun p2 hp2 => ?_⟩
    rw [eq2]
    have s4' : Same H3 _ := same_new (o := .lst (s2.map V.str)) hp2
    refine ⟨p2, s2, rfl, (fun H' s' => SqL.of (s' _ _ upd_same)), by omega, (fun z hz => (good2 z hz).2.1), fun pg gs H4 hpg hpg2 rowsG sm4' => ?_⟩
    have sm34 := s4'.trans sm4'
    have lg : gs.length = 16 := (Paired.length rowsG).trans (l16 n2)
    refine ⟨pg, _, rfl, SqL.of hpg2, ?_, fun pd hpd => ?_⟩
    · rw [pick_map, List.length_map]
      refine Nat.le_trans (pick_len lg) ?_
      rw [pick2]
      decide
    rw [pick_map]
    have s5 : Same H4 _ := same_new (o := .lst ((pickS 2 gs).map V.ref)) hpd
    have hpd5 : upd H4 pd (.lst ((pickS 2 gs).map V.ref)) pd = some (.lst ((pickS 2 gs).map V.ref)) := upd_same
    have rD : RowsAt _ (pickS 2 gs) (pickS 2 (fulls s2)) := (rows_pick rowsG).same s5
    have lD : (pickS 2 gs).length ≤ 16 := by
      have z := pick_len (k := 2) lg
      rw [pick2] at z
      omega
    generalize upd H4 pd (.lst ((pickS 2 gs).map V.ref)) = H5 at s5 hpd5 rD ⊢
    generalize pickS 2 gs = df at hpd5 rD lD ⊢
    have memD : ∀ q ∈ pickS 2 (fulls s2), q ∈ fulls s2 := fun q hq => pick_mem hq
    generalize pickS 2 (fulls s2) = ds at rD memD ⊢
    have sm35 := sm34.trans s5
    have sm5 := sm3.trans sm35
    have hpc5 := sm35 _ _ hpc3
    have rC5 := rC.same sm35
    have hpn5 := sm5 _ _ hpn
    have lcs : cs.length ≤ 16 := by rw [← Paired.length rC]; exact lC
    have lds : ds.length ≤ 16 := by rw [← Paired.length rD]; exact lD
    refine ⟨_, _, rfl, ?_⟩
    refine ⟨_, rfl, _, rfl, pn, _, rfl, SqL.of hpn5, fun p3 hp3 => ?_⟩
    rw [eq4]
    have s6 : Same H5 _ := same_new (o := .lst (s4.map V.str)) hp3
    obtain ⟨qss, u1, u2, u3⟩ := handed_full (K := K) (rC5.same s6) fun q hq => full_of nd4 (memC q hq)
    have lq : qss.length = cs.length := by
      have y := congrArg List.length u2
      rw [List.length_map] at y
      omega
    refine ⟨_, rfl, fun x dx hx hdx _ => ?_⟩
    refine make_rule (b1 := true) (b2 := true) (sg := s4) hx hdx (SqL.of upd_same) (SqL.of (s6 _ _ hpc5)) (by omega) nd4 good4 u1 u3 (by omega) fun r H6 sm6' c1 fresh => ⟨rfl, ?_⟩
    rw [rowsOf_fulls nd4 good4 u2 memC] at c1
    have sm6 := s6.trans sm6'
    refine ⟨_, rfl, _, rfl, pn, _, rfl, SqL.of (sm6 _ _ hpn5), fun p4 hp4 => ?_⟩
    rw [eq2]
    have s7 : Same H6 _ := same_new (o := .lst (s2.map V.str)) hp4
    obtain ⟨qss', v1, v2, v3⟩ := handed_full (K := K) (rD.same (sm6.trans s7)) fun q hq => full_of nd2 (memD q hq)
    have lq' : qss'.length = ds.length := by
      have y := congrArg List.length v2
      rw [List.length_map] at y
      omega
    refine ⟨_, rfl, fun y dy hy hdy _ => ?_⟩
    refine make_rule (b1 := true) (b2 := true) (sg := s2) hy hdy (SqL.of upd_same) (SqL.of ((sm6.trans s7) _ _ hpd5)) (by omega) nd2 good2 v1 v3 (by omega) fun r' H7 sm7' c2 fresh' => ⟨rfl, ?_⟩
    rw [rowsOf_fulls nd2 good2 v2 memD] at c2
    have sm7 := sm6.trans (s7.trans sm7')
    have c1' := c1.same (s7.trans sm7')
    refine ⟨Nat.zero_le _, fun L5 hL5 => ⟨Nat.zero_le _, fun L6 hL6 => ⟨by show 4 ≤ sizeLine; decide, fun tp htp => ⟨tp, _, rfl, SqT.of upd_same, rfl, _, _, rfl, _, _, rfl, _, _, rfl, _, _, rfl, rfl, ?_⟩⟩⟩⟩
    have t1 : Same H7 _ := same_new (o := .lst []) hL5
    have t2 : Same _ _ := same_new (o := .lst []) hL6
    have t3 : Same _ _ := same_new (o := .tup [.ref x, .ref y, .ref L5, .ref L6]) htp
    have w5 := (t2.trans t3) _ _ (upd_same (H := H7) (a := L5) (o := .lst []))
    have w6 := t3 _ _ (upd_same (H := upd H7 L5 (.lst [])) (a := L6) (o := .lst []))
    have t0 := t1.trans (t2.trans t3)
    have ne56 : L5 ≠ L6 := ne_of_none (upd_same (H := H7) (a := L5) (o := .lst [])) hL6
    generalize upd (upd (upd H7 L5 (.lst [])) L6 (.lst [])) tp (.tup [.ref x, .ref y, .ref L5, .ref L6]) = H8 at t0 w5 w6 ⊢
    have sm8 := sm7.trans t0
    have far : ∀ {z : Addr} {o : HO}, H7 z = some o → z ≠ L5 ∧ z ≠ L6 := fun {z o} h => ⟨ne_of_none h hL5, ne_of_none (t1 _ _ h) hL6⟩
    have c1'' := c1'.same t0
    have c2'' := c2.same t0
    refine ⟨_, rfl, pn, ns, rfl, (fun H' s' => SqL.of (s' _ _ (sm8 _ _ hpn5))), by omega, (fun z hz => (good z hz).2.1), fun pF FS H9 hpF hpF9 rowsN sm9 => ?_⟩
    have lFS : FS.length = (fulls ns).length := Paired.length rowsN
    have f64 := fulls_few (Nat.le_of_eq l6)
    have w5' := sm9 _ _ w5
    have w6' := sm9 _ _ w6
    have two : Two H9 L5 L6 := ⟨⟨_, w5'⟩, ⟨_, w6'⟩⟩
    have nF : pF ≠ L5 ∧ pF ≠ L6 := ⟨(ne_of_none w5 hpF).symm, (ne_of_none w6 hpF).symm⟩
    have sm79 := t0.trans sm9
    have hpn7 := sm7 _ _ hpn5
    have hpc7 := sm7 _ _ hpc5
    have hpd7 := sm7 _ _ hpd5
    have hpn9 := sm79 _ _ hpn7
    have hpc9 := sm79 _ _ hpc7
    have hpd9 := sm79 _ _ hpd7
    have rC9 := rC5.same (sm7.trans sm79)
    have rD9 := rD.same (sm7.trans sm79)
    have cx9 := c1''.same sm9
    have cy9 := c2''.same sm9
    refine ⟨pF, rfl, ⟨_, SqL.of hpF9⟩, for_list (K := K) (a := pF) (xs := FS.map V.ref) (fun i σ H' => ∃ o7 o8 o9, σ = [some (.ref pn), some (.ref pc), some (.ref pd), some (.ref x), some (.ref y), some (.ref L5), some (.ref L6), o7, o8, o9] ∧ Kept L5 L6 H9 H' ∧ Two H' L5 L6 ∧
        (∃ ws, H' L5 = some (.lst (ws.map V.ref)) ∧ RowsAt H' ws (((fulls ns).take i).filter fun q => and (decide (asc s4 q ∈ cs)) (decide (asc s2 q ∈ ds)))) ∧ (∃ ws, H' L6 = some (.lst (ws.map V.ref)) ∧ RowsAt H' ws (((fulls ns).take i).filter fun q => or (decide (asc s4 q ∈ cs)) (decide (asc s2 q ∈ ds)))))
      ⟨_, _, _, rfl, Kept.refl _, two, ⟨[], w5', .nil⟩, [], w6', .nil⟩ (fun i σ H' _ ⟨_, _, _, _, kk, _⟩ => SqL.of (lst_kept hpF9 kk nF)) ?_ ?_⟩
    · rintro i v σ HA hv ⟨o7, o8, o9, rfl, kk, tw, ⟨ws, hw5, rw5⟩, us, hu6, ru6⟩
      obtain ⟨t, ht, rfl⟩ := get_map hv
      obtain ⟨q, hq, hqt⟩ := RowsAt.get rowsN i t ht
      have lws : ws.length ≤ 64 := by
        have z1 := Paired.length rw5
        have z2 := List.length_filter_le (fun q => and (decide (asc s4 q ∈ cs)) (decide (asc s2 q ∈ ds))) ((fulls ns).take i)
        have z3 := List.length_take_le' i (fulls ns)
        omega
      have lus : us.length ≤ 64 := by
        have z1 := Paired.length ru6
        have z2 := List.length_filter_le (fun q => or (decide (asc s4 q ∈ cs)) (decide (asc s2 q ∈ ds))) ((fulls ns).take i)
        have z3 := List.length_take_le' i (fulls ns)
        omega
      have hqtA := (RowsAt.kept rowsN two kk).get i t ht
      obtain ⟨q', hq', hqtA⟩ := hqtA
      rw [hq] at hq'
      injection hq' with hq'
      subst hq'
      have hpnA := lst_kept hpn9 kk (far hpn7)
      have hpcA := lst_kept hpc9 kk (far hpc7)
      have hpdA := lst_kept hpd9 kk (far hpd7)
      have rCA := RowsAt.kept rC9 two kk
      have rDA := RowsAt.kept rD9 two kk
      refine ⟨_, rfl, _, rfl, _, rfl, pn, _, rfl, SqL.of hpnA, fun p8 hp8 => ?_⟩
      rw [eq4]
      have a1 : Same HA _ := same_new (o := .lst (s4.map V.str)) hp8
      have hqt1 : _ = some (HO.tup (q.map V.str)) := a1 _ _ hqtA
      refine ⟨t, p8, false, q, s4, rfl, Sq.tup hqt1, (fun H' s' => Sq.tup (s' _ _ hqt1)), SqL.of upd_same, (fun H' s' => SqL.of (s' _ _ upd_same)), by omega, (fun z hz => (good4 z hz).2.1), fun pu HB hpu hpu3 smB' => ?_⟩
      have smB := a1.trans smB'
      refine ⟨_, rfl, pu, pc, asc s4 q, cf, cs, rfl, hpu3, rfl, SqL.of (smB _ _ hpcA), rCA.same smB, ?_⟩
      refine ⟨_, rfl, _, rfl, _, rfl, pn, _, rfl, SqL.of (smB _ _ hpnA), fun p9 hp9 => ?_⟩
      rw [eq2]
      have a2 : Same HB _ := same_new (o := .lst (s2.map V.str)) hp9
      have hqt2 : _ = some (HO.tup (q.map V.str)) := (smB.trans a2) _ _ hqtA
      refine ⟨t, p9, false, q, s2, rfl, Sq.tup hqt2, (fun H' s' => Sq.tup (s' _ _ hqt2)), SqL.of upd_same, (fun H' s' => SqL.of (s' _ _ upd_same)), by omega, (fun z hz => (good2 z hz).2.1), fun pu2 HC hpu2 hpu23 smC' => ?_⟩
      have smC := smB.trans (a2.trans smC')
      refine ⟨_, rfl, pu2, pd, asc s2 q, df, ds, rfl, hpu23, rfl, SqL.of (smC _ _ hpdA), rDA.same smC, ?_⟩
      refine ⟨_, _, rfl, ?_⟩
      generalize hc1 : decide (asc s4 q ∈ cs) = c1
      generalize hc2 : decide (asc s2 q ∈ ds) = c2
      have hw5C := smC _ _ hw5
      have hu6C := smC _ _ hu6
      have hqtC := smC _ _ hqtA
      refine ⟨_, rfl, .inl ⟨rfl, _, SqL.of hw5C⟩, _, rfl, by show 1 ≤ sizeLine; decide, fun m1 hm1 => ?_⟩
      have b1 : Same HC _ := same_new (o := .lst [.ref t]) hm1
      refine ⟨_, rfl, _, rfl, and_case (c2 := c2) rfl (.inr ⟨_, rfl, ?_⟩)⟩
      refine ⟨m1, _, _, rfl, rfl, upd_same, by cases c1 <;> cases c2 <;> decide, by cases c1 <;> cases c2 <;> decide, by show 1 * _ ≤ sizeLine; cases c1 <;> cases c2 <;> decide, fun m2 hm2 => ?_⟩
      have b2 : Same _ _ := same_new (o := .lst (List.replicate (if (c1 && c2) = true then (1 : Int) else 0).toNat [V.ref t]).flatten) hm2
      have b12 := b1.trans b2
      obtain ⟨ws', e5, r5, l5⟩ := rep_rows (c1 && c2) (rw5.same (smC.trans b12)) (b12 _ _ hqtC)
      refine ⟨L5, m2, _, _, rfl, rfl, b12 _ _ hw5C, upd_same, ?_, ?_⟩
      · have z := congrArg List.length e5
        rw [List.length_append, List.length_map, List.length_map] at z
        rw [List.length_map, sizeLine_eq]
        omega
      rw [e5]
      have h5D : upd (upd (upd HC m1 (.lst [.ref t])) m2 (.lst (List.replicate (if (c1 && c2) = true then (1 : Int) else 0).toNat [V.ref t]).flatten)) L5 (.lst (ws'.map V.ref)) L5 = some (.lst (ws'.map V.ref)) := upd_same
      have r5D := RowsAt.put (o := .lst (ws'.map V.ref)) (b12 _ _ hw5C) r5
      have h6D : upd (upd (upd HC m1 (.lst [.ref t])) m2 (.lst (List.replicate (if (c1 && c2) = true then (1 : Int) else 0).toNat [V.ref t]).flatten)) L5 (.lst (ws'.map V.ref)) L6 = _ := (upd_ne ne56.symm).trans (b12 _ _ hu6C)
      have ru6D := RowsAt.put (o := .lst (ws'.map V.ref)) (b12 _ _ hw5C) (ru6.same (smC.trans b12))
      have kD : Kept L5 L6 HA (upd (upd (upd HC m1 (.lst [.ref t])) m2 (.lst (List.replicate (if (c1 && c2) = true then (1 : Int) else 0).toNat [V.ref t]).flatten)) L5 (.lst (ws'.map V.ref))) := fun z o h n1 _ => (upd_ne n1).trans ((smC.trans b12) z o h)
      have hqtD : upd (upd (upd HC m1 (.lst [.ref t])) m2 (.lst (List.replicate (if (c1 && c2) = true then (1 : Int) else 0).toNat [V.ref t]).flatten)) L5 (.lst (ws'.map V.ref)) t = some (.tup (q.map V.str)) := (upd_ne (ne_of (b12 _ _ hqtC) (b12 _ _ hw5C) fun z => nomatch z)).trans (b12 _ _ hqtC)
      generalize upd (upd (upd HC m1 (.lst [.ref t])) m2 (.lst (List.replicate (if (c1 && c2) = true then (1 : Int) else 0).toNat [V.ref t]).flatten)) L5 (.lst (ws'.map V.ref)) = HD at h5D r5D h6D ru6D kD hqtD ⊢
      refine ⟨_, rfl, .inl ⟨rfl, _, SqL.of h6D⟩, _, rfl, by show 1 ≤ sizeLine; decide, fun m3 hm3 => ?_⟩
      have d1 : Same HD _ := same_new (o := .lst [.ref t]) hm3
      refine ⟨_, rfl, _, rfl, or_case (c2 := c2) rfl (.inr ⟨_, rfl, ?_⟩)⟩
      refine ⟨m3, _, _, rfl, rfl, upd_same, by cases c1 <;> cases c2 <;> decide, by cases c1 <;> cases c2 <;> decide, by show 1 * _ ≤ sizeLine; cases c1 <;> cases c2 <;> decide, fun m4 hm4 => ?_⟩
      have d2 : Same _ _ := same_new (o := .lst (List.replicate (if (c1 || c2) = true then (1 : Int) else 0).toNat [V.ref t]).flatten) hm4
      have d12 := d1.trans d2
      obtain ⟨us', e6, r6, l6'⟩ := rep_rows (c1 || c2) (ru6D.same d12) (d12 _ _ hqtD)
      refine ⟨L6, m4, _, _, rfl, rfl, d12 _ _ h6D, upd_same, ?_, ?_⟩
      · have z := congrArg List.length e6
        rw [List.length_append, List.length_map, List.length_map] at z
        rw [List.length_map, sizeLine_eq]
        omega
      rw [e6]
      have h5E := d12 _ _ h5D
      refine ⟨_, _, _, rfl, kk.trans (kD.trans fun z o h _ n2 => (upd_ne n2).trans (d12 z o h)), ⟨⟨_, (upd_ne ne56).trans h5E⟩, ⟨_, upd_same⟩⟩, ⟨ws', (upd_ne ne56).trans h5E, ?_⟩, us', upd_same, ?_⟩
      · rw [take_filter hq]
        show RowsAt _ _ (_ ++ if (and (decide (asc s4 q ∈ cs)) (decide (asc s2 q ∈ ds))) = true then [q] else [])
        rw [hc1, hc2]
        exact RowsAt.put (d12 _ _ h6D) (r5D.same d12)
      · rw [take_filter hq]
        show RowsAt _ _ (_ ++ if (or (decide (asc s4 q ∈ cs)) (decide (asc s2 q ∈ ds))) = true then [q] else [])
        rw [hc1, hc2]
        exact RowsAt.put (d12 _ _ h6D) r6
    · rintro σ HA ⟨o7, o8, o9, rfl, kk, tw, ⟨ws, hw5, rw5⟩, us, hu6, ru6⟩
      rw [List.length_map, lFS, List.take_length] at rw5 ru6
      have rw5' : RowsAt HA ws (lawBin and ns s4 cs s2 ds) := rw5
      have ru6' : RowsAt HA us (lawBin or ns s4 cs s2 ds) := ru6
      rw [← eb and] at rw5'
      rw [← eb or] at ru6'
      have hpnA := lst_kept hpn9 kk (far hpn7)
      have cxA := cx9.kept two kk
      have cyA := cy9.kept two kk
      obtain ⟨dxA, _, _, hxA, _⟩ := cxA.at_
      obtain ⟨dyA, _, _, hyA, _⟩ := cyA.at_
      have D1 := allow_draw (by omega : s4.length ≤ 6) nd4 good4 cs
      have D2 := allow_draw (by omega : s2.length ≤ 6) nd2 good2 ds
      have tyy : ∀ {HB : Hp}, Same HA HB → TyX K HB (.ref y) (.ref C) := fun sm => .base (.ins (sm _ _ hyA) T.cl L.CI.cl L.CI.gt L.CI.tk L.CI.ob)
      have Dj : ∀ (g : Bool → Bool → Bool), Draw2 ns (joinR g s4 (allow s4 cs) s2 (allow s2 ds)) := fun g => by
        unfold joinR
        rw [ej]
        exact filter_draw (Nat.le_of_eq l6) nd good _
      refine ⟨_, rfl, _, rfl, tyy (Same.refl _), x, dxA, _, rfl, hxA, x, y, r, r', s4, s2, _, _, rfl, cxA, cyA, D1, D2, by rw [ej]; omega, fun p rr HB hp hrr cB smB => ⟨_, rfl, ?_⟩⟩
      rw [ej] at cB
      refine ⟨_, rfl, _, rfl, p, rr, pn, L5, ns, ws, _, rfl, cB, smB _ _ hpnA, smB _ _ hw5, rw5'.same smB, Dj and, fun HC smC => ⟨_, rfl, iteT ?_⟩⟩
      have sBC := smB.trans smC
      refine ⟨_, rfl, _, rfl, tyy sBC, x, dxA, _, rfl, sBC _ _ hxA, x, y, r, r', s4, s2, _, _, rfl, cxA.same sBC, cyA.same sBC, D1, D2, by rw [ej]; omega, fun p' rr' HD hp' hrr' cD smD => ⟨_, rfl, ?_⟩⟩
      rw [ej] at cD
      have sAD := sBC.trans smD
      refine ⟨_, rfl, _, rfl, p', rr', pn, L6, ns, us, _, rfl, cD, sAD _ _ hpnA, sAD _ _ hu6, ru6'.same sAD, Dj or, fun HE smE => k HE fun z o h => ?_⟩
      have h7 := sm7 _ _ (sm5 _ _ h)
      exact (sAD.trans smE) _ _ (kk _ _ (sm79 _ _ h7) (far h7).1 (far h7).2)
end
end K6
namespace K6
open PySem PySem.Spec PyProof.Rows L2 LamX NdefX EV
/-! ### a rule and another one of the same signs, the other way round -/
section
variable {sg : List Str} {cs es : List (List Str)}
def revR (sg : List Str) (es : List (List Str)) : List (List Str) := allow sg.reverse (es.map List.reverse)
theorem asc_turn {q : List Str} (nd : sg.Nodup) (good : ∀ z ∈ sg, Name1 z) (h : q ∈ fulls sg) : asc sg.reverse q = q.reverse := by
  have goodr : ∀ z ∈ sg.reverse, Name1 z := fun z hz => good z (List.mem_reverse.mp hz)
  have ndr : sg.reverse.Nodup := (List.reverse_perm sg).nodup_iff.mpr nd
  exact (asc_congr fun _ => List.mem_reverse.symm).trans (asc_fulls ndr goodr (rev_full h))
theorem revR_mem {q : List Str} (full : ∀ e ∈ es, e ∈ fulls sg) : q.reverse ∈ revR sg es ↔ q ∈ es := by
  unfold revR
  rw [allow_mem]
  constructor
  · rintro ⟨_, h⟩
    obtain ⟨e, he, z⟩ := List.mem_map.mp h
    rw [← List.reverse_inj.mp z]
    exact he
  · intro h
    exact ⟨rev_full (full q h), List.mem_map_of_mem h⟩
theorem revR_get {p : List Str} (h : p ∈ revR sg es) : ∃ q ∈ es, p = q.reverse := by
  unfold revR at h
  obtain ⟨e, he, z⟩ := List.mem_map.mp (allow_mem.mp h).2
  exact ⟨e, he, z.symm⟩
theorem nodup_eq {α : Type} [DecidableEq α] {a b : List α} (na : a.Nodup) (sub : ∀ x ∈ a, x ∈ b) (l : b.length ≤ a.length) : ∀ x ∈ b, x ∈ a := fun x hx => by
  by_cases m : x ∈ a
  · exact m
  · have z := nodup_le (x :: a) b (List.nodup_cons.mpr ⟨m, na⟩) fun y hy => by
      rcases List.mem_cons.mp hy with rfl | hy
      · exact hx
      · exact sub y hy
    rw [List.length_cons] at z
    omega
theorem within_iff {a b : List (List Str)} : within a b = true ↔ ∀ q ∈ a, q ∈ b := by
  unfold within
  rw [List.all_eq_true]
  exact ⟨fun h q hq => of_decide_eq_true (h q hq), fun h q hq => decide_eq_true (h q hq)⟩
theorem same_rev : sameMem sg sg.reverse = true := sameMem_iff.mpr ⟨List.length_reverse.symm, fun x hx => List.mem_reverse.mpr hx⟩
theorem same_rev' : sameMem sg.reverse sg = true := sameMem_iff.mpr ⟨List.length_reverse, fun x hx => List.mem_reverse.mp hx⟩
theorem le_rev (D : Draw2 sg cs) (full : ∀ e ∈ es, e ∈ fulls sg) : leR sg cs sg.reverse (revR sg es) = within cs es := by
  unfold leR
  rw [same_rev, Bool.true_and]
  unfold found within
  rw [List.all_map]
  refine Bool.eq_iff_iff.mpr ?_
  rw [List.all_eq_true, List.all_eq_true]
  refine forall_congr' fun q => forall_congr' fun hq => ?_
  show decide (asc sg.reverse q ∈ revR sg es) = true ↔ _
  rw [decide_eq_true_iff, decide_eq_true_iff, asc_turn D.nd D.good (D.sub.subset hq)]
  exact revR_mem full
theorem ge_rev (D : Draw2 sg cs) (full : ∀ e ∈ es, e ∈ fulls sg) : leR sg.reverse (revR sg es) sg cs = within es cs := by
  unfold leR
  rw [same_rev', Bool.true_and]
  unfold found
  rw [List.all_map]
  refine Bool.eq_iff_iff.mpr ?_
  rw [within_iff, List.all_eq_true]
  constructor
  · intro h q hq
    have z : decide (asc sg q.reverse ∈ cs) = true := h q.reverse ((revR_mem full).mpr hq)
    have z2 := of_decide_eq_true z
    rwa [asc_rev D.nd D.good (full q hq)] at z2
  · intro h p hp
    obtain ⟨q, hq, rfl⟩ := revR_get hp
    show decide (asc sg q.reverse ∈ cs) = true
    rw [asc_rev D.nd D.good (full q hq)]
    exact decide_eq_true (h q hq)
theorem revs_mem {q : List Str} (full : ∀ e ∈ es, e ∈ fulls sg) : q ∈ (revR sg es).map List.reverse ↔ q ∈ es := by
  constructor
  · intro h
    obtain ⟨p, hp, rfl⟩ := List.mem_map.mp h
    obtain ⟨e, he, rfl⟩ := revR_get hp
    rw [List.reverse_reverse]
    exact he
  · intro h
    exact List.mem_map.mpr ⟨q.reverse, (revR_mem full).mpr h, List.reverse_reverse q⟩
theorem revs_nodup : ((revR sg es).map List.reverse).Nodup := nodup_map_inj (allow_nodup _ _) fun a _ b _ e => List.reverse_inj.mp e
theorem lt_rev (D : Draw2 sg cs) (full : ∀ e ∈ es, e ∈ fulls sg) : ltR sg cs sg.reverse (revR sg es) = (within cs es && !within es cs) := by
  unfold ltR
  rw [le_rev D full]
  cases h : within cs es
  · rfl
  · rw [Bool.true_and, Bool.true_and]
    have sub := within_iff.mp h
    have len : ((revR sg es).map List.reverse).length = (revR sg es).length := List.length_map _
    cases h2 : within es cs
    · refine decide_eq_true ?_
      refine Nat.lt_of_not_le fun l => ?_
      have z := nodup_eq D.rnd (b := (revR sg es).map List.reverse) (fun x hx => (revs_mem full).mpr (sub x hx)) (by omega)
      exact Bool.noConfusion (h2.symm.trans (within_iff.mpr fun q hq => z q ((revs_mem full).mpr hq)))
    · refine decide_eq_false fun l => ?_
      have z := nodup_le ((revR sg es).map List.reverse) cs revs_nodup fun x hx => within_iff.mp h2 x ((revs_mem full).mp hx)
      omega
theorem gt_rev (D : Draw2 sg cs) (full : ∀ e ∈ es, e ∈ fulls sg) : ltR sg.reverse (revR sg es) sg cs = (within es cs && !within cs es) := by
  unfold ltR
  rw [ge_rev D full]
  cases h : within es cs
  · rfl
  · rw [Bool.true_and, Bool.true_and]
    have sub := within_iff.mp h
    have len : ((revR sg es).map List.reverse).length = (revR sg es).length := List.length_map _
    cases h2 : within cs es
    · refine decide_eq_true ?_
      refine Nat.lt_of_not_le fun l => ?_
      have z := nodup_eq (revs_nodup (sg := sg) (es := es)) (b := cs) (fun x hx => sub x ((revs_mem full).mp hx)) (by omega)
      exact Bool.noConfusion (h2.symm.trans (within_iff.mpr fun q hq => (revs_mem full).mp (z q hq)))
    · refine decide_eq_false fun l => ?_
      have z := nodup_le cs ((revR sg es).map List.reverse) D.rnd fun x hx => (revs_mem full).mpr (within_iff.mp h2 x hx)
      omega
end
theorem not_same_len {a b : List Str} (h : a.length ≠ b.length) : sameMem a b = false := by
  cases e : sameMem a b
  · rfl
  · exact absurd (sameMem_iff.mp e).1 h
theorem le_off {sg sg' : List Str} {rs rs' : List (List Str)} (h : sg.length ≠ sg'.length) : leR sg rs sg' rs' = false := by
  unfold leR
  rw [not_same_len h]
  rfl
theorem lt_off {sg sg' : List Str} {rs rs' : List (List Str)} (h : sg.length ≠ sg'.length) : ltR sg rs sg' rs' = false := by
  unfold ltR
  rw [le_off h]
  rfl
end K6
namespace K6
open PySem PySem.Spec PyProof.Rows L2 LamX NdefX EV
structure LW (P : Program) (w : World) (K : PySem.W.Frag) (mg : Str → Option Value) (base : Heap) (C : Addr) : Prop where
  L : LT4 P w K mg base C
  less : HasG P w K mg base 8 "_law_is_lessened" ["_law_rule", "_law_signs", "_law_allowed"] (spLess K C)
  six : HasG P w K mg base 8 "_law_are_six" ["_law_names_here"] (spSix K C)
abbrev nLaw4 : List Str := ["_law_script", "_law_stream", "_law_turn", "_law_names_here", "_law_s", "_law_t", "_law_one", "_law_c", "_law_d", "_law_both", "_law_some", "_law_any_of", "_law_left", "_law_e", "_law_third", "_law_other", "_law_name", "_law_full"]
theorem scLaw4 : FnScope nLaw4 ["_law_script"] (defScope sLaw) := ⟨rfl, rfl, rfl, by decide +kernel, rfl, by decide +kernel, by decide +kernel⟩
def turn4 : List Stmt := forBody ((defBody sLaw).getD 1 (.Pass ⟨0, 0, 0, 0⟩))
/-- what stands in the heap behind the making of two rules -/
structure R4 (K : PySem.W.Frag) (C ps pt pc pd pb x y r r' : Addr) (sg tg : List Str) (cts dts : List Addr) (cs ds : List (List Str)) (H : Hp) : Prop where
  hps : H ps = some (.lst (sg.map V.str))
  hpt : H pt = some (.lst (tg.map V.str))
  hpc : H pc = some (.lst (cts.map V.ref))
  rc : RowsAt H cts cs
  hpd : H pd = some (.lst (dts.map V.ref))
  rd : RowsAt H dts ds
  hpb : H pb = some (.lst ((join sg tg).map V.str))
  cx : RuleR K C H x sg cs r
  cy : RuleR K C H y tg ds r'
structure F4 (sg tg : List Str) (cs ds : List (List Str)) : Prop where
  D1 : Draw2 sg cs
  D2 : Draw2 tg ds
  l1 : sg.length ≤ 4
  l2 : tg.length ≤ 4
  j6 : (join sg tg).length ≤ 6
section
variable {K : PySem.W.Frag} {C ps pt pc pd pb x y r r' : Addr} {sg tg : List Str} {cts dts : List Addr} {cs ds : List (List Str)} {H H' : Hp}
theorem R4.same (o : R4 K C ps pt pc pd pb x y r r' sg tg cts dts cs ds H) (sm : Same H H') : R4 K C ps pt pc pd pb x y r r' sg tg cts dts cs ds H' :=
  ⟨sm _ _ o.hps, sm _ _ o.hpt, sm _ _ o.hpc, o.rc.same sm, sm _ _ o.hpd, o.rd.same sm, sm _ _ o.hpb, o.cx.same sm, o.cy.same sm⟩
end
/-- the σ between turns -/
def SigT4 (a S : Addr) (σ : L2.St) : Prop := ∃ o2 o3 o4 o5 o6 o7 o8 o9 o10 o11 o12 o13 o14 o15 o16 o17, σ = [some (.ref a), some (.ref S), o2, o3, o4, o5, o6, o7, o8, o9, o10, o11, o12, o13, o14, o15, o16, o17]
section
variable {P : Program} {w : World} {K : PySem.W.Frag} {mg : Str → Option Value} {base : Heap} {C : Addr}
variable {f : Addr} {cdv : Value} {A : Around} {outer : List Env} {s0 : Shared} {HH : Hp} {E : XK}
abbrev XL4 (P : Program) (w : World) (K : PySem.W.Frag) (mg : Str → Option Value) (base : Heap) (f : Addr) (cdv : Value) (A : Around) (outer : List Env) (s0 : Shared) (HH : Hp) (E : XK) : Cx := (cxOf CX0 P w K mg base nLaw4 "law" (defScope sLaw) f cdv A outer s0 HH E).nox
theorem seg13 (T : LW P w K mg base C) (hg : (XL4 P w K mg base f cdv A outer s0 HH E).A.guards = some []) (hr : Room 9 (XL4 P w K mg base f cdv A outer s0 HH E).A) :
    ∃ tt, PSs (XL4 P w K mg base f cdv A outer s0 HH E) (turn4.drop 13) tt ∧ ∀ (D : Ends) (a S ps pt pc pd pb pe x y r r' : Addr) (sg tg : List Str) (cts dts ets : List Addr) (cs ds es : List (List Str)) (o2 o3 o10 o11 o12 o14 o16 o17 : Option V) (H : Hp), F4 sg tg cs ds → R4 K C ps pt pc pd pb x y r r' sg tg cts dts cs ds H →
      H pe = some (.lst (ets.map V.ref)) → RowsAt H ets es → (∀ e ∈ es, e ∈ fulls sg) → es.length ≤ 200 → (∀ σ' H', SigT4 a S σ' → Same H H' → D.nx σ' H') →
      tt D [some (.ref a), some (.ref S), o2, o3, some (.ref ps), some (.ref pt), some (.ref x), some (.ref pc), some (.ref pd), some (.ref pb), o10, o11, o12, some (.ref pe), o14, some (.ref y), o16, o17] H := by
  have L := T.L
  have TT := L.T
  obtain ⟨fI, fdI, M, GI, bI⟩ := L.make
  obtain ⟨fO, fdO, FO, hsO, hfO, bO⟩ := L.or_
  have hu := hu_of hr
  have hr1 : Room 1 _ := hr.mono (by decide)
  have hr2 : Room 2 _ := hr.mono (by decide)
  have hr6 : Room 6 _ := hr.mono (by decide)
  have hr7 : Room 7 _ := hr.mono (by decide)
  have hr8 : Room 8 _ := hr.mono (by decide)
  refine ⟨_, pss_cons (ps_set (i := 14) scLaw4.nd rfl (.inl rfl) (pe_make M GI hr6 (by rfl) TT.mgC bI .nil pass0 (pa_cons (pe_revL (pv 4)) (pa_cons (pe_lc (own := [("_law_full", 17)]) (g := gName 17) (tt := tYes) rfl scLaw4.nd (pi_list (pv 13)) (blkOk_by (N := nLaw4) (sc := defScope sLaw) (by decide +kernel))
        (fun _ _ _ _ _ => pg_name (i := 17) scLaw4.nd rfl (.inl rfl)) (fun _ _ _ _ _ => pts_nil) (fun _ _ _ _ _ => show PE _ _ (tRevT K _) from pe_revT (pv 17))) pa_nil))))
    (pss_cons (ps_if (PW.pt (pw_or (pt_not (pt_val (pe_callHG L.so hg hr (by rfl) (pa_cons (pv 6) (pa_cons (pv 14) (pa_cons (pv 7) (pa_cons (pv 13) pa_nil))))))) (pw_or1 (pt_not (pt_val (pe_callHG L.so hg hr (by rfl) (pa_cons (pv 14) (pa_cons (pv 6) (pa_cons (pv 13) (pa_cons (pv 7) pa_nil)))))))))) (pss_one ps_none) pss_nil)
    (pss_cons (ps_if (PW.pt (pw_and (pt_cmpR op_ne (pe_callB call_len_seq (by rfl) TT.len PySem.boot_len (pa_cons (pv 4) pa_nil)) (pe_callB call_len_seq (by rfl) TT.len PySem.boot_len (pa_cons (pv 9) pa_nil)) (nomark _))
        (pw_and1 (pt_not (pt_val (pe_callHG L.same hg hr1 (by rfl) (pa_cons (pe_callH L.cmp hr8 (by rfl) (pa_cons (pv 6) (pa_cons (pe_op (op_binOwn FO L.self1 hsO hfO bO pass0 hr7) (pv 6) (pv 15)) pa_nil))) (pa_cons (pe_op op_rep (pe_lst (pa_cons pe_bl pa_nil)) pe_int) pa_nil)))))))) (pss_one ps_none) pss_nil)
    (pss_one (ps_if (PW.pt (pw_or (pt_not (pt_val (pe_callHG L.is_ hg hr2 (by rfl) (pa_cons (pv 6) (pa_cons (pv 4) (pa_cons (pv 7) pa_nil)))))) (pw_or1 (pt_not (pt_val (pe_callHG L.is_ hg hr2 (by rfl) (pa_cons (pv 15) (pa_cons (pv 5) (pa_cons (pv 8) pa_nil))))))))) (pss_one ps_none) pss_nil)))), ?_⟩
  intro D a S ps pt pc pd pb pe x y r r' sg tg cts dts ets cs ds es o2 o3 o10 o11 o12 o14 o16 o17 H fx st hpe re full les k
  have Dr := fx.D1
  have ok := Dr.ok
  have l6 := Dr.n6
  have l64 := Dr.few
  have lets : ets.length = es.length := Paired.length re
  refine ⟨_, rfl, ps, _, rfl, SqL.of st.hps, fun p hp => ?_⟩
  rw [← List.map_reverse]
  have s1 : Same H _ := same_new (o := .lst (sg.reverse.map V.str)) hp
  have hp1 : upd H p (.lst (sg.reverse.map V.str)) p = some (.lst (sg.reverse.map V.str)) := upd_same
  generalize upd H p (.lst (sg.reverse.map V.str)) = H1 at s1 hp1 ⊢
  have hpe1 := s1 _ _ hpe
  refine ⟨_, rfl, pe, rfl, ⟨_, SqL.of hpe1⟩, fun Dl hD => lc_it (walk_list (xs := ets.map V.ref)) (fun i H2 => Same H1 H2 ∧ ∃ us, H2 Dl = some (.lst (us.map V.ref)) ∧ RowsAt H2 us ((es.take i).map List.reverse)) ⟨same_new hD, [], upd_same, .nil⟩ (fun i H2 _ hh => SqL.of (hh.1 _ _ hpe1)) ?_ ?_⟩
  · rintro i v H2 H3 hi ⟨sm, us, hD3, ru⟩ ⟨rfl, hv⟩
    obtain ⟨t, ht, rfl⟩ := get_map hv
    obtain ⟨q, hq, hqt⟩ := RowsAt.get re i t ht
    have er : es.take (i + 1) = es.take i ++ [q] := by rw [List.take_succ, hq]; rfl
    have lus : us.length ≤ 200 := by
      have z := Paired.length ru
      rw [List.length_map, List.length_take] at z
      omega
    refine ⟨rfl, _, rfl, t, _, rfl, SqT.of (sm _ _ (s1 _ _ hqt)), fun p9 hp9 => ?_⟩
    have s9 : Same H3 _ := same_new (o := .tup (q.map V.str).reverse) hp9
    refine ⟨_, s9 _ _ hD3, by rw [List.length_map, sizeLine_eq]; omega, fun b o h => (upd_ne (ne_of_none h hD)).trans (s9 _ _ (sm _ _ h)), us ++ [p9], ?_, RowsAt.put (s9 _ _ hD3) ?_⟩
    · rw [upd_same, List.map_append]
      rfl
    · rw [er, List.map_append]
      refine rows_snoc (ru.same s9) ?_
      show upd _ _ _ _ = _
      rw [upd_same, List.map_reverse]
  rintro H2 ⟨sm2', us, hD2, ru⟩
  rw [List.length_map, lets, List.take_length] at ru
  have sm2 := s1.trans sm2'
  have sub : ∀ q ∈ es.map List.reverse, q ∈ fulls sg.reverse := fun q hq => by
    obtain ⟨r, hr, rfl⟩ := List.mem_map.mp hq
    exact rev_full (full r hr)
  have n6r : sg.reverse.length ≤ 6 := by rw [List.length_reverse]; exact l6
  have ndr : sg.reverse.Nodup := (List.reverse_perm sg).nodup_iff.mpr Dr.nd
  have goodr : ∀ z ∈ sg.reverse, Name1 z := fun z hz => Dr.good z (List.mem_reverse.mp hz)
  obtain ⟨qss, u1, u2, u3⟩ := handed_full (K := K) ru fun q hq => full_of ndr (sub q hq)
  have lq : qss.length = es.length := by
    have y := congrArg List.length u2
    rw [List.length_map, List.length_map] at y
    omega
  refine fun z dz hz hdz _ => ?_
  refine make_rule (b1 := true) (b2 := true) (sg := sg.reverse) hz hdz (SqL.of (sm2' _ _ hp1)) (SqL.of hD2) n6r ndr goodr u1 u3 (by omega) fun rz H3 sm3' cz fresh => ⟨rfl, ?_⟩
  rw [rowsOf_fulls ndr goodr u2 sub] at cz
  have cz : RuleR K C H3 z sg.reverse (revR sg es) rz := cz
  have Dz : Draw2 sg.reverse (revR sg es) := allow_draw n6r ndr goodr _
  have sm3 := sm2.trans sm3'
  have st3 := st.same sm3
  have ne : r ≠ rz := by
    obtain ⟨_, _, _, _, _, _, hr0⟩ := (st.same sm2).cx.at_
    exact ne_of_none hr0 fresh
  refine ⟨_, rfl, _, rfl, _, rfl, _, rfl, x, z, r, rz, pc, pe, sg, sg.reverse, cs, revR sg es, cs, es, cts, ets, rfl, st3.cx, cz, ne, Dr, Dz, st3.hpc, st3.rc, sm3 _ _ hpe, re.same sm3, by omega, les, le_rev Dr full, ge_rev Dr full, lt_rev Dr full, gt_rev Dr full, fun H4 sm4' => ⟨_, rfl, iteF ?_⟩⟩
  have sm4 := sm3.trans sm4'
  have st4 := st.same sm4
  refine ⟨_, rfl, _, rfl, _, rfl, _, rfl, z, x, rz, r, pe, pc, sg.reverse, sg, revR sg es, cs, es, cs, ets, cts, rfl, cz.same sm4', st4.cx, ne.symm, Dz, Dr, sm4 _ _ hpe, re.same sm4, st4.hpc, st4.rc, les, by omega, ge_rev Dr full, le_rev Dr full, gt_rev Dr full, lt_rev Dr full, fun H5 sm5' => ⟨_, rfl, iteF ?_⟩⟩
  have sm5 := sm4.trans sm5'
  have st5 := st.same sm5
  refine ⟨_, rfl, ps, _, rfl, .inl (SqL.of st5.hps), _, rfl, pb, _, rfl, .inl (SqL.of st5.hpb), rfl, _, rfl, ?_⟩
  rw [List.length_map, List.length_map]
  by_cases e : sg.length = (join sg tg).length
  · have e2 : (!decide (V.int (sg.length : Int) = V.int ((join sg tg).length : Int))) = false := by rw [decide_eq_true (by rw [e])]; rfl
    rw [e2]
    refine iteF (iteF ?_)
    have smF := sm5
    have stF := st.same smF
    refine ⟨_, rfl, _, rfl, _, rfl, x, r, ps, pc, sg, cts, cs, rfl, stF.cx, stF.hps, stF.hpc, stF.rc, Dr, fun HY smY => ⟨_, rfl, iteF ?_⟩⟩
    have stY := stF.same smY
    refine ⟨_, rfl, _, rfl, _, rfl, y, r', pt, pd, tg, dts, ds, rfl, stY.cy, stY.hpt, stY.hpd, stY.rd, fx.D2, fun HZ smZ => ⟨_, rfl, iteF ?_⟩⟩
    exact k _ HZ ⟨_, _, _, _, _, _, _, _, _, _, _, _, _, _, _, _, rfl⟩ (smF.trans (smY.trans smZ))
  · have e2 : (!decide (V.int (sg.length : Int) = V.int ((join sg tg).length : Int))) = true := by
      rw [decide_eq_false fun h => e (by injection h with h; exact Int.ofNat.inj h)]
      rfl
    rw [e2]
    obtain ⟨dx, _, _, hx, _⟩ := st5.cx.at_
    obtain ⟨dy, _, _, hy, _⟩ := st5.cy.at_
    have tyy : TyX K H5 (.ref y) (.ref C) := .base (.ins hy TT.cl L.CI.cl L.CI.gt L.CI.tk L.CI.ob)
    have Dj : Draw2 (join sg tg) (joinR or sg cs tg ds) := filter_draw fx.j6 (join_nodup Dr.nd fx.D2.nd) (fun z hz => (join_mem.mp hz).elim (Dr.good z) (fx.D2.good z)) _
    refine iteT ⟨_, rfl, _, rfl, _, rfl, tyy, x, dx, _, rfl, hx, x, y, r, r', sg, tg, cs, ds, rfl, st5.cx, st5.cy, Dr, fx.D2, fx.j6, fun pj rj H6 hpj hrj cj sm6 => ⟨_, rfl, ?_⟩⟩
    have nej : r ≠ rj := by
      obtain ⟨_, _, _, _, _, _, hr0⟩ := st5.cx.at_
      exact ne_of_none hr0 hrj
    refine ⟨x, pj, r, rj, sg, join sg tg, cs, _, rfl, st5.cx.same sm6, cj, nej, Dr, Dj, fun q H7 hq hq7 sm7 => ?_⟩
    rw [le_off e, lt_off e, le_off (Ne.symm e), lt_off (Ne.symm e)] at hq7
    refine ⟨by show 1 ≤ sizeLine; decide, fun m1 hm1 => ?_⟩
    refine ⟨m1, 4, _, rfl, rfl, upd_same, by decide, by decide, by show 1 * 4 ≤ sizeLine; decide, fun m2 hm2 => ?_⟩
    have t1 : Same H7 _ := same_new (o := .lst [.bl false]) hm1
    have t2 : Same _ _ := same_new (o := .lst (List.replicate (4 : Int).toNat [V.bl false]).flatten) hm2
    have t12 := t1.trans t2
    refine ⟨.ref q, .ref m2, _, 60, rfl, .lst (SqL.of (t12 _ _ hq7)) (dp_bools [false, false, false, false]), .lst (SqL.of upd_same) (dp_bools [false, false, false, false]), bools_small (by show 4 ≤ 10; decide), by decide, ⟨_, rfl, iteF ?_⟩⟩
    have smF := sm5.trans (sm6.trans (sm7.trans t12))
    have stF := st.same smF
    refine ⟨_, rfl, _, rfl, _, rfl, x, r, ps, pc, sg, cts, cs, rfl, stF.cx, stF.hps, stF.hpc, stF.rc, Dr, fun HY smY => ⟨_, rfl, iteF ?_⟩⟩
    have stY := stF.same smY
    refine ⟨_, rfl, _, rfl, _, rfl, y, r', pt, pd, tg, dts, ds, rfl, stY.cy, stY.hpt, stY.hpd, stY.rd, fx.D2, fun HZ smZ => ⟨_, rfl, iteF ?_⟩⟩
    exact k _ HZ ⟨_, _, _, _, _, _, _, _, _, _, _, _, _, _, _, _, rfl⟩ (smF.trans (smY.trans smZ))
end
end K6
namespace K6
open PySem PySem.Spec PyProof.Rows L2 LamX NdefX EV
theorem op_inRowsK {X : Cx} {K : PySem.W.Frag} (h : X.K = K) (hu : X.A.units + 1 < cLine) : OpR X (compareOp .In) (rInR K) := h ▸ op_inRows hu
theorem op_notInRowsK {X : Cx} {K : PySem.W.Frag} (h : X.K = K) (hu : X.A.units + 1 < cLine) : OpR X (compareOp .NotIn) (rNotR K) := h ▸ op_notInRows hu
structure Far4 (S L ps pt pc pd pb : Addr) : Prop where
  s : ps ≠ S ∧ ps ≠ L
  t : pt ≠ S ∧ pt ≠ L
  c : pc ≠ S ∧ pc ≠ L
  d : pd ≠ S ∧ pd ≠ L
  b : pb ≠ S ∧ pb ≠ L
section
variable {K : PySem.W.Frag} {C S L ps pt pc pd pb x y r r' : Addr} {sg tg : List Str} {cts dts : List Addr} {cs ds : List (List Str)} {H H' : Hp}
theorem R4.kept (o : R4 K C ps pt pc pd pb x y r r' sg tg cts dts cs ds H) (fa : Far4 S L ps pt pc pd pb) (tw : Two H S L) (k : Kept S L H H') : R4 K C ps pt pc pd pb x y r r' sg tg cts dts cs ds H' :=
  ⟨lst_kept o.hps k fa.s, lst_kept o.hpt k fa.t, lst_kept o.hpc k fa.c, RowsAt.kept o.rc tw k, lst_kept o.hpd k fa.d, RowsAt.kept o.rd tw k, lst_kept o.hpb k fa.b, o.cx.kept tw k, o.cy.kept tw k⟩
end
section
variable {P : Program} {w : World} {K : PySem.W.Frag} {mg : Str → Option Value} {base : Heap} {C : Addr}
variable {f : Addr} {cdv : Value} {A : Around} {outer : List Env} {s0 : Shared} {HH : Hp} {E : XK}
theorem seg11 (T : LW P w K mg base C) (hg : (XL4 P w K mg base f cdv A outer s0 HH E).A.guards = some []) (hr : Room 9 (XL4 P w K mg base f cdv A outer s0 HH E).A) :
    ∃ tt, PSs (XL4 P w K mg base f cdv A outer s0 HH E) (turn4.drop 11) tt ∧ ∀ (D : Ends) (a S Ls ps pt pc pd pb x y r r' : Addr) (sg tg : List Str) (cts dts : List Addr) (cs ds : List (List Str)) (o2 o3 o10 o11 o12 o13 o14 o16 o17 : Option V) (H : Hp) (c : Nat), F4 sg tg cs ds → Far4 S Ls ps pt pc pd pb → R4 K C ps pt pc pd pb x y r r' sg tg cts dts cs ds H →
      StreamAt H S Ls c → c ≤ 70000 → (∀ σ' H' c', SigT4 a S σ' → StreamAt H' S Ls c' → c' ≤ c + 100 → Kept S Ls H H' → D.nx σ' H') →
      tt D [some (.ref a), some (.ref S), o2, o3, some (.ref ps), some (.ref pt), some (.ref x), some (.ref pc), some (.ref pd), some (.ref pb), o10, o11, o12, o13, o14, some (.ref y), o16, o17] H := by
  have L := T.L
  obtain ⟨tt3, p3, k3⟩ := seg13 (f := f) (cdv := cdv) (A := A) (outer := outer) (s0 := s0) (HH := HH) (E := E) T hg hr
  have hr1 : Room 1 _ := hr.mono (by decide)
  refine ⟨_, pss_cons (ps_setLc (i := 13) (own := [("_law_full", 17)]) (g := gName 17) (by rfl) scLaw4.nd rfl rfl (sw_true rfl rfl rfl (by decide +kernel)) (pi_list (pv 7)) (blkOk_by (N := nLaw4) (sc := defScope sLaw) (by decide +kernel))
        (fun _ _ _ _ _ => pg_name (i := 17) scLaw4.nd rfl (.inl rfl)) (fun _ _ _ _ _ => pts_one (pt_cmpR op_gt (pe_callH L.draw hr1 (by rfl) (pa_cons (pv 1) (pa_cons pe_int pa_nil))) pe_int (nomark _))) (fun _ _ _ _ _ => pv 17))
    (pss_cons (ps_set (i := 13) scLaw4.nd rfl (.inl rfl) (pe_op op_cat (pv 13) (pe_lc (own := [("_law_full", 17)]) (g := gName 17) rfl scLaw4.nd (pi_list (pe_callH L.fulls hr1 (by rfl) (pa_cons (pv 4) pa_nil))) (blkOk_by (N := nLaw4) (sc := defScope sLaw) (by decide +kernel))
        (fun _ _ _ _ _ => pg_name (i := 17) scLaw4.nd rfl (.inl rfl)) (fun _ _ _ _ _ => pts_one (pt_cmpR op_eq (pe_callH L.draw hr1 (by rfl) (pa_cons (pv 1) (pa_cons pe_int pa_nil))) pe_int (nomark _))) (fun _ _ _ _ _ => pv 17)))) p3), ?_⟩
  intro D a S Ls ps pt pc pd pb x y r r' sg tg cts dts cs ds o2 o3 o10 o11 o12 o13 o14 o16 o17 H c fx fa st hS hc k
  have Dr := fx.D1
  have l4 := fx.l1
  have lcs16 : cs.length ≤ 16 := by
    have z := Dr.sub.length_le
    rw [fulls_len] at z
    exact Nat.le_trans z (Nat.pow_le_pow_right (by decide) l4)
  have lts : cts.length = cs.length := Paired.length st.rc
  refine ⟨_, rfl, pc, rfl, ⟨_, SqL.of st.hpc⟩, fun De hDe => lc_it (walk_list (xs := cts.map V.ref)) (fun i H6 => ∃ us es, H6 De = some (.lst (us.map V.ref)) ∧ RowsAt H6 us es ∧ (∀ e ∈ es, e ∈ fulls sg) ∧ es.length ≤ i ∧ StreamAt H6 S Ls (c + i) ∧ Kept S Ls H H6) ⟨[], [], upd_same, .nil, (fun _ h => nomatch h), Nat.le_refl _, hS.new hDe, (Kept.refl H).new hDe⟩ (fun i H6 _ ⟨_, _, _, _, _, _, _, kk⟩ => SqL.of (lst_kept st.hpc kk fa.c)) ?_ ?_⟩
  · rintro i v H6 H7 hi ⟨us, es, hD7, ru, mem, les, hS7, hk7⟩ ⟨rfl, hv⟩
    have offD := hS.off hDe
    obtain ⟨q, hq, rfl⟩ := get_map hv
    obtain ⟨rr, hr', hrq⟩ := RowsAt.get st.rc i q hq
    have ilt : i < cs.length := (List.getElem?_eq_some_iff.mp hr').1
    have lus : us.length ≤ 200 := by
      have z1 := Paired.length ru
      omega
    obtain ⟨⟨_, e1⟩, ⟨_, e2⟩⟩ := hS.two
    refine ⟨rfl, _, rfl, S, Ls, 3, _, rfl, by decide, by decide, by omega, hS7, fun r2 H8 r20 r21 hS8 hk8 => ?_⟩
    have hD8 := hk8 _ _ hD7 offD.1 offD.2
    have ru8 := RowsAt.kept ru hS7.two hk8
    refine ⟨_, _, rfl, rfl, _, rfl, ?_⟩
    refine ite2 (fun _ => ?_) (fun _ => ?_)
    · refine ⟨_, rfl, _, hD8, by rw [List.length_map, sizeLine_eq]; omega, us ++ [q], es ++ [rr], ?_, RowsAt.put hD8 (rows_snoc ru8 ?_), ?_, ?_, ?_, ?_⟩
      · rw [upd_same, List.map_append]
        rfl
      · exact (hk7.trans hk8) _ _ hrq (ne_of hrq e1 fun z => nomatch z) (ne_of hrq e2 fun z => nomatch z)
      · intro e he
        rcases List.mem_append.mp he with he | he
        · exact mem e he
        · rw [List.mem_singleton.mp he]
          exact Dr.sub.subset (List.mem_of_getElem? hr')
      · rw [List.length_append]
        exact Nat.succ_le_succ les
      · exact hS8.put offD.1 offD.2
      · exact kept_upd (hk7.trans hk8) hDe
    · exact ⟨us, es, hD8, ru8, mem, by omega, hS8, hk7.trans hk8⟩
  rintro H1 ⟨us, es, hD1, ru1, mem1, les1, hS1, hk1⟩
  rw [List.length_map, lts] at les1 hS1
  have st1 := st.kept fa hS.two hk1
  have offe := hS.off hDe
  refine ⟨_, rfl, _, rfl, ps, sg, rfl, (fun H' s' => SqL.of (s' _ _ st1.hps)), by omega, (fun z hz => (Dr.good z hz).2.1), fun pf tf H5 hpf0 hpf5 rowf sm5 => ?_⟩
  have hS5 := hS1.same sm5
  have st5 := st1.same sm5
  have hD5 := sm5 _ _ hD1
  have ru5 := ru1.same sm5
  have l16f : (fulls sg).length ≤ 16 := by
    rw [fulls_len]
    exact Nat.pow_le_pow_right (by decide) l4
  have lf : tf.length = (fulls sg).length := Paired.length rowf
  have offf : pf ≠ S ∧ pf ≠ Ls := hS1.off hpf0
  refine ⟨pf, rfl, ⟨_, SqL.of hpf5⟩, fun D2 hD2 => lc_it (walk_list (xs := tf.map V.ref)) (fun i H6 => ∃ ws es', H6 D2 = some (.lst (ws.map V.ref)) ∧ RowsAt H6 ws es' ∧ (∀ e ∈ es', e ∈ fulls sg) ∧ es'.length ≤ i ∧ StreamAt H6 S Ls (c + cs.length + i) ∧ Kept S Ls H5 H6) ⟨[], [], upd_same, .nil, (fun _ h => nomatch h), Nat.le_refl _, hS5.new hD2, (Kept.refl H5).new hD2⟩ (fun i H6 _ ⟨_, _, _, _, _, _, _, kk⟩ => SqL.of (lst_kept hpf5 kk offf)) ?_ ?_⟩
  · rintro i v H6 H7 hi ⟨ws, es', hD7, ru, mem, les, hS7, hk7⟩ ⟨rfl, hv⟩
    have offD := hS5.off hD2
    obtain ⟨q, hq, rfl⟩ := get_map hv
    obtain ⟨rr, hr', hrq⟩ := RowsAt.get rowf i q hq
    have ilt : i < (fulls sg).length := (List.getElem?_eq_some_iff.mp hr').1
    have lws : ws.length ≤ 200 := by
      have z1 := Paired.length ru
      omega
    obtain ⟨⟨_, e1⟩, ⟨_, e2⟩⟩ := hS5.two
    refine ⟨rfl, _, rfl, S, Ls, 6, _, rfl, by decide, by decide, by omega, hS7, fun r2 H8 r20 r21 hS8 hk8 => ?_⟩
    have hD8 := hk8 _ _ hD7 offD.1 offD.2
    have ru8 := RowsAt.kept ru hS7.two hk8
    refine ⟨rfl, _, rfl, ?_⟩
    refine ite2 (fun _ => ?_) (fun _ => ?_)
    · refine ⟨_, rfl, _, hD8, by rw [List.length_map, sizeLine_eq]; omega, ws ++ [q], es' ++ [rr], ?_, RowsAt.put hD8 (rows_snoc ru8 ?_), ?_, ?_, ?_, ?_⟩
      · rw [upd_same, List.map_append]
        rfl
      · exact (hk7.trans hk8) _ _ hrq (ne_of hrq e1 fun z => nomatch z) (ne_of hrq e2 fun z => nomatch z)
      · intro e he
        rcases List.mem_append.mp he with he | he
        · exact mem e he
        · rw [List.mem_singleton.mp he]
          exact List.mem_of_getElem? hr'
      · rw [List.length_append]
        exact Nat.succ_le_succ les
      · exact hS8.put offD.1 offD.2
      · exact kept_upd (hk7.trans hk8) hD2
    · exact ⟨ws, es', hD8, ru8, mem, by omega, hS8, hk7.trans hk8⟩
  rintro H2 ⟨ws, es', hD2', ru2, mem2, les2, hS2, hk2⟩
  rw [List.length_map, lf] at les2 hS2
  have st2 := st5.kept fa hS5.two hk2
  have hDe2 := lst_kept hD5 hk2 offe
  have ruE := RowsAt.kept ru5 hS5.two hk2
  have lus : us.length ≤ 200 := by
    have z1 := Paired.length ru1
    omega
  have lws : ws.length ≤ 200 := by
    have z1 := Paired.length ru2
    omega
  refine ⟨De, D2, _, _, rfl, rfl, hDe2, hD2', by rw [List.length_map, List.length_map, sizeLine_eq]; omega, fun pe hpe => ?_⟩
  rw [← List.map_append]
  have s3 : Same H2 _ := same_new (o := .lst ((us ++ ws).map V.ref)) hpe
  refine k3 D a S ps pt pc pd pb pe x y r r' sg tg cts dts (us ++ ws) cs ds (es ++ es') _ _ _ _ _ _ _ _ _ fx (st2.same s3) upd_same (RowsAt.same s3 (paired_app ruE ru2)) (fun e he => ?_) (by rw [List.length_append]; omega) fun σ' H' hσ sm => k σ' H' _ hσ ((hS2.same s3).same sm) (by omega) (((hk1.trans fun b o e _ _ => sm5 b o e).trans hk2).trans fun b o e _ _ => sm _ _ (s3 b o e))
  rcases List.mem_append.mp he with he | he
  · exact mem1 e he
  · exact mem2 e he
end
end K6
namespace K6
open PySem PySem.Spec PyProof.Rows L2 LamX NdefX EV
theorem not_not {sg : List Str} {cs : List (List Str)} (D : Draw2 sg cs) : ((fulls sg).filter fun q => decide (q ∉ (fulls sg).filter fun q => decide (q ∉ cs))) = cs := by
  have z : ((fulls sg).filter fun q => decide (q ∉ (fulls sg).filter fun q => decide (q ∉ cs))) = allow sg cs := by
    unfold allow
    refine List.filter_congr fun q hq => decide_eq_decide.mpr ?_
    rw [List.mem_filter]
    constructor
    · intro h
      by_cases m : q ∈ cs
      · exact m
      · exact absurd ⟨hq, decide_eq_true m⟩ h
    · rintro m ⟨_, h⟩
      exact of_decide_eq_true h m
  rw [z]
  exact allow_sub D.sub
section
variable {P : Program} {w : World} {K : PySem.W.Frag} {mg : Str → Option Value} {base : Heap} {C : Addr}
variable {f : Addr} {cdv : Value} {A : Around} {outer : List Env} {s0 : Shared} {HH : Hp} {E : XK}
theorem seg5 (T : LW P w K mg base C) (hg : (XL4 P w K mg base f cdv A outer s0 HH E).A.guards = some []) (hr : Room 9 (XL4 P w K mg base f cdv A outer s0 HH E).A) :
    ∃ tt, PSs (XL4 P w K mg base f cdv A outer s0 HH E) (turn4.drop 5) tt ∧ ∀ (D : Ends) (a S Ls ps pt pc pd pb x y r r' : Addr) (sg tg : List Str) (cts dts : List Addr) (cs ds : List (List Str)) (o2 o3 o10 o11 o12 o13 o14 o16 o17 : Option V) (H : Hp) (c : Nat), F4 sg tg cs ds → Far4 S Ls ps pt pc pd pb → R4 K C ps pt pc pd pb x y r r' sg tg cts dts cs ds H →
      StreamAt H S Ls c → c ≤ 70000 → (∀ σ' H' c', SigT4 a S σ' → StreamAt H' S Ls c' → c' ≤ c + 100 → Kept S Ls H H' → D.nx σ' H') →
      tt D [some (.ref a), some (.ref S), o2, o3, some (.ref ps), some (.ref pt), some (.ref x), some (.ref pc), some (.ref pd), some (.ref pb), o10, o11, o12, o13, o14, some (.ref y), o16, o17] H := by
  have L := T.L
  have TT := L.T
  obtain ⟨fA, fdA, FA, hsA, hfA, bA⟩ := L.and_
  obtain ⟨fO, fdO, FO, hsO, hfO, bO⟩ := L.or_
  obtain ⟨fV, fdV, FV, hsV, hfV, bV⟩ := L.inv
  obtain ⟨fE, fdE, FE, TE, bE⟩ := L.eq
  obtain ⟨tt3, p3, k3⟩ := seg11 (f := f) (cdv := cdv) (A := A) (outer := outer) (s0 := s0) (HH := HH) (E := E) T hg hr
  have hu := hu_of hr
  have hr1 : Room 1 _ := hr.mono (by decide)
  have hr2 : Room 2 _ := hr.mono (by decide)
  have hr7 : Room 7 _ := hr.mono (by decide)
  have hr8 : Room 8 _ := hr.mono (by decide)
  refine ⟨_, pss_cons (ps_setLc (i := 10) (own := [("_law_full", 17)]) (g := gName 17) (by rfl) scLaw4.nd rfl rfl (sw_true rfl rfl rfl (by decide +kernel)) (pi_list (pe_callH L.fulls hr1 (by rfl) (pa_cons (pv 9) pa_nil))) (blkOk_by (N := nLaw4) (sc := defScope sLaw) (by decide +kernel))
        (fun _ _ _ _ _ => pg_name (i := 17) scLaw4.nd rfl (.inl rfl)) (fun _ _ _ _ _ => pts_one (PW.pt (pw_and (pt_cmpR (op_inRowsK (K := K) rfl hu) (pe_callH L.up hr1 (by rfl) (pa_cons (pv 17) (pa_cons (pv 4) pa_nil))) (pv 7) rfl) (pw_and1 (pt_cmpR (op_inRowsK (K := K) rfl hu) (pe_callH L.up hr1 (by rfl) (pa_cons (pv 17) (pa_cons (pv 5) pa_nil))) (pv 8) rfl))))) (fun _ _ _ _ _ => pv 17))
    (pss_cons (ps_setLc (i := 11) (own := [("_law_full", 17)]) (g := gName 17) (by rfl) scLaw4.nd rfl rfl (sw_true rfl rfl rfl (by decide +kernel)) (pi_list (pe_callH L.fulls hr1 (by rfl) (pa_cons (pv 9) pa_nil))) (blkOk_by (N := nLaw4) (sc := defScope sLaw) (by decide +kernel))
        (fun _ _ _ _ _ => pg_name (i := 17) scLaw4.nd rfl (.inl rfl)) (fun _ _ _ _ _ => pts_one (PW.pt (pw_or (pt_cmpR (op_inRowsK (K := K) rfl hu) (pe_callH L.up hr1 (by rfl) (pa_cons (pv 17) (pa_cons (pv 4) pa_nil))) (pv 7) rfl) (pw_or1 (pt_cmpR (op_inRowsK (K := K) rfl hu) (pe_callH L.up hr1 (by rfl) (pa_cons (pv 17) (pa_cons (pv 5) pa_nil))) (pv 8) rfl))))) (fun _ _ _ _ _ => pv 17))
    (pss_cons (ps_if (PW.pt (pw_or (pt_not (pt_val (pe_callHG L.is_ hg hr2 (by rfl) (pa_cons (pe_op (op_binOwn FA L.self1 hsA hfA bA pass0 hr7) (pv 6) (pv 15)) (pa_cons (pv 9) (pa_cons (pv 10) pa_nil)))))) (pw_or1 (pt_not (pt_val (pe_callHG L.is_ hg hr2 (by rfl) (pa_cons (pe_op (op_binOwn FO L.self1 hsO hfO bO pass0 hr7) (pv 6) (pv 15)) (pa_cons (pv 9) (pa_cons (pv 11) pa_nil))))))))) (pss_one ps_none) pss_nil)
    (pss_cons (ps_setLc (i := 12) (own := [("_law_full", 17)]) (g := gName 17) (by rfl) scLaw4.nd rfl rfl (sw_true rfl rfl rfl (by decide +kernel)) (pi_list (pe_callH L.fulls hr1 (by rfl) (pa_cons (pv 4) pa_nil))) (blkOk_by (N := nLaw4) (sc := defScope sLaw) (by decide +kernel))
        (fun _ _ _ _ _ => pg_name (i := 17) scLaw4.nd rfl (.inl rfl)) (fun _ _ _ _ _ => pts_one (pt_cmpR (op_notInRowsK (K := K) rfl hu) (pv 17) (pv 7) rfl)) (fun _ _ _ _ _ => pv 17))
    (pss_cons (ps_if (PW.pt (pw_or (pt_not (pt_val (pe_callHG L.is_ hg hr2 (by rfl) (pa_cons (pe_un (un_invOwn FV hsV hfV bV pass0 hr7) (pv 6)) (pa_cons (pv 4) (pa_cons (pv 12) pa_nil)))))) (pw_or1 (pt_not (pt_cmpR (op_eqOwn FE TE.eq TE.fn bE pass0 hr7) (pe_un (un_invOwn FV hsV hfV bV pass0 hr7) (pe_un (un_invOwn FV hsV hfV bV pass0 hr7) (pv 6))) (pv 6) (nomark _)))))) (pss_one ps_none) pss_nil)
    (pss_cons (ps_if (pt_not (pt_val (pe_callHG T.less hg hr8 (by rfl) (pa_cons (pv 6) (pa_cons (pv 4) (pa_cons (pv 7) pa_nil)))))) (pss_one ps_none) pss_nil) p3))))), ?_⟩
  intro D a S Ls ps pt pc pd pb x y r r' sg tg cts dts cs ds o2 o3 o10 o11 o12 o13 o14 o16 o17 H c fx fa st hS hc k
  have Dr := fx.D1
  have l4 := fx.l1
  have l4' := fx.l2
  have j6 := fx.j6
  have f64 := fulls_few j6
  have goodj : ∀ z ∈ join sg tg, Name1 z := fun z hz => (join_mem.mp hz).elim (Dr.good z) (fx.D2.good z)
  have ndj := join_nodup Dr.nd fx.D2.nd
  refine ⟨_, rfl, pb, join sg tg, rfl, (fun H' s' => SqL.of (s' _ _ (st.hpb))), fx.j6, (fun z hz => (goodj z hz).2.1), fun pf1 fs1 H1a hpf1 hpf1a rowsF1 sm1a => ?_⟩
  have lfs1 : fs1.length = (fulls (join sg tg)).length := Paired.length rowsF1
  have st1a := st.same sm1a
  refine ⟨pf1, rfl, ⟨_, SqL.of hpf1a⟩, fun D1 hD1 => lc_it (walk_list (xs := fs1.map V.ref)) (fun i H3 => Same H1a H3 ∧ ∃ us, H3 D1 = some (.lst (us.map V.ref)) ∧ RowsAt H3 us (((fulls (join sg tg)).take i).filter fun q => and (decide (asc sg q ∈ cs)) (decide (asc tg q ∈ ds)))) ⟨same_new hD1, [], upd_same, .nil⟩ (fun i H3 _ hh => SqL.of (hh.1 _ _ hpf1a)) ?_ ?_⟩
  · rintro i v H3 H4 hi ⟨sm, us, hD4, ru⟩ ⟨rfl, hv⟩
    obtain ⟨t, ht, rfl⟩ := get_map hv
    obtain ⟨q, hq, hqt⟩ := RowsAt.get rowsF1 i t ht
    have er : (fulls (join sg tg)).take (i + 1) = (fulls (join sg tg)).take i ++ [q] := by rw [List.take_succ, hq]; rfl
    have lus : us.length ≤ 64 := by
      have z1 := Paired.length ru
      have z2 := List.length_filter_le (fun q => and (decide (asc sg q ∈ cs)) (decide (asc tg q ∈ ds))) ((fulls (join sg tg)).take i)
      have z3 := List.length_take_le' i (fulls (join sg tg))
      omega
    have st4 := st1a.same sm
    have hqt4 : H4 t = some (.tup (q.map V.str)) := sm _ _ hqt
    have yes : ∀ H5, Same H4 H5 → and (decide (asc sg q ∈ cs)) (decide (asc tg q ∈ ds)) = true → ∃ acc, H5 D1 = some (.lst acc) ∧ acc.length < sizeLine ∧ (Same H1a (upd H5 D1 (.lst (acc ++ [.ref t]))) ∧ ∃ us, upd H5 D1 (.lst (acc ++ [.ref t])) D1 = some (.lst (us.map V.ref)) ∧ RowsAt (upd H5 D1 (.lst (acc ++ [.ref t]))) us (((fulls (join sg tg)).take (i + 1)).filter fun q => and (decide (asc sg q ∈ cs)) (decide (asc tg q ∈ ds)))) := fun H5 s5 e => by
      refine ⟨_, s5 _ _ hD4, by rw [List.length_map, sizeLine_eq]; omega, fun b o h => (upd_ne (ne_of_none h hD1)).trans (s5 _ _ (sm b o h)), us ++ [t], ?_, RowsAt.put (s5 _ _ hD4) ?_⟩
      · rw [upd_same, List.map_append]
        rfl
      · rw [er, List.filter_append, List.filter_cons, if_pos e]
        exact rows_snoc (ru.same s5) (s5 _ _ hqt4)
    have no : ∀ H5, Same H4 H5 → and (decide (asc sg q ∈ cs)) (decide (asc tg q ∈ ds)) = false → (Same H1a H5 ∧ ∃ us, H5 D1 = some (.lst (us.map V.ref)) ∧ RowsAt H5 us (((fulls (join sg tg)).take (i + 1)).filter fun q => and (decide (asc sg q ∈ cs)) (decide (asc tg q ∈ ds)))) := fun H5 s5 e => by
      refine ⟨sm.trans s5, us, s5 _ _ hD4, ?_⟩
      rw [er, List.filter_append, List.filter_cons, if_neg (by rw [e]; decide), List.filter_nil, List.append_nil]
      exact ru.same s5
    refine ⟨rfl, _, rfl, _, rfl, t, ps, false, q, sg, rfl, Sq.tup hqt4, (fun H' s' => Sq.tup (s' _ _ hqt4)), SqL.of st4.hps, (fun H' s' => SqL.of (s' _ _ st4.hps)), by omega, (fun z hz => (fx.D1.good z hz).2.1), fun pu H5 hpu hpu5 s5 => ?_⟩
    have st5 := st4.same s5
    refine ⟨_, rfl, pu, pc, asc sg q, cts, cs, rfl, hpu5, rfl, SqL.of st5.hpc, st5.rc, _, rfl, ?_⟩
    have second : ∀ (c : Bool), True := fun _ => trivial
    cases h1 : decide (asc sg q ∈ cs) with
    | false => exact iteF (iteF (no H5 s5 (by rw [h1]; rfl)))
    | true =>
      have hqt5 := s5 _ _ hqt4
      refine iteT ⟨_, rfl, _, rfl, t, pt, false, q, tg, rfl, Sq.tup hqt5, (fun H' s' => Sq.tup (s' _ _ hqt5)), SqL.of st5.hpt, (fun H' s' => SqL.of (s' _ _ st5.hpt)), by omega, (fun z hz => (fx.D2.good z hz).2.1), fun pu2 H6 hpu2 hpu6 s6 => ?_⟩
      have st6 := st5.same s6
      refine ⟨_, rfl, pu2, pd, asc tg q, dts, ds, rfl, hpu6, rfl, SqL.of st6.hpd, st6.rd, _, rfl, ?_⟩
      cases h2 : decide (asc tg q ∈ ds) with
      | false => exact iteF (no H6 (s5.trans s6) (by rw [h1, h2]; rfl))
      | true => exact iteT ⟨_, rfl, yes H6 (s5.trans s6) (by rw [h1, h2]; rfl)⟩
  rintro H1b ⟨sm1b, us1, hD1b, ru1⟩
  rw [List.length_map, lfs1, List.take_length] at ru1
  have ru1 : RowsAt H1b us1 (joinR and sg cs tg ds) := ru1
  have sm1 := sm1a.trans sm1b
  have st1 := st.same sm1
  refine ⟨_, rfl, pb, join sg tg, rfl, (fun H' s' => SqL.of (s' _ _ (st1.hpb))), fx.j6, (fun z hz => (goodj z hz).2.1), fun pf2 fs2 H2a hpf2 hpf2a rowsF2 sm2a => ?_⟩
  have lfs2 : fs2.length = (fulls (join sg tg)).length := Paired.length rowsF2
  have st2a := st1.same sm2a
  refine ⟨pf2, rfl, ⟨_, SqL.of hpf2a⟩, fun D2 hD2 => lc_it (walk_list (xs := fs2.map V.ref)) (fun i H3 => Same H2a H3 ∧ ∃ us, H3 D2 = some (.lst (us.map V.ref)) ∧ RowsAt H3 us (((fulls (join sg tg)).take i).filter fun q => or (decide (asc sg q ∈ cs)) (decide (asc tg q ∈ ds)))) ⟨same_new hD2, [], upd_same, .nil⟩ (fun i H3 _ hh => SqL.of (hh.1 _ _ hpf2a)) ?_ ?_⟩
  · rintro i v H3 H4 hi ⟨sm, us, hD4, ru⟩ ⟨rfl, hv⟩
    obtain ⟨t, ht, rfl⟩ := get_map hv
    obtain ⟨q, hq, hqt⟩ := RowsAt.get rowsF2 i t ht
    have er : (fulls (join sg tg)).take (i + 1) = (fulls (join sg tg)).take i ++ [q] := by rw [List.take_succ, hq]; rfl
    have lus : us.length ≤ 64 := by
      have z1 := Paired.length ru
      have z2 := List.length_filter_le (fun q => or (decide (asc sg q ∈ cs)) (decide (asc tg q ∈ ds))) ((fulls (join sg tg)).take i)
      have z3 := List.length_take_le' i (fulls (join sg tg))
      omega
    have st4 := st2a.same sm
    have hqt4 : H4 t = some (.tup (q.map V.str)) := sm _ _ hqt
    have yes : ∀ H5, Same H4 H5 → or (decide (asc sg q ∈ cs)) (decide (asc tg q ∈ ds)) = true → ∃ acc, H5 D2 = some (.lst acc) ∧ acc.length < sizeLine ∧ (Same H2a (upd H5 D2 (.lst (acc ++ [.ref t]))) ∧ ∃ us, upd H5 D2 (.lst (acc ++ [.ref t])) D2 = some (.lst (us.map V.ref)) ∧ RowsAt (upd H5 D2 (.lst (acc ++ [.ref t]))) us (((fulls (join sg tg)).take (i + 1)).filter fun q => or (decide (asc sg q ∈ cs)) (decide (asc tg q ∈ ds)))) := fun H5 s5 e => by
      refine ⟨_, s5 _ _ hD4, by rw [List.length_map, sizeLine_eq]; omega, fun b o h => (upd_ne (ne_of_none h hD2)).trans (s5 _ _ (sm b o h)), us ++ [t], ?_, RowsAt.put (s5 _ _ hD4) ?_⟩
      · rw [upd_same, List.map_append]
        rfl
      · rw [er, List.filter_append, List.filter_cons, if_pos e]
        exact rows_snoc (ru.same s5) (s5 _ _ hqt4)
    have no : ∀ H5, Same H4 H5 → or (decide (asc sg q ∈ cs)) (decide (asc tg q ∈ ds)) = false → (Same H2a H5 ∧ ∃ us, H5 D2 = some (.lst (us.map V.ref)) ∧ RowsAt H5 us (((fulls (join sg tg)).take (i + 1)).filter fun q => or (decide (asc sg q ∈ cs)) (decide (asc tg q ∈ ds)))) := fun H5 s5 e => by
      refine ⟨sm.trans s5, us, s5 _ _ hD4, ?_⟩
      rw [er, List.filter_append, List.filter_cons, if_neg (by rw [e]; decide), List.filter_nil, List.append_nil]
      exact ru.same s5
    refine ⟨rfl, _, rfl, _, rfl, t, ps, false, q, sg, rfl, Sq.tup hqt4, (fun H' s' => Sq.tup (s' _ _ hqt4)), SqL.of st4.hps, (fun H' s' => SqL.of (s' _ _ st4.hps)), by omega, (fun z hz => (fx.D1.good z hz).2.1), fun pu H5 hpu hpu5 s5 => ?_⟩
    have st5 := st4.same s5
    refine ⟨_, rfl, pu, pc, asc sg q, cts, cs, rfl, hpu5, rfl, SqL.of st5.hpc, st5.rc, _, rfl, ?_⟩
    have second : ∀ (c : Bool), True := fun _ => trivial
    cases h1 : decide (asc sg q ∈ cs) with
    | true => exact iteT (iteT ⟨_, rfl, yes H5 s5 (by rw [h1]; rfl)⟩)
    | false =>
      have hqt5 := s5 _ _ hqt4
      refine iteF ⟨_, rfl, _, rfl, t, pt, false, q, tg, rfl, Sq.tup hqt5, (fun H' s' => Sq.tup (s' _ _ hqt5)), SqL.of st5.hpt, (fun H' s' => SqL.of (s' _ _ st5.hpt)), by omega, (fun z hz => (fx.D2.good z hz).2.1), fun pu2 H6 hpu2 hpu6 s6 => ?_⟩
      have st6 := st5.same s6
      refine ⟨_, rfl, pu2, pd, asc tg q, dts, ds, rfl, hpu6, rfl, SqL.of st6.hpd, st6.rd, _, rfl, ?_⟩
      cases h2 : decide (asc tg q ∈ ds) with
      | false => exact iteF (no H6 (s5.trans s6) (by rw [h1, h2]; rfl))
      | true => exact iteT ⟨_, rfl, yes H6 (s5.trans s6) (by rw [h1, h2]; rfl)⟩
  rintro H2b ⟨sm2b, us2, hD2b, ru2⟩
  rw [List.length_map, lfs2, List.take_length] at ru2
  have ru2 : RowsAt H2b us2 (joinR or sg cs tg ds) := ru2
  have sm2 := sm2a.trans sm2b
  have st2 := st1.same sm2
  have hD12 := sm2 _ _ hD1b
  have ru12 := ru1.same sm2
  have Dj : ∀ g, Draw2 (join sg tg) (joinR g sg cs tg ds) := fun g => filter_draw j6 ndj goodj _
  obtain ⟨dx, _, _, hx, _⟩ := st2.cx.at_
  obtain ⟨dy, _, _, hy, _⟩ := st2.cy.at_
  have tyy : ∀ {HB : Hp}, Same H2b HB → TyX K HB (.ref y) (.ref C) := fun sm => .base (.ins (sm _ _ hy) TT.cl L.CI.cl L.CI.gt L.CI.tk L.CI.ob)
  refine ⟨_, rfl, _, rfl, tyy (Same.refl _), x, dx, _, rfl, hx, x, y, r, r', sg, tg, cs, ds, rfl, st2.cx, st2.cy, Dr, fx.D2, j6, fun p rr H3 hp hrr c3 sm3 => ⟨_, rfl, ?_⟩⟩
  have st3 := st2.same sm3
  refine ⟨_, rfl, _, rfl, p, rr, pb, D1, _, us1, _, rfl, c3, st3.hpb, sm3 _ _ hD12, ru12.same sm3, Dj and, fun H4 sm4 => ⟨_, rfl, iteF ?_⟩⟩
  have sm24 := sm3.trans sm4
  have st4 := st2.same sm24
  refine ⟨_, rfl, _, rfl, tyy sm24, x, dx, _, rfl, sm24 _ _ hx, x, y, r, r', sg, tg, cs, ds, rfl, st4.cx, st4.cy, Dr, fx.D2, j6, fun p2 rr2 H5 hp2 hrr2 c5 sm5 => ⟨_, rfl, ?_⟩⟩
  have sm25 := sm24.trans sm5
  have st5 := st2.same sm25
  refine ⟨_, rfl, _, rfl, p2, rr2, pb, D2, _, us2, _, rfl, c5, st5.hpb, sm25 _ _ hD2b, ru2.same sm25, Dj or, fun H6 sm6 => ⟨_, rfl, iteF ?_⟩⟩
  have sm26 := sm25.trans sm6
  have st6 := st2.same sm26
  refine ⟨_, rfl, ps, sg, rfl, (fun H' s' => SqL.of (s' _ _ st6.hps)), by omega, (fun z hz => (Dr.good z hz).2.1), fun pf3 fs3 H7 hpf3 hpf37 rowsF3 sm7 => ?_⟩
  have lfs3 : fs3.length = (fulls sg).length := Paired.length rowsF3
  have f643 := fulls_few Dr.n6
  have st7 := st6.same sm7
  refine ⟨pf3, rfl, ⟨_, SqL.of hpf37⟩, fun D3 hD3 => lc_it (walk_list (xs := fs3.map V.ref)) (fun i H3 => Same H7 H3 ∧ ∃ us, H3 D3 = some (.lst (us.map V.ref)) ∧ RowsAt H3 us (((fulls sg).take i).filter fun q => decide (q ∉ cs))) ⟨same_new hD3, [], upd_same, .nil⟩ (fun i H3 _ hh => SqL.of (hh.1 _ _ hpf37)) ?_ ?_⟩
  · rintro i v H3 H4 hi ⟨sm, us, hD4, ru⟩ ⟨rfl, hv⟩
    obtain ⟨t, ht, rfl⟩ := get_map hv
    obtain ⟨q, hq, hqt⟩ := RowsAt.get rowsF3 i t ht
    have er : (fulls sg).take (i + 1) = (fulls sg).take i ++ [q] := by rw [List.take_succ, hq]; rfl
    have lus : us.length ≤ 64 := by
      have z1 := Paired.length ru
      have z2 := List.length_filter_le (fun q => decide (q ∉ cs)) ((fulls sg).take i)
      have z3 := List.length_take_le' i (fulls sg)
      omega
    have st4 := st7.same sm
    have hqt4 : H4 t = some (.tup (q.map V.str)) := sm _ _ hqt
    refine ⟨rfl, _, rfl, _, rfl, t, pc, q, cts, cs, rfl, hqt4, rfl, SqL.of st4.hpc, st4.rc, _, rfl, ?_⟩
    by_cases m : q ∈ cs
    · rw [decide_eq_true m]
      refine iteF ⟨sm, us, hD4, ?_⟩
      rw [er, List.filter_append, List.filter_cons, if_neg (by rw [decide_eq_false fun h => h m]; decide), List.filter_nil, List.append_nil]
      exact ru
    · rw [decide_eq_false m]
      refine iteT ⟨_, rfl, _, hD4, by rw [List.length_map, sizeLine_eq]; omega, fun b o h => (upd_ne (ne_of_none h hD3)).trans (sm b o h), us ++ [t], ?_, RowsAt.put hD4 ?_⟩
      · rw [upd_same, List.map_append]
        rfl
      · rw [er, List.filter_append, List.filter_cons, if_pos (decide_eq_true m)]
        exact rows_snoc ru hqt4
  rintro H8 ⟨sm8, us3, hD38, ru3⟩
  rw [List.length_map, lfs3, List.take_length] at ru3
  have sm28 := sm26.trans (sm7.trans sm8)
  have st8 := st2.same sm28
  have Dn : Draw2 sg ((fulls sg).filter fun q => decide (q ∉ cs)) := filter_draw Dr.n6 Dr.nd Dr.good _
  refine ⟨_, rfl, x, dx, _, rfl, sm28 _ _ hx, x, r, sg, cs, rfl, st8.cx, Dr, fun p4 r4 H9 hp4 hr4 c9 sm9 => ?_⟩
  have sm29 := sm28.trans sm9
  have st9 := st2.same sm29
  refine ⟨_, rfl, _, rfl, p4, r4, ps, D3, sg, us3, _, rfl, c9, st9.hps, sm9 _ _ hD38, ru3.same sm9, Dn, fun H10 sm10 => ⟨_, rfl, iteF ?_⟩⟩
  have sm210 := sm29.trans sm10
  have st10 := st2.same sm210
  refine ⟨_, rfl, x, dx, _, rfl, sm210 _ _ hx, x, r, sg, cs, rfl, st10.cx, Dr, fun p5 r5 H11 hp5 hr5 c11 sm11 => ?_⟩
  obtain ⟨d5, _, _, h5, _⟩ := c11.at_
  refine ⟨p5, d5, _, rfl, h5, p5, r5, sg, _, rfl, c11, Dn, fun p6 r6 H12 hp6 hr6 c12 sm12 => ?_⟩
  rw [not_not Dr] at c12
  have sm212 := sm210.trans (sm11.trans sm12)
  have st12 := st2.same sm212
  obtain ⟨d6, _, _, h6, _⟩ := c12.at_
  have ne6 : r6 ≠ r := by
    obtain ⟨_, _, _, _, _, _, hr0⟩ := ((st10.same sm11).cx).at_
    exact (ne_of_none hr0 hr6).symm
  have ok := Dr.ok
  refine ⟨_, rfl, .ref C, .base (.ins (sm212 _ _ hx) TT.cl L.CI.cl L.CI.gt L.CI.tk L.CI.ob), L.not2, p6, d6, _, rfl, h6, p6, .ref x, _, _, r6, rfl, c12, ok.n60, ok.nd, ok.full, ok.few, .inl ⟨x, _, _, r, rfl, st12.cx, ne6, ok.n60, ok.nd, ok.good, fun H13 sm13 => ⟨_, rfl, _, rfl, ?_⟩⟩⟩
  rw [eq_same Dr]
  refine iteF ?_
  have sm213 := sm212.trans sm13
  have st13 := st2.same sm213
  refine ⟨_, rfl, _, rfl, _, rfl, x, r, ps, pc, sg, cts, cs, rfl, st13.cx, Dr, st13.hps, st13.hpc, st13.rc, fun H14 sm14 => ⟨_, rfl, iteF ?_⟩⟩
  have smAll := sm1.trans (sm2.trans (sm213.trans sm14))
  exact k3 D a S Ls ps pt pc pd pb x y r r' sg tg cts dts cs ds _ _ _ _ _ _ _ _ _ H14 c fx fa (st.same smAll) (hS.same smAll) hc fun σ' H' c' h1 h2 h3 h4 => k σ' H' c' h1 h2 h3 (Kept.trans (fun b o e _ _ => smAll b o e) h4)
end
end K6
namespace K6
open PySem PySem.Spec PyProof.Rows L2 LamX NdefX EV
/-- a drawn beginning of names in a drawn order -/
theorem cut_names {ns : List Str} {ys : List V} {r : Int} (nd : ns.Nodup) (pm : ys.Perm (ns.map V.str)) (r0 : 0 ≤ r) (r5 : r < 5) : ∃ sg : List Str, cutV ys none (some r) = sg.map V.str ∧ sg.length ≤ 4 ∧ sg.Nodup ∧ ∀ z ∈ sg, z ∈ ns := by
  obtain ⟨ms, pm', rfl⟩ := perm_unmap pm ns rfl
  refine ⟨ms.take r.toNat, ?_, ?_, ?_, ?_⟩
  · have e : r = ((r.toNat : Nat) : Int) := (Int.toNat_of_nonneg r0).symm
    rw [e, cutV_take, List.map_take]
    rw [Int.toNat_natCast]
  · rw [List.length_take]
    omega
  · exact (pm'.nodup_iff.mpr nd).sublist (List.take_sublist _ _)
  · exact fun z hz => pm'.mem_iff.mp (List.mem_of_mem_take hz)
section
variable {P : Program} {w : World} {K : PySem.W.Frag} {mg : Str → Option Value} {base : Heap} {C : Addr}
variable {f : Addr} {cdv : Value} {A : Around} {outer : List Env} {s0 : Shared} {HH : Hp} {E : XK}
theorem seg0 (T : LW P w K mg base C) (hg : (XL4 P w K mg base f cdv A outer s0 HH E).A.guards = some []) (hr : Room 9 (XL4 P w K mg base f cdv A outer s0 HH E).A) :
    ∃ tt, PSs (XL4 P w K mg base f cdv A outer s0 HH E) (turn4.drop 0) tt ∧ ∀ (D : Ends) (a S Ls : Addr) (σ : L2.St) (H : Hp) (c : Nat), SigT4 a S σ → StreamAt H S Ls c → c ≤ 60000 → (∀ σ' H' c', SigT4 a S σ' → StreamAt H' S Ls c' → c' ≤ c + 400 → Kept S Ls H H' → D.nx σ' H') → tt D σ H := by
  have L := T.L
  have TT := L.T
  obtain ⟨fI, fdI, M, GI, bI⟩ := L.make
  obtain ⟨tt3, p3, k3⟩ := seg5 (f := f) (cdv := cdv) (A := A) (outer := outer) (s0 := s0) (HH := HH) (E := E) T hg hr
  have hu := hu_of hr
  have hr1 : Room 1 _ := hr.mono (by decide)
  have hr2 : Room 2 _ := hr.mono (by decide)
  have hr4 : Room 4 _ := hr.mono (by decide)
  have hr6 : Room 6 _ := hr.mono (by decide)
  refine ⟨_, pss_cons (ps_set (i := 3) scLaw4.nd rfl (.inl rfl) (pe_callH L.names hr4 (by rfl) (pa_cons (pv 1) (pa_cons pe_int pa_nil))))
    (pss_cons (ps_asg (pe_tup (pa_cons (pe_slice sl_list (pe_callH L.mixed hr2 (by rfl) (pa_cons (pv 1) (pa_cons (pv 3) pa_nil))) po_none (po_some (pe_callH L.draw hr1 (by rfl) (pa_cons (pv 1) (pa_cons pe_int pa_nil)))))
        (pa_cons (pe_slice sl_list (pe_callH L.mixed hr2 (by rfl) (pa_cons (pv 1) (pa_cons (pv 3) pa_nil))) po_none (po_some (pe_callH L.draw hr1 (by rfl) (pa_cons (pv 1) (pa_cons pe_int pa_nil))))) pa_nil))) (pg_tup (by rfl) (pgs_cons (pg_name (i := 4) scLaw4.nd rfl (.inr rfl)) (pgs_cons (pg_name (i := 5) scLaw4.nd rfl (.inr rfl)) pgs_nil))))
    (pss_cons (ps_set (i := 7) scLaw4.nd rfl (.inr rfl) (pe_lc (own := [("_law_one", 6)]) (g := gName 6) rfl scLaw4.nd (pi_list (pe_callH L.fulls hr1 (by rfl) (pa_cons (pv 4) pa_nil))) (blkOk_by (N := nLaw4) (sc := defScope sLaw) (by decide +kernel))
        (fun _ _ _ _ _ => pg_name (i := 6) scLaw4.nd rfl (.inl rfl)) (fun _ _ _ _ _ => pts_one (pt_cmpR op_eq (pe_callH L.draw hr1 (by rfl) (pa_cons (pv 1) (pa_cons pe_int pa_nil))) pe_int (nomark _))) (fun _ _ _ _ _ => pv 6)))
    (pss_cons (ps_set (i := 8) scLaw4.nd rfl (.inr rfl) (pe_lc (own := [("_law_one", 6)]) (g := gName 6) rfl scLaw4.nd (pi_list (pe_callH L.fulls hr1 (by rfl) (pa_cons (pv 5) pa_nil))) (blkOk_by (N := nLaw4) (sc := defScope sLaw) (by decide +kernel))
        (fun _ _ _ _ _ => pg_name (i := 6) scLaw4.nd rfl (.inl rfl)) (fun _ _ _ _ _ => pts_one (pt_cmpR op_eq (pe_callH L.draw hr1 (by rfl) (pa_cons (pv 1) (pa_cons pe_int pa_nil))) pe_int (nomark _))) (fun _ _ _ _ _ => pv 6)))
    (pss_cons (ps_asg (pe_tup (pa_cons (pe_make M GI hr6 (by rfl) TT.mgC bI .nil pass0 (pa_cons (pv 4) (pa_cons (pv 7) pa_nil))) (pa_cons (pe_make M GI hr6 (by rfl) TT.mgC bI .nil pass0 (pa_cons (pv 5) (pa_cons (pv 8) pa_nil)))
        (pa_cons (pe_op op_cat (pv 4) (pe_lc (own := [("_law_name", 16)]) (g := gName 16) rfl scLaw4.nd (pi_list (pv 5)) (blkOk_by (N := nLaw4) (sc := defScope sLaw) (by decide +kernel))
          (fun _ _ _ _ _ => pg_name (i := 16) scLaw4.nd rfl (.inl rfl)) (fun _ _ _ _ _ => pts_one (show PT _ _ (tTest (tOp (rIn K true) _ _)) from pt_cmpR op_notIn_seq (pv 16) (pv 4) rfl)) (fun _ _ _ _ _ => pv 16))) pa_nil))))
        (pg_tup (by rfl) (pgs_cons (pg_name (i := 6) scLaw4.nd rfl (.inr rfl)) (pgs_cons (pg_name (i := 15) scLaw4.nd rfl (.inr rfl)) (pgs_cons (pg_name (i := 9) scLaw4.nd rfl (.inl rfl)) pgs_nil)))))
    p3)))), ?_⟩
  rintro D a S Ls σ H c ⟨o2, o3, o4, o5, o6, o7, o8, o9, o10, o11, o12, o13, o14, o15, o16, o17, rfl⟩ hS hc k
  refine ⟨_, rfl, S, Ls, 5, c, rfl, by decide, by omega, hS, fun ns pn c1 H1 ln nd good hpn0 hpn hc1 hS1 hk1 => ?_⟩
  have offn := hS.off hpn0
  have lns : (ns.map V.str).length = 5 := by rw [List.length_map, ln]
  refine ⟨_, rfl, _, rfl, S, Ls, pn, true, _, c1, rfl, SqL.of hpn, by omega, by omega, hS1, fun ys p2 H2 pm hp20 hp2 hS2 hk2 => ?_⟩
  have hpn2 := lst_kept hpn hk2 offn
  have off2 := hS1.off hp20
  refine ⟨_, rfl, S, Ls, 5, _, rfl, by decide, by decide, by omega, hS2, fun r H3 r0 r5 hS3 hk3 => ?_⟩
  have hpn3 := lst_kept hpn2 hk3 offn
  have hp23 := lst_kept hp2 hk3 off2
  obtain ⟨sg, esg, ls, nds, subs⟩ := cut_names nd pm r0 r5
  refine ⟨_, rfl, p2, _, rfl, SqL.of hp23, fun ps hps0 => ?_⟩
  rw [esg]
  have t1 : Same H3 _ := same_new (o := .lst (sg.map V.str)) hps0
  have hps4 : upd H3 ps (.lst (sg.map V.str)) ps = some (.lst (sg.map V.str)) := upd_same
  have offs := hS3.off hps0
  have hS4 := hS3.same t1
  have hpn4 := t1 _ _ hpn3
  generalize upd H3 ps (.lst (sg.map V.str)) = H4 at t1 hps4 hS4 hpn4 ⊢
  refine ⟨_, rfl, _, rfl, S, Ls, pn, true, _, _, rfl, SqL.of hpn4, by omega, by omega, hS4, fun ys2 p5 H5 pm2 hp50 hp5 hS5 hk5 => ?_⟩
  have off5 := hS4.off hp50
  have hps5 := lst_kept hps4 hk5 offs
  refine ⟨_, rfl, S, Ls, 5, _, rfl, by decide, by decide, by omega, hS5, fun r' H6 r0' r5' hS6 hk6 => ?_⟩
  have hp56 := lst_kept hp5 hk6 off5
  have hps6 := lst_kept hps5 hk6 offs
  obtain ⟨tg, etg, lt, ndt, subt⟩ := cut_names nd pm2 r0' r5'
  refine ⟨_, rfl, p5, _, rfl, SqL.of hp56, fun pt hpt0 => ?_⟩
  rw [etg]
  refine ⟨by show 2 ≤ sizeLine; decide, fun tp htp => ⟨tp, _, rfl, SqT.of upd_same, rfl, _, _, rfl, _, _, rfl, rfl, ?_⟩⟩
  have t2 : Same H6 _ := same_new (o := .lst (tg.map V.str)) hpt0
  have t3 : Same _ _ := same_new (o := .tup [.ref ps, .ref pt]) htp
  have hptA := t3 _ _ (upd_same (H := H6) (a := pt) (o := .lst (tg.map V.str)))
  have t23 := t2.trans t3
  have offt := hS6.off hpt0
  have hSA := hS6.same t23
  have hpsA := t23 _ _ hps6
  generalize upd (upd H6 pt (.lst (tg.map V.str))) tp (.tup [.ref ps, .ref pt]) = HA at t23 hptA hSA hpsA ⊢
  have goods : ∀ z ∈ sg, Name1 z := fun z hz => good z (subs z hz)
  have goodt : ∀ z ∈ tg, Name1 z := fun z hz => good z (subt z hz)
  rw [lns] at hSA
  generalize hcA : c1 + 5 + 1 + 5 + 1 = cA at hSA
  have cA4 : cA ≤ c + 100 := by omega
  refine ⟨_, rfl, ps, sg, rfl, (fun H' s' => SqL.of (s' _ _ hpsA)), by omega, (fun z hz => (goods z hz).2.1), fun pfA tfA GA hpfA0 hpfA5 rowfA smGA => ?_⟩
  have hSGA := hSA.same smGA
  have lfA : tfA.length = (fulls sg).length := Paired.length rowfA
  have l16A : (fulls sg).length ≤ 16 := by
    rw [fulls_len]
    exact Nat.pow_le_pow_right (by decide) ls
  have offfA : pfA ≠ S ∧ pfA ≠ Ls := hSA.off hpfA0
  refine ⟨pfA, rfl, ⟨_, SqL.of hpfA5⟩, fun XA hXA => lc_it (walk_list (xs := tfA.map V.ref)) (fun i H6 => ∃ us rs', H6 XA = some (.lst (us.map V.ref)) ∧ RowsAt H6 us rs' ∧ rs'.Sublist ((fulls sg).take i) ∧ StreamAt H6 S Ls (cA + i) ∧ Kept S Ls GA H6) ⟨[], [], upd_same, .nil, List.nil_sublist _, hSGA.new hXA, (Kept.refl GA).new hXA⟩ (fun i H6 _ ⟨_, _, _, _, _, _, kk⟩ => SqL.of (lst_kept hpfA5 kk offfA)) ?_ ?_⟩
  · rintro i v H6 H7 hi ⟨us, rs', hD7, ru, sub, hS7, hk7⟩ ⟨rfl, hv⟩
    have offD := hSGA.off hXA
    obtain ⟨q, hq, rfl⟩ := get_map hv
    obtain ⟨rr, hr', hrq⟩ := RowsAt.get rowfA i q hq
    have ilt : i < (fulls sg).length := (List.getElem?_eq_some_iff.mp hr').1
    have er : (fulls sg).take (i + 1) = (fulls sg).take i ++ [rr] := by rw [List.take_succ, hr']; rfl
    have lus : us.length ≤ 64 := by
      have z1 := Paired.length ru
      have z2 := sub.length_le
      rw [List.length_take] at z2
      omega
    obtain ⟨⟨_, e1⟩, ⟨_, e2⟩⟩ := hSGA.two
    refine ⟨rfl, _, rfl, S, Ls, 2, _, rfl, by decide, by decide, by omega, hS7, fun r2 H8 r20 r21 hS8 hk8 => ?_⟩
    have hD8 := hk8 _ _ hD7 offD.1 offD.2
    have ru8 := RowsAt.kept ru hS7.two hk8
    refine ⟨rfl, _, rfl, ?_⟩
    refine ite2 (fun _ => ?_) (fun _ => ?_)
    · refine ⟨_, rfl, _, hD8, by rw [List.length_map, sizeLine_eq]; omega, us ++ [q], rs' ++ [rr], ?_, RowsAt.put hD8 (rows_snoc ru8 ?_), ?_, ?_, ?_⟩
      · rw [upd_same, List.map_append]
        rfl
      · exact (hk7.trans hk8) _ _ hrq (ne_of hrq e1 fun z => nomatch z) (ne_of hrq e2 fun z => nomatch z)
      · rw [er]
        exact List.Sublist.append sub (List.Sublist.refl _)
      · exact hS8.put offD.1 offD.2
      · exact kept_upd (hk7.trans hk8) hXA
    · refine ⟨us, rs', hD8, ru8, ?_, hS8, hk7.trans hk8⟩
      rw [er]
      exact sub.trans (List.sublist_append_left _ _)
  rintro HB ⟨cts, cs, hcB, rcB, subc, hSB, hkB⟩
  rw [List.length_map, lfA] at hSB
  rw [List.length_map, lfA, List.take_length] at subc
  have offc := hSGA.off hXA
  have hpsB := lst_kept (smGA _ _ hpsA) hkB offs
  have hptB := lst_kept (smGA _ _ hptA) hkB offt
  refine ⟨_, rfl, pt, tg, rfl, (fun H' s' => SqL.of (s' _ _ hptB)), by omega, (fun z hz => (goodt z hz).2.1), fun pfB tfB GB hpfB0 hpfB5 rowfB smGB => ?_⟩
  have hSGB := hSB.same smGB
  have lfB : tfB.length = (fulls tg).length := Paired.length rowfB
  have l16B : (fulls tg).length ≤ 16 := by
    rw [fulls_len]
    exact Nat.pow_le_pow_right (by decide) lt
  have offfB : pfB ≠ S ∧ pfB ≠ Ls := hSB.off hpfB0
  refine ⟨pfB, rfl, ⟨_, SqL.of hpfB5⟩, fun XB hXB => lc_it (walk_list (xs := tfB.map V.ref)) (fun i H6 => ∃ us rs', H6 XB = some (.lst (us.map V.ref)) ∧ RowsAt H6 us rs' ∧ rs'.Sublist ((fulls tg).take i) ∧ StreamAt H6 S Ls (cA + (fulls sg).length + i) ∧ Kept S Ls GB H6) ⟨[], [], upd_same, .nil, List.nil_sublist _, hSGB.new hXB, (Kept.refl GB).new hXB⟩ (fun i H6 _ ⟨_, _, _, _, _, _, kk⟩ => SqL.of (lst_kept hpfB5 kk offfB)) ?_ ?_⟩
  · rintro i v H6 H7 hi ⟨us, rs', hD7, ru, sub, hS7, hk7⟩ ⟨rfl, hv⟩
    have offD := hSGB.off hXB
    obtain ⟨q, hq, rfl⟩ := get_map hv
    obtain ⟨rr, hr', hrq⟩ := RowsAt.get rowfB i q hq
    have ilt : i < (fulls tg).length := (List.getElem?_eq_some_iff.mp hr').1
    have er : (fulls tg).take (i + 1) = (fulls tg).take i ++ [rr] := by rw [List.take_succ, hr']; rfl
    have lus : us.length ≤ 64 := by
      have z1 := Paired.length ru
      have z2 := sub.length_le
      rw [List.length_take] at z2
      omega
    obtain ⟨⟨_, e1⟩, ⟨_, e2⟩⟩ := hSGB.two
    refine ⟨rfl, _, rfl, S, Ls, 2, _, rfl, by decide, by decide, by omega, hS7, fun r2 H8 r20 r21 hS8 hk8 => ?_⟩
    have hD8 := hk8 _ _ hD7 offD.1 offD.2
    have ru8 := RowsAt.kept ru hS7.two hk8
    refine ⟨rfl, _, rfl, ?_⟩
    refine ite2 (fun _ => ?_) (fun _ => ?_)
    · refine ⟨_, rfl, _, hD8, by rw [List.length_map, sizeLine_eq]; omega, us ++ [q], rs' ++ [rr], ?_, RowsAt.put hD8 (rows_snoc ru8 ?_), ?_, ?_, ?_⟩
      · rw [upd_same, List.map_append]
        rfl
      · exact (hk7.trans hk8) _ _ hrq (ne_of hrq e1 fun z => nomatch z) (ne_of hrq e2 fun z => nomatch z)
      · rw [er]
        exact List.Sublist.append sub (List.Sublist.refl _)
      · exact hS8.put offD.1 offD.2
      · exact kept_upd (hk7.trans hk8) hXB
    · refine ⟨us, rs', hD8, ru8, ?_, hS8, hk7.trans hk8⟩
      rw [er]
      exact sub.trans (List.sublist_append_left _ _)
  rintro HC ⟨dts, ds, hdC, rdC, subd, hSC, hkC⟩
  rw [List.length_map, lfB] at hSC
  rw [List.length_map, lfB, List.take_length] at subd
  have offd := hSGB.off hXB
  have hpsC := lst_kept (smGB _ _ hpsB) hkC offs
  have hptC := lst_kept (smGB _ _ hptB) hkC offt
  have hcC := lst_kept (smGB _ _ hcB) hkC offc
  have rcC := RowsAt.kept (rcB.same smGB) hSGB.two hkC
  have D1 : Draw2 sg cs := ⟨by omega, nds, goods, subc⟩
  have D2 : Draw2 tg ds := ⟨by omega, ndt, goodt, subd⟩
  have l64 := D1.few
  have l64' := D2.few
  have sub1 : ∀ q ∈ cs, q ∈ fulls sg := fun q hq => subc.subset hq
  have sub2 : ∀ q ∈ ds, q ∈ fulls tg := fun q hq => subd.subset hq
  have j5 : (join sg tg).length ≤ 6 := by
    have z := nodup_le (join sg tg) ns (join_nodup nds ndt) fun z hz => (join_mem.mp hz).elim (subs z) (subt z)
    omega
  obtain ⟨qss, u1, u2, u3⟩ := handed_full (K := K) rcC fun q hq => full_of nds (sub1 q hq)
  have lq : qss.length = cs.length := by
    have y := congrArg List.length u2
    rw [List.length_map] at y
    omega
  refine ⟨_, rfl, _, rfl, fun x dx hx hdx _ => ?_⟩
  refine make_rule (b1 := true) (b2 := true) (sg := sg) hx hdx (SqL.of hpsC) (SqL.of hcC) (by omega) nds goods u1 u3 (by omega) fun rx HD smD cx freshx => ⟨rfl, ?_⟩
  rw [rowsOf_fulls nds goods u2 sub1, allow_sub subc] at cx
  obtain ⟨qss', v1, v2, v3⟩ := handed_full (K := K) (rdC.same smD) fun q hq => full_of ndt (sub2 q hq)
  have lq' : qss'.length = ds.length := by
    have y := congrArg List.length v2
    rw [List.length_map] at y
    omega
  refine ⟨_, rfl, _, rfl, fun y dy hy hdy _ => ?_⟩
  refine make_rule (b1 := true) (b2 := true) (sg := tg) hy hdy (SqL.of (smD _ _ hptC)) (SqL.of (smD _ _ hdC)) (by omega) ndt goodt v1 v3 (by omega) fun ry HE smE cy freshy => ⟨rfl, ?_⟩
  rw [rowsOf_fulls ndt goodt v2 sub2, allow_sub subd] at cy
  have smCE := smD.trans smE
  have hpsE := smCE _ _ hpsC
  have hptE := smCE _ _ hptC
  refine ⟨_, rfl, _, rfl, pt, rfl, ⟨_, SqL.of hptE⟩, fun U hU => lc_it (walk_list (xs := tg.map V.str)) (fun i H3 => Same HE H3 ∧ H3 U = some (.lst (((tg.take i).filter fun y => decide (y ∉ sg)).map V.str))) ⟨same_new hU, upd_same⟩ (fun i H3 _ hh => SqL.of (hh.1 _ _ hptE)) ?_ ?_⟩
  · rintro i v H3 H4 hi ⟨sm3, hL3⟩ ⟨rfl, hv⟩
    obtain ⟨n, hn, rfl⟩ := get_map hv
    have er : tg.take (i + 1) = tg.take i ++ [n] := by rw [List.take_succ, hn]; rfl
    have lf := List.length_filter_le (fun y => decide (y ∉ sg)) (tg.take i)
    have ltk := List.length_take_le' i tg
    refine ⟨rfl, _, rfl, _, rfl, ps, _, rfl, .inl (SqL.of (sm3 _ _ hpsE)), rfl, flat_str sg, _, rfl, ?_⟩
    rw [if_pos rfl, inV_str]
    by_cases m : n ∈ sg
    · rw [decide_eq_true m]
      refine iteF ⟨sm3, ?_⟩
      rw [hL3, er, List.filter_append, List.filter_cons, if_neg (by rw [decide_eq_false (fun h => h m)]; decide), List.filter_nil, List.append_nil]
    · rw [decide_eq_false m]
      refine iteT ⟨_, rfl, _, hL3, by rw [List.length_map, sizeLine_eq]; omega, fun c o h => (upd_ne (ne_of_none h hU)).trans (sm3 c o h), ?_⟩
      rw [upd_same, er, List.filter_append, List.filter_cons, if_pos (decide_eq_true m), List.map_append]
      rfl
  rintro HF ⟨smF, hUF⟩
  rw [List.length_map, List.take_length] at hUF
  have lfj := List.length_filter_le (fun y => decide (y ∉ sg)) tg
  refine ⟨ps, U, _, _, rfl, rfl, smF _ _ hpsE, hUF, by rw [List.length_map, List.length_map, sizeLine_eq]; omega, fun pb hpb => ?_⟩
  rw [← List.map_append]
  refine ⟨by show 3 ≤ sizeLine; decide, fun tq htq => ⟨tq, _, rfl, SqT.of upd_same, rfl, _, _, rfl, _, _, rfl, _, _, rfl, rfl, ?_⟩⟩
  have w1 : Same HF _ := same_new (o := .lst ((join sg tg).map V.str)) hpb
  have w2 : Same _ _ := same_new (o := .tup [.ref x, .ref y, .ref pb]) htq
  have w12 := w1.trans w2
  have smCF := smCE.trans (smF.trans w12)
  have smDF := smE.trans (smF.trans w12)
  have hpb' := w2 _ _ (upd_same (H := HF) (a := pb) (o := .lst ((join sg tg).map V.str)))
  have offb := ((hSC.same smCE).same smF).off hpb
  have hSZ := hSC.same smCF
  refine k3 D a S Ls ps pt XA XB pb x y rx ry sg tg cts dts cs ds _ _ _ _ _ _ _ _ _ _ _ ⟨D1, D2, ls, lt, j5⟩ ⟨offs, offt, offc, offd, offb⟩ ⟨smCF _ _ hpsC, smCF _ _ hptC, smCF _ _ hcC, rcC.same smCF, smCF _ _ hdC, rdC.same smCF, hpb', cx.same smDF, cy.same (smF.trans w12)⟩ hSZ (by omega) fun σ' H' c' hσ hS' hc' hK => k σ' H' c' hσ hS' (by omega) ?_
  have sk : ∀ {U V : Hp}, Same U V → Kept S Ls U V := fun sm b o e _ _ => sm b o e
  exact ((((((((((hk1.trans hk2).trans hk3).trans (sk t1)).trans hk5).trans hk6).trans (sk t23)).trans (sk smGA)).trans hkB).trans (sk smGB)).trans hkC).trans ((sk smCF).trans hK)
end
end K6
namespace K6
open PySem PySem.Spec PyProof.Rows L2 LamX NdefX EV
/-! ### too many signs -/
structure OT (K : PySem.W.Frag) (mg : Str → Option Value) (O : Addr) : Prop where
  r : ClX.CRead K O (.type "type")
  v : PySem.W.findCls K (.ref O) (.type "type") "__init__" = some (.val (.builtin "ValueError.__init__"))
  g : mg "OpenError" = some (.ref O)
def spI1 (K : PySem.W.Frag) (f : Str) : Sp := fun vs H Q _ => ∃ (a C : Addr) (x : V), vs = [.ref a, x] ∧ OexC K C ∧ PySem.W.findIn K (.ref C) f = some none ∧ H a = some (exo a C none) ∧
  ∀ dx, H dx = none → dx ≠ a → Q .non (upd (upd H dx (exd dx [(f, x)])) a (exo a C (some dx)))
/-- what is let out: TooMany of n -/
def Told (CM : Addr) (n : Nat) (H : Hp) (E : XK) : Prop := ∀ (d : Addr) (H' : Hp), H' d = some (.xd [("n", .int (n : Int))]) → Same H H' → E (.ref CM) (some d) H'
theorem Told.of {CM : Addr} {n : Nat} {H H' : Hp} {E : XK} (t : Told CM n H E) (sm : Same H H') : Told CM n H' E := fun d H2 h s2 => t d H2 h (sm.trans s2)
def spBig (K : PySem.W.Frag) (CM : Addr) : Sp := fun vs H _ E => ∃ (T : Addr) (b : Bool) (xs : List V), vs = [.ref T] ∧ Sq K b H T xs ∧ 6 < xs.length ∧ xs.length ≤ 1000 ∧ Told CM xs.length H E
def spBinX (K : PySem.W.Frag) (C CM : Addr) : Sp := fun vs H _ E => ∃ (x y r r' : Addr) (sg sg' : List Str) (rs rs' : List (List Str)), vs = [.ref x, .ref y] ∧ RuleR K C H x sg rs r ∧ RuleR K C H y sg' rs' r' ∧ Draw2 sg rs ∧ Draw2 sg' rs' ∧ 6 < (join sg sg').length ∧ Told CM (join sg sg').length H E
/-- what the text says of TooMany, at CM -/
structure TM (K : PySem.W.Frag) (mg : Str → Option Value) (CM fI : Addr) : Prop where
  ox : OexC K CM
  xf : XfC K CM
  ini : PySem.W.findIn K (.ref CM) "__init__" = some (some (.ref fI))
  ty : PySem.W.typeIn K (.ref fI) = some (.type "function")
  n : PySem.W.findIn K (.ref CM) "n" = some none
  ex : PySem.W.exmOne K (.ref CM) (.ref CM) = some true
  g : mg "TooMany" = some (.ref CM)
section
variable {P : Program} {w : World} {K : PySem.W.Frag} {mg : Str → Option Value} {base : Heap} {f fI fJ fU O C CM : Addr} {fd fdI fdJ fdU : FuncData}
abbrev sIM : Stmt := inClass (top 4) 0
theorem scIM : FnScope ["self", "n"] ["self", "n"] (defScope sIM) := ⟨rfl, rfl, rfl, by decide +kernel, rfl, by decide +kernel, by decide +kernel⟩
theorem ok_iM (F : Fun K "__init__" "TooMany.__init__" sIM f fd) (T : OT K mg O) : FnOk P w K mg base CX0 1 f fd ["self", "n"] (spI1 K "n") := by
  refine F.ok scIM (fun vs H Q E h => ?_) (fun cdv A outer s H vs Q E hr h => ?_)
  · obtain ⟨a, C, x, rfl, _⟩ := h
    rfl
  · obtain ⟨a, C, x, rfl, X0, n1, ha, k⟩ := h
    refine ⟨_, pss_cons (ps_expr (pe_binit T.r T.v (by rfl) T.g (pa_cons (pv 0) (pa_cons pe_str pa_nil)))) (pss_one (ps_ost (pv 0) (pv 1))), _, rfl, a, C, _, rfl, (by show 1 ≤ 1000; decide), X0, ha, ?_⟩
    exact ⟨_, rfl, _, rfl, a, C, rfl, X0, n1, .inl ⟨ha, k⟩⟩
theorem ok_big (F : Fun K "check_count" "check_count" sChkCount f fd) (ml : mg "len" = none) (mS : ∃ t, mg "MOST_SIGNS" = some (.int 6 t)) (T : TM K mg CM fI) (GI : FnOk P w K mg base CX0 1 fI fdI ["self", "n"] (spI1 K "n")) (bI : L2.Binds K fdI ["self", "n"] []) :
    FnOk P w K mg base (L2.CX P w) 3 f fd ["names"] (spBig K CM) := by
  obtain ⟨tS, mS⟩ := mS
  refine F.okX scChkCount (fun vs H Q E h => ?_) (fun cdv A outer s H vs Q E hr h => ?_)
  · obtain ⟨T, b, xs, rfl, _⟩ := h
    rfl
  · obtain ⟨L, b, xs, rfl, hT, big, few, k⟩ := h
    have hr2 : Room 2 _ := hr
    refine ⟨_, pss_one (ps_if (pt_cmpR op_gt (pe_callB call_len (by rfl) ml PySem.boot_len (pa_cons (pv 0) pa_nil)) (pe_glob (v := .int 6) (by rfl) mS ⟨_, rfl⟩) (nomark _))
        (pss_one (ps_raise rfl (takes_of rfl rfl rfl rfl) (pmk_oex T.ox T.ini T.ty GI hr2 bI .nil pass0 (by rfl) T.g (pa_cons (pe_callB call_len (by rfl) ml PySem.boot_len (pa_cons (pv 0) pa_nil)) pa_nil)))) pss_nil), ?_⟩
    refine ⟨_, rfl, _, xs.length, rfl, Sq.len hT, _, _, rfl, rfl, _, rfl, ?_⟩
    rw [decide_eq_true (by omega)]
    refine iteT ⟨_, rfl, _, xs.length, rfl, Sq.len hT, by show 1 ≤ 1000; decide, fun a ha => ⟨a, CM, _, rfl, T.ox, T.n, upd_same, fun dx hdx nda => ?_⟩⟩
    have hdx' : H dx = none := (upd_ne nda).symm.trans hdx
    refine ⟨rfl, dx, _, upd_same, (upd_ne nda).trans upd_same, hdx', k dx _ upd_same fun z o h => ?_⟩
    have na : z ≠ a := ne_of_none h ha
    have nd : z ≠ dx := ne_of_none h hdx'
    rw [upd_ne nd, del_ne na, upd_ne na, upd_ne nd, upd_ne na]
    exact h
theorem ok_andX (F : Fun K "__and__" "Rule.__and__" sAnd f fd) (T : RTxt K mg C)
    (GJ : FnOk P w K mg base CX0 1 fJ fdJ ["ones", "others"] (spJoin K)) (mJ : mg "joined_names" = some (.ref fJ)) (kJ : PySem.W.keepIn K (.ref fJ) = true) (bJ : L2.Binds K fdJ ["ones", "others"] [])
    (GU : FnOk P w K mg base (L2.CX P w) 3 fU fdU ["names"] (spBig K CM)) (mU : mg "check_count" = some (.ref fU)) (kU : PySem.W.keepIn K (.ref fU) = true) (bU : L2.Binds K fdU ["names"] []) :
    FnOk P w K mg base (L2.CX P w) 4 f fd ["self", "other"] (spBinX K C CM) := by
  refine F.okX scAnd (fun vs H Q E h => ?_) (fun cdv A outer s H vs Q E hr h => ?_)
  · obtain ⟨x, y, r, r', sg, sg', rs, rs', rfl, _⟩ := h
    rfl
  · obtain ⟨x, y, r, r', sg, sg', rs, rs', rfl, cx, cy, D1, D2, big, k⟩ := h
    have hr1 : Room 1 _ := hr.mono (by decide)
    refine ⟨_, pss_cons (ps_set (i := 2) scAnd.nd rfl (.inl rfl) (pe_call GJ hr1 (by rfl) mJ kJ bJ .nil pass0 (pa_cons (pe_fld (pv 0) rfl) (pa_cons (pe_fld (pv 1) rfl) pa_nil))))
      (pss_cons (ps_expr (pe_call GU hr (by rfl) mU kU bU .nil (passes_call (takes_of rfl rfl rfl rfl) fun _ _ _ _ h => h) (pa_cons (pv 2) pa_nil)))
      (pss_one ps_none)), ?_⟩
    obtain ⟨dx, a, pl, hx, ha, _, _⟩ := cx.at_
    obtain ⟨dy, a', pl', hy, ha', _, _⟩ := cy.at_
    have l1 := D1.n6
    have l2 := D2.n6
    have lj : (join sg sg').length ≤ 12 := by
      unfold join
      rw [List.length_append]
      have z := List.length_filter_le (fun y => decide (y ∉ sg)) sg'
      omega
    refine ⟨_, rfl, x, C, dx, _, _, rfl, hx, T.cl, T.n1, fl1 .., _, rfl, y, C, dy, _, _, rfl, hy, T.cl, T.n1, fl1 .., a, a', false, false, sg, sg', rfl, (fun H' s' => ha H' s'), (fun H' s' => ha' H' s'), by omega, by omega, D1.nd, fun J H1 hJ0 hJ1 sm1 => ?_⟩
    refine ⟨_, rfl, J, true, _, rfl, SqL.of hJ1, by rw [List.length_map]; exact big, by rw [List.length_map]; omega, ?_⟩
    rw [List.length_map]
    exact k.of sm1
theorem ok_orX (F : Fun K "__or__" "Rule.__or__" sOr f fd) (T : RTxt K mg C)
    (GJ : FnOk P w K mg base CX0 1 fJ fdJ ["ones", "others"] (spJoin K)) (mJ : mg "joined_names" = some (.ref fJ)) (kJ : PySem.W.keepIn K (.ref fJ) = true) (bJ : L2.Binds K fdJ ["ones", "others"] [])
    (GU : FnOk P w K mg base (L2.CX P w) 3 fU fdU ["names"] (spBig K CM)) (mU : mg "check_count" = some (.ref fU)) (kU : PySem.W.keepIn K (.ref fU) = true) (bU : L2.Binds K fdU ["names"] []) :
    FnOk P w K mg base (L2.CX P w) 4 f fd ["self", "other"] (spBinX K C CM) := by
  refine F.okX scOr (fun vs H Q E h => ?_) (fun cdv A outer s H vs Q E hr h => ?_)
  · obtain ⟨x, y, r, r', sg, sg', rs, rs', rfl, _⟩ := h
    rfl
  · obtain ⟨x, y, r, r', sg, sg', rs, rs', rfl, cx, cy, D1, D2, big, k⟩ := h
    have hr1 : Room 1 _ := hr.mono (by decide)
    refine ⟨_, pss_cons (ps_set (i := 2) scOr.nd rfl (.inl rfl) (pe_call GJ hr1 (by rfl) mJ kJ bJ .nil pass0 (pa_cons (pe_fld (pv 0) rfl) (pa_cons (pe_fld (pv 1) rfl) pa_nil))))
      (pss_cons (ps_expr (pe_call GU hr (by rfl) mU kU bU .nil (passes_call (takes_of rfl rfl rfl rfl) fun _ _ _ _ h => h) (pa_cons (pv 2) pa_nil)))
      (pss_one ps_none)), ?_⟩
    obtain ⟨dx, a, pl, hx, ha, _, _⟩ := cx.at_
    obtain ⟨dy, a', pl', hy, ha', _, _⟩ := cy.at_
    have l1 := D1.n6
    have l2 := D2.n6
    have lj : (join sg sg').length ≤ 12 := by
      unfold join
      rw [List.length_append]
      have z := List.length_filter_le (fun y => decide (y ∉ sg)) sg'
      omega
    refine ⟨_, rfl, x, C, dx, _, _, rfl, hx, T.cl, T.n1, fl1 .., _, rfl, y, C, dy, _, _, rfl, hy, T.cl, T.n1, fl1 .., a, a', false, false, sg, sg', rfl, (fun H' s' => ha H' s'), (fun H' s' => ha' H' s'), by omega, by omega, D1.nd, fun J H1 hJ0 hJ1 sm1 => ?_⟩
    refine ⟨_, rfl, J, true, _, rfl, SqL.of hJ1, by rw [List.length_map]; exact big, by rw [List.length_map]; omega, ?_⟩
    rw [List.length_map]
    exact k.of sm1
end
end K6
/-! x(lambda: .., n): the def that gets the lambda catches what it lets out, and reads its other parameter -/
namespace LamX
open PySem PySem.Spec PyProof.Rows L2
section
variable {X : Cx} {pins : List (Addr × Obj)} {σ : L2.St} {H HZ : Hp} {s s1 : Shared}
theorem pe_act2 {CXg : CXT} {Eg : XK} {Ng : List Str} {qg : Str} {sg : Scope} {g f c' : Addr} {cdg pm ctv : Value} {params : Arguments} {body : Expr} {scope : Scope} {k i : Nat} {a : Str} {pn : List (Addr × Obj)} {xe : Value → Shared → Prop} {W : WX} {E : XK} {tb : TE} {p1 p2 : Pos}
    (I : Inv X pins σ H s) (L : LamS X.env.scope scope) (hf : s.heap.get? f = some (PySem.W.kla_obj "<lambda>" (X.env.qual ++ "<lambda>") params body scope (cloFrom X.env.cells scope.names []) pm c' ctv)) (hfn : H f = none) (hfr : f ∉ frs X.stack)
    (hbind : bindArgs (PySem.W.kla_fn "<lambda>" (X.env.qual ++ "<lambda>") params body scope (cloFrom X.env.cells scope.names []) pm (.ref c') ctv) ⟨[], []⟩ = pure [])
    (tk : Takes ((cxOf CXg X.prog X.w X.K X.mg X.base Ng qg sg g cdg X.A X.stack s H Eg).tr pn xe) W) (hr : Room (k + 1) (X.A.deeper (envOfC qg sg s.heap.objs.size g cdg)))
    (hbody : ∀ (A : Around) (outer : List Env) (s : Shared) (H : Hp), Room k (A.deeper (lamEnv X scope s.heap.objs.size f c')) → PE (lamCx X A outer s H E scope f c') body tb)
    (hN : Ng[i]? = some a) (hv : Vis sg a) (hd : (a == ("__debug__" : Str)) = false := by decide) (hcd : (a == ("__classdict__" : Str)) = false := by decide) :
    PE ((cxOf CXg X.prog X.w X.K X.mg X.base Ng qg sg g cdg X.A X.stack s H Eg).tr pn xe) (.Call (.Name a p1) [] [] p2)
      (fun σZ HZ Q => σZ[i]? = some (some (.ref f)) ∧ HZ c' = some (CodeO c' (X.env.qual ++ "<lambda>")) ∧ (∀ cls d H', E cls d H' → W cls d σZ H') ∧ tb σ HZ Q) := by
  refine ⟨fun pinsZ sZ σZ HZ Q IZ h => ?_⟩
  obtain ⟨hs, hc, hW, ht⟩ := h
  refine wpAny_Call_Name_kw (thn ((pe_var (pos := p1) (i := i) hN hv hd hcd).run pinsZ sZ σZ HZ (fun v H1 => v = .ref f ∧ H1 = HZ) IZ ⟨.ref f, hs, rfl, rfl⟩) fun u s1 ⟨v, H1, I1, r1, q1⟩ => ?_)
  obtain ⟨ev, eH⟩ := q1
  subst ev
  rw [eH] at I1
  obtain rfl : u = Value.ref f := r1
  have of1 : s1.heap.get? f = some (PySem.W.kla_obj "<lambda>" (X.env.qual ++ "<lambda>") params body scope (cloFrom X.env.cells scope.names []) pm c' ctv) := I1.base.keep f _ hf hfn hfr (fun z => nomatch (show f ∈ ([] : List Addr) from z))
  refine PySem.W.callWith_F0 ⟨_, _, _, _, of1⟩ ?_
  have un : Un (frs X.stack) [] H HZ s.heap s1.heap := I1.base
  obtain ⟨⟨oc, vs, t, hoc, hdc, hvc⟩, _, _⟩ := I1.hok c' _ hc
  have rc : codeAny (model X.prog X.w) (X.A.deeper (envOfC qg sg s.heap.objs.size g cdg)) (.call (.ref f) ⟨[], []⟩) (CR (L2.CX X.prog X.w) (envOfC qg sg s.heap.objs.size g cdg :: X.stack) X.prog X.w HZ s1 Q E) s1 := by
    refine PySem.W.kla_callFunE hr.depth of1 rfl L.co L.gen rfl ⟨c', oc, vs, t, rfl, hoc, hdc, hvc⟩ ?_
    rw [hbind]
    refine wpAny_pure (wpAny_newFunctionEnv (fun y hy => (L.own y hy).2) (fun y hy => absurd hy (by simp)) (fun h₁ hns hsb => ⟨I1.nolimit.fresh _ hsb, ?_⟩) L.kind)
    show codeAny _ _ (.expr body (lamEnv X scope s1.heap.objs.size f c')) _ _
    have kp : ∀ b o, s1.heap.get? b = some o → h₁.get? b = some o := fun b o e => hsb.extBut b o (Nat.ne_of_lt (Heap.lt_size e)) (Heap.get?_push_of_some _ e)
    have J : Inv (lamCx X (X.A.deeper (envOfC qg sg s.heap.objs.size g cdg)) (envOfC qg sg s.heap.objs.size g cdg :: X.stack) s1 HZ E scope f c') [] σ HZ { s1 with heap := h₁, toks := s1.toks + ([] : List (Str × Value)).length } :=
      lam_start2 I L I1.env0 hr.hd un hns kp
    refine PySem.W.kla_codeExpr (wpAny_mono ((hbody _ _ s1 HZ (hr.deeper _)).run [] _ _ HZ Q J ht) (fun v s' hq => ?_) fun e s' hq => hq)
    obtain ⟨w', H', J', rv, q⟩ := hq
    exact ⟨w', H', J'.os, J'.bare, J'.base, J'.hok, rv, q⟩
  refine wpAny_call (codeAny_mono rc fun r s' hq => ?_)
  cases r with
  | error e => exact tk e s' (XE.of_call I1 (fun cls d H' h => hW cls d H' h) hq)
  | ok fl =>
    cases fl with
    | ret u => exact I1.after hq
    | next => exact False.elim hq
    | brk => exact False.elim hq
    | cont => exact False.elim hq
end
/-- the def that calls what it got: a calls it; TT: what it makes of the lambda's reading -/
def GivesTo2 (X : Cx) (Ng : List Str) (x : Str) (sg : Scope) (g : Addr) (cdg : Value) (bg : List Stmt) (a : Str) (q : Str) (n : Int) (TT : (XK → Hp → VK → Prop) → Hp → VK → Prop) : Prop :=
  ∀ (f c' : Addr) (s : Shared) (H : Hp) (Q : VK) (tl : XK → Hp → VK → Prop),
    (∀ (W : WX) (pn : List (Addr × Obj)) (xe : Value → Shared → Prop) (E : XK) (p1 p2 : Pos), Takes ((cxOf C8.CX0 X.prog X.w X.K X.mg X.base Ng x sg g cdg X.A X.stack s H C8.E0).tr pn xe) W →
      PE ((cxOf C8.CX0 X.prog X.w X.K X.mg X.base Ng x sg g cdg X.A X.stack s H C8.E0).tr pn xe) (.Call (.Name a p1) [] [] p2) (fun σZ HZ Q => σZ[0]? = some (some (.ref f)) ∧ HZ c' = some (CodeO c' q) ∧ (∀ cls d H', E cls d H' → W cls d σZ H') ∧ tl E HZ Q)) →
    H c' = some (CodeO c' q) → TT tl H Q →
    (X.A.deeper (envOfC x sg s.heap.objs.size g cdg)).guards = X.A.guards → Room 1 (X.A.deeper (envOfC x sg s.heap.objs.size g cdg)) →
    ∃ t, PSs (cxOf C8.CX0 X.prog X.w X.K X.mg X.base Ng x sg g cdg X.A X.stack s H C8.E0).nox bg t ∧ t { nx := fun _ H' => Q .non H', rt := Q } (L2.start Ng [.ref f, .int n]) H
section
variable {X : Cx}
theorem pe_lamcall2 {T : List (Addr × Str)} {TT : (XK → Hp → VK → Prop) → Hp → VK → Prop} {x a b : Str} {g c P : Addr} {k : Nat} {pg : Arguments} {bg : List Stmt} {sg : Scope} {dV kV doc pm cdv ct oc : Value} {an od : Option Addr} {osl : Array (Option Value)} {Ng : List Str} {n : Int} {cj : Nat} {cpos : Pos}
    {params : Arguments} {body : Expr} {scope : Scope} {t : XK → TE} {p lpos pos : Pos} (hg : Gl X x) (hm : X.mg x = some (.ref g)) (hk : PySem.W.keepIn X.K (.ref g) = true)
    (lk : X.K.lookup g = some ⟨oc, od, .func (PySem.W.fnOf x x pg bg sg dV kV doc pm an cdv ct), osl⟩) (hcg : PySem.W.codeIn X.K cdv x = true) (hb : L2.Binds X.K (PySem.W.fnOf x x pg bg sg dV kV doc pm an cdv ct) [a, b] []) (Sg : FnScope Ng [a, b] sg) (hNg : Ng[0]? = some a) (hva : Vis sg a)
    (hG : GivesTo2 X Ng x sg g cdv bg a (X.env.qual ++ "<lambda>") n TT)
    (TB : TabB X.base X.mg c P) (hcode : X.env.code = .ref c) (hmT : (P, X.env.qual ++ "<lambda>") ∈ T) (hu : ∀ p ∈ T, p.1 = P → p.2 = X.env.qual ++ "<lambda>") (hr : Room (k + 3) X.A) (L : LamS X.env.scope scope) (hdef : defaultsOf params X.env = ([], []))
    (hbind : ∀ (q : Str) (cl : List (Str × Addr)) (pm cv ctv : Value), bindArgs (PySem.W.kla_fn "<lambda>" q params body scope cl pm cv ctv) ⟨[], []⟩ = pure [])
    (hbody : ∀ (A : Around) (outer : List Env) (s : Shared) (H : Hp) (E : XK) (f c' : Addr), Room (k + 1) (A.deeper (lamEnv X scope s.heap.objs.size f c')) → PE (lamCx X A outer s H E scope f c') body (t E))
    (hgd : ∀ e : Env, (X.A.deeper e).guards = X.A.guards)
    (hdb : (x == ("__debug__" : Str)) = false := by decide) (hd : (a == ("__debug__" : Str)) = false := by decide) (hcd : (a == ("__classdict__" : Str)) = false := by decide) :
    PE X (.Call (.Name x p) [.Lambda params body scope lpos, .Constant (.int n) cj cpos] [] pos) (tLam T TT t) := by
  refine ⟨fun pins s σ H Q I h => ?_⟩
  obtain ⟨hT, h⟩ := h
  refine wpAny_Call_Name_kw (ld_glob I hg hm ?_ hdb)
  refine PySem.W.callWith_K (h₀ := X.base) I.ok.mod.kin hk ?_ (by rfl) (by rfl)
  show wpAny _ _ (spliced ((false, eval (.Lambda params body scope lpos) X.env) :: (false, eval (.Constant (.int n) cj cpos) X.env) :: backTo pos (starEach [] X.env))) _ _ s
  refine Calls.spliced_cons (lam_make2 I TB hcode hmT hu hT hdef (L.has I.ok) fun f c' pm' ctv H1 s' I1 eN T1 hf hfn hfr hco => ?_)
  refine Calls.spliced_cons (wpAny_Constant_int ?_)
  have I2 := I1.tok (s'.toks + 1)
  refine Calls.spliced_nil ⟨I2.kIn, ?_⟩
  have rc : codeAny (model X.prog X.w) X.A (.call (.ref g) ⟨[.ref f, .int n s'.toks], []⟩) (CR C8.CX0 X.stack X.prog X.w H1 { s' with toks := s'.toks + 1 } Q C8.E0) { s' with toks := s'.toks + 1 } := by
    refine run_ofS (N := Ng) (ps := [a, b]) (us := [.ref f, .int n s'.toks]) (vs := [.ref f, .int n]) lk hcg Sg hr I2.env0 (hb _ [.ref f, .int n s'.toks] I2.kIn rfl) (.cons rfl (.cons ⟨_, rfl⟩ .nil)) rfl fun hr' => ?_
    obtain ⟨t', ht', hq'⟩ := hG f c' _ H1 Q (fun E H' Q' => t E σ H' Q') (fun W pn xe E p1 p2 tk => pe_act2 (i := 0) I2 L hf hfn hfr (hbind _ _ _ _ _) tk hr' (fun A outer s H hr2 => hbody A outer s H E f c' hr2) hNg hva hd hcd) hco (h H1 eN T1) (hgd _) (hr'.mono (by omega))
    exact ⟨t', ht'.nox, hq'⟩
  refine wpAny_call (codeAny_mono rc fun r s2 hq => ?_)
  cases r with
  | error e => exact (show False from hq).elim
  | ok fl =>
    cases fl with
    | ret u => exact I2.after hq
    | next => exact False.elim hq
    | brk => exact False.elim hq
    | cont => exact False.elim hq
end
end LamX
namespace K6
open PySem PySem.Spec PyProof.Rows L2 LamX NdefX EV
/-! ### _law_same of two sevens, called while an exception is handled -/
def rRep7 : List V → Hp → VK → Prop := fun xs H Q => xs = [.int 7] ∧ Q (.str (PyData.int 7).shown) H
theorem call_rep7 {X : Cx} : CallR X (.builtin "repr") rRep7 := by
  intro pins s σ H xs us Q I r h
  obtain ⟨rfl, q⟩ := h
  obtain ⟨u, rfl, ru⟩ := r.one
  obtain ⟨t, rfl⟩ := ru
  exact PySem.P.repr_of_int (by decide) ⟨.str _, H, I.tok _, ⟨_, rfl⟩, q⟩
def spSame7 : Sp := fun vs H Q _ => vs = [.int 7, .int 7] ∧ Q (.bl true) H
/-- a def that lets nothing out and that needs no air is called while the exception at a is handled -/
theorem inv_quiet {X : Cx} {σ : L2.St} {H : Hp} {s : Shared} (I : Inv X [] σ H s) (hp : X.pn = []) (a : Addr) : Inv (X.suite a []) [] σ H s :=
  ⟨I.ok.suite _ _, I.os, I.bare, I.base, I.loc, I.cell, I.free, I.freeC, (fun p hp => nomatch hp), I.hok, I.len⟩
theorem env_mark {P : Program} {w : World} {K : PySem.W.Frag} {mg : Str → Option Value} {base : Heap} {A : Around} {outer : List Env} {s : Shared} {H : Hp} {h : Option Value} (e : Env0 P w K mg base (A.mark h) outer s H) : Env0 P w K mg base A outer s H := by
  cases e
  constructor <;> assumption
theorem run_quiet {P : Program} {w : World} {K : PySem.W.Frag} {mg : Str → Option Value} {base : Heap} {k : Nat} {f : Addr} {nm ql : Str} {params : Arguments} {body : List Stmt} {scp : Scope} {dV kV doc pm cdv ct oc : Value} {an od : Option Addr}
    {osl : Array (Option Value)} {NN pp : List Str} (lk : K.lookup f = some ⟨oc, od, .func (PySem.W.fnOf nm ql params body scp dV kV doc pm an cdv ct), osl⟩) (hcd : PySem.W.codeIn K cdv ql = true) (SC : FnScope NN pp scp)
    {A : Around} {outer : List Env} {s : Shared} {H : Hp} {args : Args} {us : List Value} {vs : List V} {Q : VK} {a : Addr} (hr : Room (k + 1) A) (em : Env0 P w K mg base (A.mark (some (.ref a))) outer s H) (hb : BindsTo s (PySem.W.fnOf nm ql params body scp dV kV doc pm an cdv ct) args (pp.zip us)) (rv : Vals vs us) (hl : vs.length = pp.length)
    (hbody : ∃ t, PSs ((cxOf CX0 P w K mg base NN ql scp f cdv A outer s H E0).nox.suite a []) body t ∧ t { nx := fun _ H' => Q .non H', rt := Q } (L2.start NN vs) H) :
    codeAny (model P w) (A.mark (some (.ref a))) (.call (.ref f) args) (CR CX0 outer P w H s Q E0) s := by
  have e1 := env_mark em
  have inK : K.In s.heap := e1.mod.kin.keeps fun b o z => (e1.bs b o z).1
  have noL : s.heap.NoLimit := e1.mod.nolimit.keeps fun b o z => (e1.bs b o z).1
  have kinds : ∀ y ∈ pp.zip us, scp.names.lookup y.1 = some .local ∨ (scp.names.lookup y.1 = some .cell ∧ ((cellsFrom (s.heap.objs.size + 1) scp.names []).lookup y.1).isSome = true) := fun ⟨n, v⟩ hy =>
    (SC.par n (List.of_mem_zip hy).1).elim (fun q => .inl q) fun q => .inr ⟨q, PySem.W.cellsFrom_some _ _ _ (.inl q)⟩
  refine codeAny_call_function (show (A.mark (some (.ref a))).depth < recursionLimit from hr.depth) (inK _ _ lk) rfl SC.co SC.gen rfl (PySem.W.codeRec_of inK hcd) (hb _ _ _ _ ?_)
  refine wpAny_newFunctionEnv_cells SC.kind kinds fun env he s1 x => ?_
  subst he
  refine ⟨noL.keeps x.toInCall.keep, codeAny_func ?_⟩
  obtain ⟨t, ht, hq⟩ := hbody
  have J : Inv (cxOf CX0 P w K mg base NN ql scp f cdv A outer s H E0) [] (L2.start NN vs) H s1 := inv_start SC hr.hd e1 hl rv x
  have J2 : Inv ((cxOf CX0 P w K mg base NN ql scp f cdv A outer s H E0).nox.suite a []) [] (L2.start NN vs) H s1 := ⟨J.ok.suite _ _, J.os, J.bare, J.base, J.loc, J.cell, J.free, J.freeC, (fun p hp => nomatch hp), J.hok, J.len⟩
  refine wpAny_mono (ht.run [] s1 (L2.start NN vs) H _ J2 hq) (fun fl s' hs => ?_) fun e s' hs => hs.elim
  cases fl with
  | ret u =>
    obtain ⟨v, σ', H', I9, r9, q9⟩ := hs
    exact ⟨v, H', I9.os, I9.bare, I9.base, I9.hok, r9, q9⟩
  | next =>
    obtain ⟨σ', H', I9, q9⟩ := hs
    exact ⟨V.non, H', I9.os, I9.bare, I9.base, I9.hok, rfl, q9⟩
  | brk =>
    obtain ⟨_, _, _, q9⟩ := hs
    exact q9.elim
  | cont =>
    obtain ⟨_, _, _, q9⟩ := hs
    exact q9.elim
def TTr (CM : Addr) : (XK → Hp → VK → Prop) → Hp → VK → Prop := fun tl H Q => ∀ Q', tl (fun cls d H' => cls = .ref CM ∧ ∃ dd, d = some dd ∧ H' dd = some (.xd [("n", .int 7)]) ∧ Q (.bl true) H') H Q'
abbrev nRef : List Str := ["_law_ask", "_law_many", "_law_e"]
theorem scRef : FnScope nRef ["_law_ask", "_law_many"] (defScope sRefuses) := ⟨rfl, rfl, rfl, by decide +kernel, rfl, by decide +kernel, by decide +kernel⟩
end K6
namespace K6
open PySem PySem.Spec PyProof.Rows L2 LamX NdefX EV
def SameF (K : PySem.W.Frag) (mg : Str → Option Value) : Prop := ∃ f fd, Fun K "_law_same" "_law_same" sSame f fd ∧ mg "_law_same" = some (.ref f) ∧ PySem.W.keepIn K (.ref f) = true ∧ L2.Binds K fd ["_law_found", "_law_due"] [] ∧ mg "repr" = none
theorem pe_same7 {X : Cx} {A0 : Around} {a : Addr} {e : Expr} {es : List Expr} {t : TA} {p pos : Pos} (eA : X.A = A0.mark (some (.ref a))) (S : SameF X.K X.mg) (hr : Room 1 A0) (hg : Gl X "_law_same") (ha : PA X (e :: es) t)
    (he : starEach (e :: es) X.env = (false, eval e X.env) :: starEach es X.env := by rfl) (hpl : (backTo pos (starEach es X.env)).any (·.1) = false := by rfl) :
    PE X (.Call (.Name "_law_same" p) (e :: es) [] pos) (tCall spSame7 [] E0 t) := by
  obtain ⟨f, fd, F, hm, hk, hb, mr⟩ := S
  refine ⟨fun pins s σ H Q I h => ?_⟩
  refine wpAny_Call_Name_kw (ld_glob I hg hm ?_ (by decide))
  refine PySem.W.callWith_K (h₀ := X.base) I.ok.mod.kin hk (thn (ha.run pos pins s σ H _ I h) fun us s1 ⟨vs, H1, I1, r, q⟩ => ⟨I1.kIn, ?_⟩) he hpl
  have q : spSame7 (vs ++ []) H1 Q E0 := q
  rw [List.append_nil] at q
  obtain ⟨rfl, k⟩ := q
  have hl : (us ++ []).length = 2 := by rw [List.append_nil, ← r.length]; rfl
  have b := hb s1 us I1.kIn hl
  rw [List.append_nil] at b
  obtain ⟨oc, od, kV, doc, pm, an, cdv, ct, osl, rfl, lk, hcd⟩ := F.ex
  have em : Env0 X.prog X.w X.K X.mg X.base (A0.mark (some (.ref a))) X.stack s1 H1 := eA ▸ I1.env0
  have run : codeAny (model X.prog X.w) (A0.mark (some (.ref a))) (.call (.ref f) ⟨us, []⟩) (CR CX0 X.stack X.prog X.w H1 s1 Q E0) s1 := by
    refine run_quiet lk hcd scSame hr em b r rfl ?_
    refine ⟨_, pss_one (ps_ret (pe_cmpR op_eq (pe_callB call_rep7 (by rfl) mr (by decide +kernel) (pa_cons (pv 0) pa_nil)) (pe_callB call_rep7 (by rfl) mr (by decide +kernel) (pa_cons (pv 1) pa_nil)) (nomark _))), ?_⟩
    refine ⟨_, rfl, rfl, _, rfl, rfl, rfl, ?_⟩
    show Q (.bl (decide (V.str (PyData.int 7).shown = V.str (PyData.int 7).shown))) H1
    rw [decide_eq_true rfl]
    exact k
  rw [← eA] at run
  refine wpAny_call (codeAny_mono run fun z s' hq => ?_)
  cases z with
  | error e => exact False.elim hq
  | ok fl =>
    cases fl with
    | ret u => exact I1.after hq
    | next => exact False.elim hq
    | brk => exact False.elim hq
    | cont => exact False.elim hq
theorem refuses_gives {X : Cx} {g CM fI : Addr} {cdg : Value} {q : Str} (T : TM X.K X.mg CM fI) (GS : SameF X.K X.mg) :
    GivesTo2 X nRef "_law_refuses" (defScope sRefuses) g cdg (defBody sRefuses) "_law_ask" q 7 (TTr CM) := by
  intro f c' s H Q tl act hc h hgd hr
  refine ⟨_, pss_cons (ps_try_as (X := (cxOf C8.CX0 X.prog X.w X.K X.mg X.base nRef "_law_refuses" (defScope sRefuses) g cdg X.A X.stack s H C8.E0).nox) (i := 2) (c := .ref CM)
      (tb := fun W D σ H => ∃ Ech : XK, (∀ cls d H', Ech cls d H' → W cls d σ H') ∧ σ[0]? = some (some (.ref f)) ∧ H c' = some (CodeO c' q) ∧ tl Ech H (fun _ H1 => D.nx σ H1))
      rfl rfl scRef.nd rfl rfl ⟨by rfl, by decide, .inl T.g⟩ LamX.takes0 (fun W pn xe tk _ => ?_) (fun a oe cls d pn hz hv => pss_one (ps_ret (pe_same7 rfl GS hr (by rfl) (pa_cons (pe_xf T.xf T.n hz hv (pv 2)) (pa_cons (pv 1) pa_nil)))))) (pss_one (ps_ret pe_bl)), ?_⟩
  · refine ⟨fun pins s' σ H' D I h' => ?_⟩
    obtain ⟨Ech, hW, h1, h2, h3⟩ := h'
    refine PSs.run (pss_one (ps_expr (act W pn xe Ech _ _ tk))) pins s' σ H' D I ⟨h1, h2, hW, h3⟩
  · refine ⟨fun cls d H' => cls = .ref CM ∧ ∃ dd, d = some dd ∧ H' dd = some (.xd [("n", .int 7)]) ∧ Q (.bl true) H', fun cls d H' ⟨e1, dd, e2, e3, e4⟩ => ⟨true, by rw [e1]; exact T.ex, fun _ a ha => ?_, fun z => nomatch z⟩, rfl, hc, h _⟩
    subst e1
    subst e2
    refine ⟨_, rfl, rfl, rfl, dd, _, _, rfl, e3, rfl, ?_⟩
    exact ⟨_, rfl, rfl, e4⟩
end K6
namespace K6
open PySem PySem.Spec PyProof.Rows L2 LamX NdefX EV
/-! ### the law -/
def qL4 : Str := (envOfC "law" (defScope sLaw) 0 0 .none).qual ++ "<lambda>"
def spLaw4 (K : PySem.W.Frag) (T : List (Addr × Str)) : Sp := fun vs H Q _ => ∃ (a : Addr) (ns : List Int), vs = [.ref a] ∧ SqL K H a (ns.map V.int) ∧ ns.length ≤ 63 ∧ Tabs T H ∧ ∀ H', Q (.bl true) H'
def tBX (K : PySem.W.Frag) (C CM : Addr) (i j : Nat) (E : XK) : TE := tOp (fun x y H Q => TyX K H y (.ref C) ∧ rBin C (spBinX K C CM) E x y H Q) (tVar i) (tVar j)
theorem tabs_on4 {T : List (Addr × Str)} {H H' : Hp} {S L : Addr} {c : Nat} (t : Tabs T H) (hs : StreamAt H S L c) (k : Kept S L H H') : Tabs T H' := fun q hq => by
  obtain ⟨⟨_, g1⟩, ⟨_, g2⟩⟩ := hs.two
  obtain ⟨ps, h1, h2, h3⟩ := t q hq
  refine ⟨ps, k _ _ h1 (ne_of h1 g1 fun z => nomatch z) (ne_of h1 g2 fun z => nomatch z), h2, fun pos cv hc => ?_⟩
  obtain ⟨x, e1, e2⟩ := h3 pos cv hc
  have nl : ∀ xs, CodeO x q.2 ≠ .lst xs := fun xs z => by
    unfold CodeO at z
    cases z
  exact ⟨x, e1, k _ _ e2 (ne_of e2 g1 (nl _)) (ne_of e2 g2 (nl _))⟩
theorem sqT_extN {K : PySem.W.Frag} {H H' : Hp} {a : Addr} {xs : List V} (h : SqT K H a xs) (k : ExtN H H') : SqT K H' a xs := by
  rcases h with h | h
  · refine .inl ?_
    rcases h with h | ⟨o, h⟩
    · exact .inl (k _ _ h fun ps z => nomatch z)
    · exact .inr ⟨o, k _ _ h fun ps z => nomatch z⟩
  · exact .inr h
theorem ExtN.toSame {H H' H2 : Hp} (k : ExtN H H') : True := trivial
theorem RuleR.extN {K : PySem.W.Frag} {C : Addr} {H H' : Hp} {x r : Addr} {sg : List Str} {rs : List (List Str)} (c : RuleR K C H x sg rs r) (k : ExtN H H') : RuleR K C H' x sg rs r := by
  obtain ⟨dx, a, pl, h1, h2, h4, h5⟩ := c.at_
  exact ⟨dx, a, pl, k _ _ h1 (fun ps z => nomatch z), fun H2 s2 => (sqT_extN (h2 H (Same.refl H)) k).ext s2, k _ _ h4 (fun ps z => nomatch z), k _ _ h5 (fun ps z => nomatch z)⟩
theorem join_seven {a b ns : List Str} (na : a.Nodup) (nb : b.Nodup) (nn : ns.Nodup) (sa : ∀ z ∈ a, z ∈ ns) (sb : ∀ z ∈ b, z ∈ ns) (all : ∀ z ∈ ns, z ∈ a ∨ z ∈ b) : (join a b).length = ns.length :=
  Nat.le_antisymm (nodup_le _ _ (join_nodup na nb) fun z hz => (join_mem.mp hz).elim (sa z) (sb z)) (nodup_le _ _ nn fun z hz => join_mem.mpr (all z hz))
section
variable {P : Program} {w : World} {K : PySem.W.Frag} {mg : Str → Option Value} {base : Heap} {C CM fI g cO Pt : Addr} {fdR : FuncData}
variable {f : Addr} {A : Around} {outer : List Env} {s0 : Shared} {HH : Hp} {E : XK}
theorem law_body (T : LW P w K mg base C) (TMx : TM K mg CM fI) (SF : SameF K mg) (FR : Fun K "_law_refuses" "_law_refuses" sRefuses g fdR) (mR : mg "_law_refuses" = some (.ref g)) (bR : L2.Binds K fdR ["_law_ask", "_law_many"] [])
    (AX : ∃ fA fdA, FnOk P w K mg base (L2.CX P w) 4 fA fdA ["self", "other"] (spBinX K C CM) ∧ PySem.W.findIn K (.ref C) (PySem.dunder Operator.BitAnd.info.2) = some (some (.ref fA)) ∧ PySem.W.isFn K (.ref fA) = true ∧ L2.Binds K fdA ["self", "other"] [])
    (OX : ∃ fA fdA, FnOk P w K mg base (L2.CX P w) 4 fA fdA ["self", "other"] (spBinX K C CM) ∧ PySem.W.findIn K (.ref C) (PySem.dunder Operator.BitOr.info.2) = some (some (.ref fA)) ∧ PySem.W.isFn K (.ref fA) = true ∧ L2.Binds K fdA ["self", "other"] [])
    (TB : TabB base mg cO Pt) (hg : (XL4 P w K mg base f (.ref cO) A outer s0 HH E).A.guards = some []) (hr : Room 9 (XL4 P w K mg base f (.ref cO) A outer s0 HH E).A) :
    ∃ tt, PSs (XL4 P w K mg base f (.ref cO) A outer s0 HH E) (defBody sLaw) tt ∧ ∀ (D : Ends) (a : Addr) (ns : List Int) (H : Hp), SqL K H a (ns.map V.int) → ns.length ≤ 63 → Tabs [(Pt, qL4)] H → (∀ H', D.rt (.bl true) H') → tt D (L2.start nLaw4 [.ref a]) H := by
  have L := T.L
  have TT := L.T
  obtain ⟨fJ, fdJ, M, GI, bI⟩ := L.make
  obtain ⟨fA, fdA, FA, hsA, hfA, bA⟩ := AX
  obtain ⟨fO, fdO, FO, hsO, hfO, bO⟩ := OX
  obtain ⟨oc, od, kV, doc, pm, an, cdR, ct, osl, rfl, lkR, hcR⟩ := FR.ex
  obtain ⟨tt1, p1, k1⟩ := seg0 (f := f) (cdv := .ref cO) (A := A) (outer := outer) (s0 := s0) (HH := HH) (E := E) T hg hr
  have hr1 : Room 1 _ := hr.mono (by decide)
  have hr4 : Room 4 _ := hr.mono (by decide)
  have hr6 : Room 6 _ := hr.mono (by decide)
  have hr8 : Room 8 _ := hr.mono (by decide)
  have four := fun (X : Cx) => @pe_slice X
  refine ⟨_, pss_cons (ps_set (i := 1) scLaw4.nd rfl (.inr rfl) (pe_lst (pa_cons (pe_callTy call_list_of (by rfl) TT.list (by decide +kernel) (pa_cons (pv 0) pa_nil)) (pa_cons pe_int (pa_cons pe_int (pa_cons pe_int pa_nil))))))
    (pss_cons (ps_for PassesOwn.never rfl (pi_range1 (by rfl) L.range (pa_cons pe_int pa_nil)) (pg_name (i := 2) scLaw4.nd rfl (.inl rfl)) p1)
    (pss_cons (ps_set (i := 3) scLaw4.nd rfl (.inl rfl) (pe_callH L.names hr4 (by rfl) (pa_cons (pv 1) (pa_cons pe_int pa_nil))))
    (pss_cons (ps_if (pt_not (pt_val (pe_callHG T.six hg hr8 (by rfl) (pa_cons (pe_slice sl_list (pv 3) po_none (po_some pe_int)) pa_nil)))) (pss_one ps_none) pss_nil)
    (pss_cons (ps_asg (pe_tup (pa_cons (pe_make M GI hr6 (by rfl) TT.mgC bI .nil pass0 (pa_cons (pe_slice sl_list (pv 3) po_none (po_some pe_int)) (pa_cons (pe_callH L.fulls hr1 (by rfl) (pa_cons (pe_slice sl_list (pv 3) po_none (po_some pe_int)) pa_nil)) pa_nil)))
        (pa_cons (pe_make M GI hr6 (by rfl) TT.mgC bI .nil pass0 (pa_cons (pe_slice sl_list (pv 3) (po_some pe_int) po_none) (pa_cons (pe_lst pa_nil) pa_nil))) pa_nil)))
        (pg_tup (by rfl) (pgs_cons (pg_name (i := 6) scLaw4.nd rfl (.inr rfl)) (pgs_cons (pg_name (i := 15) scLaw4.nd rfl (.inr rfl)) pgs_nil))))
    (pss_cons (ps_if (pt_not (pt_val (pe_lamcall2 (k := 3) (T := [(Pt, qL4)]) (t := tBX K C CM 6 15) (by rfl) mR FR.kp lkR hcR bR scRef rfl (.inl rfl) (refuses_gives TMx SF) TB rfl (List.mem_singleton.mpr rfl) (fun p hp _ => by rw [List.mem_singleton.mp hp]; rfl) hr6 (lamS_by (sc := defScope sLaw) (by decide +kernel)) rfl (fun _ _ _ _ _ => rfl)
        (fun _ _ _ _ E _ _ h => pe_op (op_binOwn (E := E) FA L.self1 hsA hfA bA (passes_call (takes_of rfl rfl rfl rfl) fun _ _ _ _ h => h) h) (pv 6) (pv 15)) (fun _ => rfl)))) (pss_one ps_none) pss_nil)
    (pss_one (ps_ret (pe_lamcall2 (k := 3) (T := [(Pt, qL4)]) (t := tBX K C CM 15 6) (by rfl) mR FR.kp lkR hcR bR scRef rfl (.inl rfl) (refuses_gives TMx SF) TB rfl (List.mem_singleton.mpr rfl) (fun p hp _ => by rw [List.mem_singleton.mp hp]; rfl) hr6 (lamS_by (sc := defScope sLaw) (by decide +kernel)) rfl (fun _ _ _ _ _ => rfl)
        (fun _ _ _ _ E _ _ h => pe_op (op_binOwn (E := E) FO L.self1 hsO hfO bO (passes_call (takes_of rfl rfl rfl rfl) fun _ _ _ _ h => h) h) (pv 15) (pv 6)) (fun _ => rfl))))))))), ?_⟩
  intro D a ns H hA hn hT k
  refine ⟨_, rfl, a, _, rfl, .inl hA, fun l0 hl0 => ⟨(by show 4 ≤ sizeLine; decide), fun S hS => ?_⟩⟩
  have hSl : StreamAt (upd (upd H l0 (.lst (ns.map V.int))) S (.lst [.ref l0, .int 0, .int 0, .int 0])) S l0 0 := ⟨ns, 0, 0, upd_same, (upd_ne (ne_of_none upd_same hS)).trans upd_same, by decide, by decide, by decide, hn⟩
  have sm0 : Same H (upd (upd H l0 (.lst (ns.map V.int))) S (.lst [.ref l0, .int 0, .int 0, .int 0])) := (same_new hl0).trans (same_new hS)
  have T0 : Tabs [(Pt, qL4)] _ := fun p hp => (hT p hp).ext sm0
  generalize upd (upd H l0 (.lst (ns.map V.int))) S (.lst [.ref l0, .int 0, .int 0, .int 0]) = HA at hSl T0 ⊢
  refine ⟨4, rfl, by decide, by decide, for_range (lo := 0) (n := 4) (fun i σ H2 => SigT4 a S σ ∧ ∃ c, c ≤ 400 * i ∧ StreamAt H2 S l0 c ∧ Tabs [(Pt, qL4)] H2) ⟨⟨_, _, _, _, _, _, _, _, _, _, _, _, _, _, _, _, rfl⟩, 0, Nat.zero_le _, hSl, T0⟩ ?_ ?_⟩
  · rintro i σ H2 hi ⟨⟨o2, o3, o4, o5, o6, o7, o8, o9, o10, o11, o12, o13, o14, o15, o16, o17, rfl⟩, c, hc, hS2, T2⟩
    exact k1 _ a S l0 _ H2 c ⟨_, _, _, _, _, _, _, _, _, _, _, _, _, _, _, _, rfl⟩ hS2 (by omega) fun σ' H' c' hσ hS' hc' hK => ⟨hσ, c', by omega, hS', tabs_on4 T2 hS2 hK⟩
  rintro σ HB ⟨⟨o2, o3, o4, o5, o6, o7, o8, o9, o10, o11, o12, o13, o14, o15, o16, o17, rfl⟩, c, hc, hS2, T2⟩
  refine ⟨_, rfl, S, l0, 7, c, rfl, by decide, by omega, hS2, fun nn pn c1 H1 ln nd good hpn0 hpn hc1 hS1 hk1 => ?_⟩
  have T1 := tabs_on4 T2 hS2 hk1
  obtain ⟨n0, n1, n2, n3, n4, n5, n6, rfl⟩ : ∃ a b c d e f g, nn = [a, b, c, d, e, f, g] := by
    match nn, ln with
    | [a, b, c, d, e, f, g], _ => exact ⟨_, _, _, _, _, _, _, rfl⟩
  have eq6 : cutV ([n0, n1, n2, n3, n4, n5, n6].map V.str) none (some 6) = [n0, n1, n2, n3, n4, n5].map V.str := rfl
  have eq4 : cutV ([n0, n1, n2, n3, n4, n5, n6].map V.str) none (some 4) = [n0, n1, n2, n3].map V.str := rfl
  have eq3 : cutV ([n0, n1, n2, n3, n4, n5, n6].map V.str) (some 3) none = [n3, n4, n5, n6].map V.str := rfl
  have nd6 : [n0, n1, n2, n3, n4, n5].Nodup := nd.sublist (List.take_sublist 6 [n0, n1, n2, n3, n4, n5, n6])
  have nd4 : [n0, n1, n2, n3].Nodup := nd.sublist (List.take_sublist 4 [n0, n1, n2, n3, n4, n5, n6])
  have nd3 : [n3, n4, n5, n6].Nodup := nd.sublist (List.drop_sublist 3 [n0, n1, n2, n3, n4, n5, n6])
  have su6 : ∀ z ∈ [n0, n1, n2, n3, n4, n5], z ∈ [n0, n1, n2, n3, n4, n5, n6] := fun z hz => (List.take_sublist 6 [n0, n1, n2, n3, n4, n5, n6]).subset hz
  have su4 : ∀ z ∈ [n0, n1, n2, n3], z ∈ [n0, n1, n2, n3, n4, n5, n6] := fun z hz => (List.take_sublist 4 [n0, n1, n2, n3, n4, n5, n6]).subset hz
  have su3 : ∀ z ∈ [n3, n4, n5, n6], z ∈ [n0, n1, n2, n3, n4, n5, n6] := fun z hz => (List.drop_sublist 3 [n0, n1, n2, n3, n4, n5, n6]).subset hz
  have al : ∀ z ∈ [n0, n1, n2, n3, n4, n5, n6], z ∈ [n0, n1, n2, n3] ∨ z ∈ [n3, n4, n5, n6] := fun z hz => by
    have hz' : z ∈ [n0, n1, n2, n3] ++ [n4, n5, n6] := hz
    rcases List.mem_append.mp hz' with h | h
    · exact .inl h
    · exact .inr (List.mem_cons_of_mem _ h)
  have j1 : (join [n0, n1, n2, n3] [n3, n4, n5, n6]).length = 7 := join_seven nd4 nd3 nd su4 su3 al
  have j2 : (join [n3, n4, n5, n6] [n0, n1, n2, n3]).length = 7 := join_seven nd3 nd4 nd su3 su4 fun z hz => (al z hz).symm
  have good6 : ∀ z ∈ [n0, n1, n2, n3, n4, n5], Name1 z := fun z hz => good z (su6 z hz)
  have good4 : ∀ z ∈ [n0, n1, n2, n3], Name1 z := fun z hz => good z (su4 z hz)
  have good3 : ∀ z ∈ [n3, n4, n5, n6], Name1 z := fun z hz => good z (su3 z hz)
  have l6 : [n0, n1, n2, n3, n4, n5].length = 6 := rfl
  have l4 : [n0, n1, n2, n3].length = 4 := rfl
  have l3 : [n3, n4, n5, n6].length = 4 := rfl
  clear su6 su4 su3 al ln nd good
  generalize [n0, n1, n2, n3, n4, n5, n6] = nn at hpn eq6 eq4 eq3
  generalize [n0, n1, n2, n3, n4, n5] = s6 at eq6 nd6 good6 l6
  generalize [n0, n1, n2, n3] = s4 at eq4 nd4 good4 l4 j1 j2
  generalize [n3, n4, n5, n6] = s3 at eq3 nd3 good3 l3 j1 j2
  refine ⟨_, rfl, _, rfl, pn, _, rfl, SqL.of hpn, fun p6 hp6 => ?_⟩
  rw [eq6]
  have a1 : Same H1 _ := same_new (o := .lst (s6.map V.str)) hp6
  refine ⟨p6, s6, rfl, upd_same, l6, nd6, good6, fun H2 sm2' => ⟨_, rfl, iteF ?_⟩⟩
  have sm2 := a1.trans sm2'
  have hpn2 := sm2 _ _ hpn
  refine ⟨_, rfl, _, rfl, pn, _, rfl, SqL.of hpn2, fun p4 hp4 => ?_⟩
  rw [eq4]
  have a2 : Same H2 _ := same_new (o := .lst (s4.map V.str)) hp4
  have hp42 : upd H2 p4 (.lst (s4.map V.str)) p4 = some (.lst (s4.map V.str)) := upd_same
  have hpn3 := a2 _ _ hpn2
  generalize upd H2 p4 (.lst (s4.map V.str)) = H3 at a2 hp42 hpn3 ⊢
  refine ⟨_, rfl, _, rfl, pn, _, rfl, SqL.of hpn3, fun p5 hp5 => ?_⟩
  rw [eq4]
  have a3 : Same H3 _ := same_new (o := .lst (s4.map V.str)) hp5
  refine ⟨p5, s4, rfl, (fun H' s' => SqL.of (s' _ _ upd_same)), by omega, (fun z hz => (good4 z hz).2.1), fun pf fs H5 hpf hpf5 rowsF sm5' => ?_⟩
  have sm5 := a3.trans sm5'
  have f64 := fulls_few (ns := s4) (by omega)
  obtain ⟨qss, u1, u2, u3⟩ := handed_full (K := K) rowsF fun q hq => full_of nd4 hq
  have lq : qss.length = (fulls s4).length := by
    have y := congrArg List.length u2
    rw [List.length_map] at y
    omega
  refine fun x dx hx hdx _ => ?_
  refine make_rule (b1 := true) (b2 := true) (sg := s4) hx hdx (SqL.of (sm5 _ _ hp42)) (SqL.of hpf5) (by omega) nd4 good4 u1 u3 (by omega) fun r H6 sm6 cx fresh => ⟨rfl, ?_⟩
  have sm26 := (a2.trans sm5).trans sm6
  have hpn6 := sm26 _ _ hpn2
  refine ⟨_, rfl, _, rfl, pn, _, rfl, SqL.of hpn6, fun p7 hp7 => ?_⟩
  rw [eq3]
  have a4 : Same H6 _ := same_new (o := .lst (s3.map V.str)) hp7
  refine ⟨Nat.zero_le _, fun q0 hq0 => ?_⟩
  have a5 : Same _ _ := same_new (o := .lst []) hq0
  refine fun y dy hy hdy _ => ?_
  refine make_rule (b1 := true) (b2 := true) (sg := s3) (xs := []) (qss := []) hy hdy (SqL.of (a5 _ _ upd_same)) (SqL.of upd_same) (by omega) nd3 good3 .nil (fun _ h => nomatch h) (Nat.zero_le _) fun r' H7 sm7 cy fresh' => ⟨rfl, ?_⟩
  have sm67 := (a4.trans a5).trans sm7
  refine ⟨by show 2 ≤ sizeLine; decide, fun tp htp => ⟨tp, _, rfl, SqT.of upd_same, rfl, _, _, rfl, _, _, rfl, rfl, ?_⟩⟩
  have a6 : Same H7 _ := same_new (o := .tup [.ref x, .ref y]) htp
  have smAll := sm2.trans (sm26.trans (sm67.trans a6))
  have T8 : Tabs [(Pt, qL4)] _ := fun p hp => (T1 p hp).ext smAll
  have cx8 := cx.same (sm67.trans a6)
  have cy8 := cy.same a6
  generalize upd H7 tp (.tup [.ref x, .ref y]) = H8 at T8 cx8 cy8 ⊢
  have D1 := allow_draw (by omega : s4.length ≤ 6) nd4 good4 (rowsOf s4 qss)
  have D2 := allow_draw (by omega : s3.length ≤ 6) nd3 good3 (rowsOf s3 [])
  refine ⟨T8, fun H9 eN9 T9 => fun Q' => ?_⟩
  have cx9 := cx8.extN eN9
  have cy9 := cy8.extN eN9
  obtain ⟨dx9, _, _, hx9, _⟩ := cx9.at_
  obtain ⟨dy9, _, _, hy9, _⟩ := cy9.at_
  refine ⟨_, rfl, _, rfl, .base (.ins hy9 TT.cl L.CI.cl L.CI.gt L.CI.tk L.CI.ob), x, dx9, _, rfl, hx9, x, y, r, r', s4, s3, _, _, rfl, cx9, cy9, D1, D2, by rw [j1]; decide, fun d H10 hd sm10 => ?_⟩
  rw [j1] at hd
  refine ⟨rfl, d, rfl, hd, ⟨_, rfl, iteF ?_⟩⟩
  have T10 : Tabs [(Pt, qL4)] H10 := fun p hp => (T9 p hp).ext sm10
  refine ⟨T10, fun H11 eN11 T11 => fun Q'' => ?_⟩
  have cx11 := (cx9.same sm10).extN eN11
  have cy11 := (cy9.same sm10).extN eN11
  obtain ⟨dx11, _, _, hx11, _⟩ := cx11.at_
  obtain ⟨dy11, _, _, hy11, _⟩ := cy11.at_
  refine ⟨_, rfl, _, rfl, .base (.ins hx11 TT.cl L.CI.cl L.CI.gt L.CI.tk L.CI.ob), y, dy11, _, rfl, hy11, y, x, r', r, s3, s4, _, _, rfl, cy11, cx11, D2, D1, by rw [j2]; decide, fun d' H12 hd' sm12 => ?_⟩
  rw [j2] at hd'
  exact ⟨rfl, d', rfl, hd', k H12⟩
end
end K6
namespace K6
open PySem PySem.Spec PyProof.Rows L2 LamX NdefX EV
/-! ### what the written part says of the text -/
def frees : List Str := ["int", "len", "repr", "range", "list", "tuple", "isinstance", "str", "all", "any", "enumerate", "sorted", "set"]
def freeB (K : PySem.W.Frag) (xs : List Str) : Bool := xs.all fun x => decide (PySem.W.nsIn K mainGlobals x = some none)
theorem freeB_ok {K : PySem.W.Frag} {xs : List Str} {h : Heap} {mg : Str → Option Value} (b : freeB K xs = true) (X : K.In h) (G : h.Ns mainGlobals mg) : ∀ x ∈ xs, mg x = none := fun x hx => by
  unfold freeB at b
  simp only [List.all_eq_true, decide_eq_true_eq] at b
  exact PySem.W.mg_none_of X G (b x hx)
def DefAt (K : PySem.W.Frag) (x : Str) (st : Stmt) (f : Addr) : Prop := PySem.W.nsIn K mainGlobals x = some (some (.ref f)) ∧ ∃ fd, Fun K x x st f fd
def fnB (K : PySem.W.Frag) (C : Addr) (m : Str) (f : Addr) : Bool := decide (PySem.W.findIn K (.ref C) m = some (some (.ref f))) && PySem.W.isFn K (.ref f) && PySem.W.keepIn K (.ref f)
theorem fnB_ok {K : PySem.W.Frag} {C f : Addr} {m : Str} (h : fnB K C m f = true) : Meth K C m f := by
  unfold fnB at h
  simp only [Bool.and_eq_true, decide_eq_true_eq] at h
  exact ⟨h.1.1, h.1.2, h.2⟩
def clB (K : PySem.W.Frag) (C : Addr) : Bool := PySem.W.plainGet K C Str.empty && PySem.W.hasDictIn K C && PySem.W.plainOver K C && decide (PySem.W.findIn K (.ref C) "__setattr__" = some (some (.builtin "object.__setattr__"))) &&
  (["names", "places", "rows"] : List Str).all (fun n => decide (PySem.W.findIn K (.ref C) n = some none))
theorem clB_ok {K : PySem.W.Frag} {C : Addr} (h : clB K C = true) : Cls K C ∧ NoAttr K C "names" ∧ NoAttr K C "places" ∧ NoAttr K C "rows" := by
  unfold clB at h
  simp only [Bool.and_eq_true, decide_eq_true_eq, List.all_eq_true] at h
  obtain ⟨⟨⟨⟨h1, h2⟩, h3⟩, h4⟩, h5⟩ := h
  exact ⟨⟨h1, h2, h3, h4⟩, h5 _ (by simp), h5 _ (by simp), h5 _ (by simp)⟩
def isB (K : PySem.W.Frag) (C : Addr) : Bool := decide (PySem.W.findIn K (.ref C) "__class__" = some (some (.builtin "object.__class__"))) && decide (PySem.W.specialIn K (.builtin "object.__class__") "__get__" = some (some (.builtin "getset_descriptor.__get__"))) && decide (PySem.W.takesIn K (.builtin "object.__class__") = some true) && decide (PySem.W.mroIn K C (.type "object") = some true)
theorem isB_ok {K : PySem.W.Frag} {C : Addr} (h : isB K C = true) : CIs K C := by
  unfold isB at h
  simp only [Bool.and_eq_true, decide_eq_true_eq] at h
  obtain ⟨⟨⟨h1, h2⟩, h3⟩, h4⟩ := h
  exact ⟨h1, h2, h3, h4⟩
def neB (K : PySem.W.Frag) (C : Addr) : Bool := decide (PySem.W.findIn K (.ref C) "__ne__" = some (some (.builtin "object.__ne__"))) && decide (PySem.W.mroIn K C (.type "object") = some true) && (oddTypes.all fun T => decide (PySem.W.subIn K (.ref C) (.type T) = some false) && decide (PySem.W.kitOne K (.type T) (.ref C) = some false) && PySem.W.notFirst K C (.type T)) && PySem.W.notFirst K C (.ref C)
theorem neB_ok {K : PySem.W.Frag} {C f : Addr} (h : neB K C = true) (m : Meth K C "__eq__" f) : NeTxt K C f ∧ (∀ T ∈ oddTypes, PySem.W.kitOne K (.type T) (.ref C) = some false ∧ PySem.W.notFirst K C (.type T) = true) ∧ PySem.W.notFirst K C (.ref C) = true := by
  unfold neB at h
  simp only [Bool.and_eq_true, decide_eq_true_eq, List.all_eq_true] at h
  obtain ⟨⟨⟨h1, h2⟩, h3⟩, h4⟩ := h
  exact ⟨⟨m.at_, m.fn, h1, h2, fun T hT => (h3 T hT).1.1⟩, fun T hT => ⟨(h3 T hT).1.2, (h3 T hT).2⟩, h4⟩
def mkB (K : PySem.W.Frag) (C : Addr) : Bool := PySem.W.makesIn K C && PySem.W.keepIn K (.ref C)
theorem mkB_ok {K : PySem.W.Frag} {C f : Addr} (h : mkB K C = true) (m : Meth K C "__init__" f) : Mk K C f := by
  unfold mkB at h
  simp only [Bool.and_eq_true] at h
  exact ⟨h.1, m.at_, m.fn, h.2⟩
section
variable {P : Program} {w : World} {K : PySem.W.Frag} {mg : Str → Option Value} {base : Heap}
def xfBits (K : PySem.W.Frag) (D : Addr) : Bool := decide (PySem.W.findIn K (.ref D) "__getattribute__" = some (some (.builtin "BaseException.__getattribute__"))) && decide (PySem.W.findIn K (.ref D) "__getattr__" = some none) && decide (PySem.W.subIn K (.ref D) (.type "BaseException") = some true) && PySem.W.hasDictIn K D
def tmB (K : PySem.W.Frag) (D f : Addr) : Bool := xfBits K D && decide (PySem.W.findIn K (.ref D) "__setattr__" = some (some (.builtin "object.__setattr__"))) && decide (PySem.W.typeIn K (.ref D) = some (.type "type")) && PySem.W.keepIn K (.ref D) && decide (PySem.W.findIn K (.ref D) "__init__" = some (some (.ref f))) && decide (PySem.W.typeIn K (.ref f) = some (.type "function")) && decide (PySem.W.findIn K (.ref D) "n" = some none) && decide (PySem.W.exmOne K (.ref D) (.ref D) = some true)
theorem tmB_ok {CM f : Addr} (h : tmB K CM f = true) (x : ∃ nm q N bs bm sn sub ab col dd k0 k1 k2 k3 k5, K.lookup CM = some (excClassObj nm q CM N bs bm true sn sub ab col dd k0 k1 k2 k3 k5 "ValueError.__new__") ∧ PySem.HandSPX.refsVE bm = true) (g : mg "TooMany" = some (.ref CM)) : TM K mg CM f := by
  unfold tmB xfBits at h
  simp only [Bool.and_eq_true, decide_eq_true_eq] at h
  obtain ⟨⟨⟨⟨⟨⟨⟨⟨⟨⟨h1, h2⟩, h3⟩, h4⟩, h5⟩, h6⟩, h7⟩, h8⟩, h9⟩, h10⟩, h11⟩ := h
  exact ⟨⟨x, h5, h3, h6, h7⟩, ⟨h1, h2, h3, h4⟩, h8, h9, h10, h11, g⟩
theorem exc_mk {C N : Addr} {nm q : Str} {bs bm sub : List Value} {sn : List Str} {ab : Bool} {col : Option Bool} {dd : Option Addr} {k0 k1 k2 k3 k5 : Option Value} (h : K.lookup C = some (excClassObj nm q C N bs bm true sn sub ab col dd k0 k1 k2 k3 k5 "ValueError.__new__")) (r : PySem.HandSPX.refsVE bm = true) :
    ∃ nm q N bs bm sn sub ab col dd k0 k1 k2 k3 k5, K.lookup C = some (excClassObj nm q C N bs bm true sn sub ab col dd k0 k1 k2 k3 k5 "ValueError.__new__") ∧ PySem.HandSPX.refsVE bm = true := ⟨nm, q, N, bs, bm, sn, sub, ab, col, dd, k0, k1, k2, k3, k5, h, r⟩
def otB (K : PySem.W.Frag) (O : Addr) : Bool := PySem.W.readsIn K O (.type "type") && decide (PySem.W.specialIn K (.ref O) "__getattribute__" = some (some (.builtin "type.__getattribute__"))) && (match PySem.W.findCls K (.ref O) (.type "type") "__init__" with
    | some (.val (.builtin id)) => id == "ValueError.__init__"
    | _ => false)
theorem otB_ok {O : Addr} (h : otB K O = true) (g : mg "OpenError" = some (.ref O)) : OT K mg O := by
  unfold otB at h
  simp only [Bool.and_eq_true, decide_eq_true_eq] at h
  obtain ⟨⟨h1, h2⟩, h3⟩ := h
  refine ⟨⟨h1, h2⟩, ?_, g⟩
  split at h3
  · rename_i id e
    rw [e, beq_iff_eq.mp h3]
  · cases h3
def opB (K : PySem.W.Frag) (C : Addr) : Bool := PySem.W.selfFirst K C && decide (PySem.W.findIn K (.ref C) (dunderR Operator.Sub.info.2) = some none) && decide (PySem.W.findIn K (.type "str") (PySem.dunder Operator.Sub.info.2) = some none) && decide (PySem.W.findIn K (.type "str") (dunderR Operator.Sub.info.2) = some none) && decide (PySem.W.subIn K (.type "str") (.ref C) = some false)
theorem law_mk {f c : Addr} {oc kV doc pm ct : Value} {od an : Option Addr} {osl : Array (Option Value)} (h : K.lookup f = some ⟨oc, od, .func (PySem.W.fnOf "law" "law" (defArgs sLaw) (defBody sLaw) (defScope sLaw) .none kV doc pm an (.ref c) ct), osl⟩) :
    ∃ (oc kV doc pm ct : Value) (od an : Option Addr) (osl : Array (Option Value)), K.lookup f = some ⟨oc, od, .func (PySem.W.fnOf "law" "law" (defArgs sLaw) (defBody sLaw) (defScope sLaw) .none kV doc pm an (.ref c) ct), osl⟩ := ⟨oc, kV, doc, pm, ct, od, an, osl, h⟩
theorem walk4 {l : PySem.W.OpenLaw} {q : Program} {loose : List Str} {XP : (Str → Option Value) → Heap → Prop} {YP : World → Heap → Prop} {d : DefRec} {K : Params → PySem.W.Frag} {cO Pt : Addr} (hn : l.most = some 63) (hdf : d.params.defaults = [])
    (hY : ∀ (w : World) (h : Heap), YP w h → (K w.params).In h ∧ h.get? Pt = some { cls := .none, data := .fields #[] }) (hP : ∀ w : World, (K w.params).lookup Pt = none) (hC : ∀ (w : World) (h : Heap), (K w.params).In h → PySem.W.CodeHd h cO Pt)
    (F : ∀ (w : World) (mg : Str → Option Value) (fa : Addr) (h base : Heap), (K w.params).In h → h.Ns mainGlobals mg → mg d.name = some (.ref fa) → TabB base mg cO Pt →
      ∃ fd, (∀ (s : Shared) (u : Value), BindsTo s fd ⟨[u], []⟩ [("_law_script", u)]) ∧ FnG l.prog w (K w.params) mg base 10 fa fd ["_law_script"] (spLaw4 (K w.params) [(Pt, qL4)])) :
    PySem.W.WalkO q loose XP YP l.row.toRowW d [] (fun f vs => PySem.call f vs) := by
  refine Att.attach_callB hn hdf fun w s₀ s₁ mg mb fa o pm cd doc a vs ns G Y ho hd hcd hmg hobj hints hlen hbits hg => ?_
  obtain ⟨KX, hT⟩ := hY w _ Y
  refine law_callG (cs := [(cO, Pt)]) KX G.T.g G.T.b G.T.builtins G.T.nolimit hg (fun p hp => ?_) (fun p hp => ?_) (fun p hp => ?_) G.T.bmain hobj hints (Nat.le_trans hlen (by decide)) fun base H kb gb tb hH hS e0 => ?_
  · rw [List.mem_singleton.mp hp]
    exact hT
  · rw [List.mem_singleton.mp hp]
    exact hP w
  · rw [List.mem_singleton.mp hp]
    exact hC w _ KX
  · obtain ⟨fd, hb, hF⟩ := F w mg fa _ base KX G.T.g hmg (tb _ List.mem_cons_self)
    refine hF.run callerA [] s₁ H ⟨[.ref a], []⟩ [.ref a] [.ref a] _ E0 rfl ⟨rfl, by decide, by decide⟩ e0 (hb s₁ (.ref a)) (.cons rfl .nil) ⟨a, ns, rfl, hS, hlen, fun q hq => ?_, fun _ => rfl⟩
    rw [List.mem_singleton.mp hq]
    exact TabS.nil (hH _ List.mem_cons_self)
theorem all_tx {h : Heap} {fa fZ C CM O gM fN AN cO Pt fD fP fM fS fF fN1 fU fA fNg fBr fIs fRf fLs fSx fCp fSo fi fn fop fl fp fv ft fw fc fk fs fu fj fks fal ftr frw g0 g1 g2 g5 g6 g7 g8 g9 ga gb gc gd : Addr} {vL vM vT : Value} (X : K.In h) (G : h.Ns mainGlobals mg) (hfa : mg "law" = some (.ref fa)) (fr : freeB K frees = true)
    (aL : PySem.W.nsIn K mainGlobals "LETTERS" = some (some vL)) (eL : ∃ t, vL = .str letters t) (aM : PySem.W.nsIn K mainGlobals "MOST_LETTERS" = some (some vM)) (eM : ∃ t, vM = .int 8 t) (aT : PySem.W.nsIn K mainGlobals "MOST_SIGNS" = some (some vT)) (eT : ∃ t, vT = .int 6 t)
    (dD : DefAt K "_law_draw" sDraw fD) (dP : DefAt K "_law_pick" sPick fP) (dM : DefAt K "_law_mixed" sMixed fM) (dS : DefAt K "_law_same" sSame fS) (dF : DefAt K "_law_fresh" sFresh fF) (dN : DefAt K "_law_names" sNames fN1) (dU : DefAt K "_law_up" sUp fU) (dA : DefAt K "_law_fulls" sFulls fA) (dNg : DefAt K "_law_neg" sNeg fNg) (dBr : DefAt K "_law_bare" sBare fBr) (dIs : DefAt K "_law_is" sIs fIs) (dRf : DefAt K "_law_refuses" sRefuses fRf) (dLs : DefAt K "_law_is_lessened" sLess fLs) (dSx : DefAt K "_law_are_six" sSix fSx) (dCp : DefAt K "_law_compared" sCmp fCp) (dSo : DefAt K "_law_are_so" sSo fSo) (di : DefAt K "is_name" sIsName fi) (dn : DefAt K "name_of" sNameOf fn) (dop : DefAt K "opposite" sOpp fop) (dl : DefAt K "literals_of" sLits fl) (dp : DefAt K "places_of" sPlaces fp) (dv : DefAt K "in_order" sInOrder fv) (dt : DefAt K "is_list" sIsList ft) (dw : DefAt K "first_wrong" sWrong fw) (dc : DefAt K "is_clause" sIsClause fc) (dk : DefAt K "is_full" sIsFull fk) (ds : DefAt K "full_settings" sFullSettings fs) (du : DefAt K "check_count" sChkCount fu) (dj : DefAt K "joined_names" sJoin fj) (dks : DefAt K "check_sign" sChkSign fks) (dal : DefAt K "allows" sAllows fal) (dtr : DefAt K "turned_row" sTurnRow ftr) (drw : DefAt K "row_without" sRowWithout frw)
    (aC : PySem.W.nsIn K mainGlobals "Rule" = some (some (.ref C))) (aN : PySem.W.nsIn K mainGlobals "check_names" = some (some (.ref fN))) (lN : ∃ fd, FunE K "check_names" "check_names" sChkNames fN fd AN)
    (i0 : PySem.W.findIn K (.ref C) "__init__" = some (some (.ref g0))) (n0 : fnB K C "__init__" g0 = true) (l0 : ∃ fd, Fun K "__init__" "Rule.__init__" sInit g0 fd) (i1 : PySem.W.findIn K (.ref C) "signs" = some (some (.ref g1))) (n1 : fnB K C "signs" g1 = true) (l1 : ∃ fd, Fun K "signs" "Rule.signs" sSigns g1 fd) (i2 : PySem.W.findIn K (.ref C) "settings" = some (some (.ref g2))) (n2 : fnB K C "settings" g2 = true) (l2 : ∃ fd, Fun K "settings" "Rule.settings" sSettings g2 fd) (i5 : PySem.W.findIn K (.ref C) "__contains__" = some (some (.ref g5))) (n5 : fnB K C "__contains__" g5 = true) (l5 : ∃ fd, Fun K "__contains__" "Rule.__contains__" sContains g5 fd) (i6 : PySem.W.findIn K (.ref C) "__eq__" = some (some (.ref g6))) (n6 : fnB K C "__eq__" g6 = true) (l6 : ∃ fd, Fun K "__eq__" "Rule.__eq__" sEq g6 fd) (i7 : PySem.W.findIn K (.ref C) "__le__" = some (some (.ref g7))) (n7 : fnB K C "__le__" g7 = true) (l7 : ∃ fd, Fun K "__le__" "Rule.__le__" sLe g7 fd) (i8 : PySem.W.findIn K (.ref C) "turned" = some (some (.ref g8))) (n8 : fnB K C "turned" g8 = true) (l8 : ∃ fd, Fun K "turned" "Rule.turned" sTurned g8 fd) (i9 : PySem.W.findIn K (.ref C) "__and__" = some (some (.ref g9))) (n9 : fnB K C "__and__" g9 = true) (l9 : ∃ fd, Fun K "__and__" "Rule.__and__" sAnd g9 fd) (ia : PySem.W.findIn K (.ref C) "__or__" = some (some (.ref ga))) (na : fnB K C "__or__" ga = true) (la : ∃ fd, Fun K "__or__" "Rule.__or__" sOr ga fd) (ib : PySem.W.findIn K (.ref C) "__invert__" = some (some (.ref gb))) (nb : fnB K C "__invert__" gb = true) (lb : ∃ fd, Fun K "__invert__" "Rule.__invert__" sInv gb fd) (ic : PySem.W.findIn K (.ref C) "__sub__" = some (some (.ref gc))) (nc : fnB K C "__sub__" gc = true) (lc : ∃ fd, Fun K "__sub__" "Rule.__sub__" sSub gc fd) (id : PySem.W.findIn K (.ref C) "__lt__" = some (some (.ref gd))) (nd : fnB K C "__lt__" gd = true) (ld : ∃ fd, Fun K "__lt__" "Rule.__lt__" sLt gd fd)
    (cC : clB K C = true) (cI : isB K C = true) (cE : neB K C = true) (cM : mkB K C = true) (cP : opB K C = true)
    (aX : PySem.W.nsIn K mainGlobals "TooMany" = some (some (.ref CM))) (aO : PySem.W.nsIn K mainGlobals "OpenError" = some (some (.ref O))) (iM : PySem.W.findIn K (.ref CM) "__init__" = some (some (.ref gM))) (lM : ∃ fd, Fun K "__init__" "TooMany.__init__" sIM gM fd) (wM : tmB K CM gM = true) (xM : ∃ nm q N bs bm sn sub ab col dd k0 k1 k2 k3 k5, K.lookup CM = some (excClassObj nm q CM N bs bm true sn sub ab col dd k0 k1 k2 k3 k5 "ValueError.__new__") ∧ PySem.HandSPX.refsVE bm = true) (wO : otB K O = true)
    (aZ : PySem.W.nsIn K mainGlobals "law" = some (some (.ref fZ))) (lZ : ∃ (oc kV doc pm ct : Value) (od an : Option Addr) (osl : Array (Option Value)), K.lookup fZ = some ⟨oc, od, .func (PySem.W.fnOf "law" "law" (defArgs sLaw) (defBody sLaw) (defScope sLaw) .none kV doc pm an (.ref cO) ct), osl⟩) (cZ : PySem.W.codeIn K (.ref cO) "law" = true) (TB : TabB base mg cO Pt) :
    ∃ fd, (∀ (s : Shared) (u : Value), BindsTo s fd ⟨[u], []⟩ [("_law_script", u)]) ∧ FnG P w K mg base 10 fa fd ["_law_script"] (spLaw4 K [(Pt, qL4)]) := by
  have fz := freeB_ok fr X G
  have z_int : mg "int" = none := fz _ (by unfold frees; decide +kernel)
  have z_len : mg "len" = none := fz _ (by unfold frees; decide +kernel)
  have z_repr : mg "repr" = none := fz _ (by unfold frees; decide +kernel)
  have z_range : mg "range" = none := fz _ (by unfold frees; decide +kernel)
  have z_list : mg "list" = none := fz _ (by unfold frees; decide +kernel)
  have z_tuple : mg "tuple" = none := fz _ (by unfold frees; decide +kernel)
  have z_isinstance : mg "isinstance" = none := fz _ (by unfold frees; decide +kernel)
  have z_str : mg "str" = none := fz _ (by unfold frees; decide +kernel)
  have z_all : mg "all" = none := fz _ (by unfold frees; decide +kernel)
  have z_any : mg "any" = none := fz _ (by unfold frees; decide +kernel)
  have z_enumerate : mg "enumerate" = none := fz _ (by unfold frees; decide +kernel)
  have z_sorted : mg "sorted" = none := fz _ (by unfold frees; decide +kernel)
  have z_set : mg "set" = none := fz _ (by unfold frees; decide +kernel)
  obtain ⟨tL, rfl⟩ := eL
  obtain ⟨tM, rfl⟩ := eM
  obtain ⟨tT, rfl⟩ := eT
  have mT : ∃ t, mg "MOST_SIGNS" = some (.int 6 t) := ⟨_, PySem.W.mg_of X G aT⟩
  have mL : ∃ t, mg "LETTERS" = some (.str letters t) := ⟨_, PySem.W.mg_of X G aL⟩
  have mM : ∃ t, mg "MOST_LETTERS" = some (.int 8 t) := ⟨_, PySem.W.mg_of X G aM⟩
  obtain ⟨aD_, fdD, FD⟩ := dD
  have mD := PySem.W.mg_of X G aD_
  have bD := FD.binds (ps := ["_law_stream", "_law_many"]) fun _ _ _ _ _ _ us hl => match us, hl with | [_, _], _ => rfl
  obtain ⟨aP_, fdP, FP⟩ := dP
  have mP := PySem.W.mg_of X G aP_
  have bP := FP.binds (ps := ["_law_stream", "_law_things"]) fun _ _ _ _ _ _ us hl => match us, hl with | [_, _], _ => rfl
  obtain ⟨aM_, fdM, FM⟩ := dM
  have mM_ := PySem.W.mg_of X G aM_
  have bM := FM.binds (ps := ["_law_stream", "_law_things"]) fun _ _ _ _ _ _ us hl => match us, hl with | [_, _], _ => rfl
  obtain ⟨aS_, fdS, FS⟩ := dS
  have mS := PySem.W.mg_of X G aS_
  have bS := FS.binds (ps := ["_law_found", "_law_due"]) fun _ _ _ _ _ _ us hl => match us, hl with | [_, _], _ => rfl
  obtain ⟨aF_, fdF, FF⟩ := dF
  have mF := PySem.W.mg_of X G aF_
  have bF := FF.binds (ps := ["_law_stream", "_law_taken"]) fun _ _ _ _ _ _ us hl => match us, hl with | [_, _], _ => rfl
  obtain ⟨aN_, fdN, FN⟩ := dN
  have mN := PySem.W.mg_of X G aN_
  have bN := FN.binds (ps := ["_law_stream", "_law_many"]) fun _ _ _ _ _ _ us hl => match us, hl with | [_, _], _ => rfl
  obtain ⟨aU_, fdU, FU⟩ := dU
  have mU := PySem.W.mg_of X G aU_
  have bU := FU.binds (ps := ["_law_some", "_law_names_here"]) fun _ _ _ _ _ _ us hl => match us, hl with | [_, _], _ => rfl
  obtain ⟨aA_, fdA, FA⟩ := dA
  have mA := PySem.W.mg_of X G aA_
  have bA := FA.binds (ps := ["_law_names_here"]) fun _ _ _ _ _ _ us hl => match us, hl with | [_], _ => rfl
  obtain ⟨aNg_, fdNg, FNg⟩ := dNg
  have mNg := PySem.W.mg_of X G aNg_
  have bNg := FNg.binds (ps := ["_law_one"]) fun _ _ _ _ _ _ us hl => match us, hl with | [_], _ => rfl
  obtain ⟨aBr_, fdBr, FBr⟩ := dBr
  have mBr := PySem.W.mg_of X G aBr_
  have bBr := FBr.binds (ps := ["_law_one"]) fun _ _ _ _ _ _ us hl => match us, hl with | [_], _ => rfl
  obtain ⟨aIs_, fdIs, FIs⟩ := dIs
  have mIs := PySem.W.mg_of X G aIs_
  have bIs := FIs.binds (ps := ["_law_rule", "_law_signs", "_law_allowed"]) fun _ _ _ _ _ _ us hl => match us, hl with | [_, _, _], _ => rfl
  obtain ⟨aRf_, fdRf, FRf⟩ := dRf
  have mRf := PySem.W.mg_of X G aRf_
  have bRf := FRf.binds (ps := ["_law_ask", "_law_many"]) fun _ _ _ _ _ _ us hl => match us, hl with | [_, _], _ => rfl
  obtain ⟨aLs_, fdLs, FLs⟩ := dLs
  have mLs := PySem.W.mg_of X G aLs_
  have bLs := FLs.binds (ps := ["_law_rule", "_law_signs", "_law_allowed"]) fun _ _ _ _ _ _ us hl => match us, hl with | [_, _, _], _ => rfl
  obtain ⟨aSx_, fdSx, FSx⟩ := dSx
  have mSx := PySem.W.mg_of X G aSx_
  have bSx := FSx.binds (ps := ["_law_names_here"]) fun _ _ _ _ _ _ us hl => match us, hl with | [_], _ => rfl
  obtain ⟨aCp_, fdCp, FCp⟩ := dCp
  have mCp := PySem.W.mg_of X G aCp_
  have bCp := FCp.binds (ps := ["_law_one", "_law_other"]) fun _ _ _ _ _ _ us hl => match us, hl with | [_, _], _ => rfl
  obtain ⟨aSo_, fdSo, FSo⟩ := dSo
  have mSo := PySem.W.mg_of X G aSo_
  have bSo := FSo.binds (ps := ["_law_one", "_law_other", "_law_c", "_law_d"]) fun _ _ _ _ _ _ us hl => match us, hl with | [_, _, _, _], _ => rfl
  obtain ⟨ai_, fdi, Fi⟩ := di
  have mi := PySem.W.mg_of X G ai_
  have bi := Fi.binds (ps := ["thing"]) fun _ _ _ _ _ _ us hl => match us, hl with | [_], _ => rfl
  obtain ⟨an_, fdn, Fn⟩ := dn
  have mn := PySem.W.mg_of X G an_
  have bn := Fn.binds (ps := ["literal"]) fun _ _ _ _ _ _ us hl => match us, hl with | [_], _ => rfl
  obtain ⟨aop_, fdop, Fop⟩ := dop
  have mop := PySem.W.mg_of X G aop_
  have bop := Fop.binds (ps := ["literal"]) fun _ _ _ _ _ _ us hl => match us, hl with | [_], _ => rfl
  obtain ⟨al_, fdl, Fl⟩ := dl
  have ml := PySem.W.mg_of X G al_
  have bl := Fl.binds (ps := ["names"]) fun _ _ _ _ _ _ us hl => match us, hl with | [_], _ => rfl
  obtain ⟨ap_, fdp, Fp⟩ := dp
  have mp := PySem.W.mg_of X G ap_
  have bp := Fp.binds (ps := ["names"]) fun _ _ _ _ _ _ us hl => match us, hl with | [_], _ => rfl
  obtain ⟨av_, fdv, Fv⟩ := dv
  have mv := PySem.W.mg_of X G av_
  have bv := Fv.binds (ps := ["places", "literals"]) fun _ _ _ _ _ _ us hl => match us, hl with | [_, _], _ => rfl
  obtain ⟨at_, fdt, Ft⟩ := dt
  have mt := PySem.W.mg_of X G at_
  have bt := Ft.binds (ps := ["thing"]) fun _ _ _ _ _ _ us hl => match us, hl with | [_], _ => rfl
  obtain ⟨aw_, fdw, Fw⟩ := dw
  have mw := PySem.W.mg_of X G aw_
  have bw := Fw.binds (ps := ["places", "things"]) fun _ _ _ _ _ _ us hl => match us, hl with | [_, _], _ => rfl
  obtain ⟨ac_, fdc, Fc⟩ := dc
  have mc := PySem.W.mg_of X G ac_
  have bc := Fc.binds (ps := ["places", "thing"]) fun _ _ _ _ _ _ us hl => match us, hl with | [_, _], _ => rfl
  obtain ⟨ak_, fdk, Fk⟩ := dk
  have mk := PySem.W.mg_of X G ak_
  have bk := Fk.binds (ps := ["places", "thing"]) fun _ _ _ _ _ _ us hl => match us, hl with | [_, _], _ => rfl
  obtain ⟨as_, fds, Fs⟩ := ds
  have ms := PySem.W.mg_of X G as_
  have bs := Fs.binds (ps := ["names"]) fun _ _ _ _ _ _ us hl => match us, hl with | [_], _ => rfl
  obtain ⟨au_, fdu, Fu⟩ := du
  have mu := PySem.W.mg_of X G au_
  have bu := Fu.binds (ps := ["names"]) fun _ _ _ _ _ _ us hl => match us, hl with | [_], _ => rfl
  obtain ⟨aj_, fdj, Fj⟩ := dj
  have mj := PySem.W.mg_of X G aj_
  have bj := Fj.binds (ps := ["ones", "others"]) fun _ _ _ _ _ _ us hl => match us, hl with | [_, _], _ => rfl
  obtain ⟨aks_, fdks, Fks⟩ := dks
  have mks := PySem.W.mg_of X G aks_
  have bks := Fks.binds (ps := ["rule", "name"]) fun _ _ _ _ _ _ us hl => match us, hl with | [_, _], _ => rfl
  obtain ⟨aal_, fdal, Fal⟩ := dal
  have mal := PySem.W.mg_of X G aal_
  have bal := Fal.binds (ps := ["rule", "row"]) fun _ _ _ _ _ _ us hl => match us, hl with | [_, _], _ => rfl
  obtain ⟨atr_, fdtr, Ftr⟩ := dtr
  have mtr := PySem.W.mg_of X G atr_
  have btr := Ftr.binds (ps := ["row", "name"]) fun _ _ _ _ _ _ us hl => match us, hl with | [_, _], _ => rfl
  obtain ⟨arw_, fdrw, Frw⟩ := drw
  have mrw := PySem.W.mg_of X G arw_
  have brw := Frw.binds (ps := ["row", "name"]) fun _ _ _ _ _ _ us hl => match us, hl with | [_, _], _ => rfl
  obtain ⟨hd0, H0⟩ := l0
  have tq0 := fnB_ok n0
  have bq0 := H0.binds (ps := ["self", "signs", "settings"]) fun _ _ _ _ _ _ us hl => match us, hl with | [_, _, _], _ => rfl
  obtain ⟨hd1, H1⟩ := l1
  have tq1 := fnB_ok n1
  have bq1 := H1.binds (ps := ["self"]) fun _ _ _ _ _ _ us hl => match us, hl with | [_], _ => rfl
  obtain ⟨hd2, H2⟩ := l2
  have tq2 := fnB_ok n2
  have bq2 := H2.binds (ps := ["self"]) fun _ _ _ _ _ _ us hl => match us, hl with | [_], _ => rfl
  obtain ⟨hd5, H5⟩ := l5
  have tq5 := fnB_ok n5
  have bq5 := H5.binds (ps := ["self", "thing"]) fun _ _ _ _ _ _ us hl => match us, hl with | [_, _], _ => rfl
  obtain ⟨hd6, H6⟩ := l6
  have tq6 := fnB_ok n6
  have bq6 := H6.binds (ps := ["self", "other"]) fun _ _ _ _ _ _ us hl => match us, hl with | [_, _], _ => rfl
  obtain ⟨hd7, H7⟩ := l7
  have tq7 := fnB_ok n7
  have bq7 := H7.binds (ps := ["self", "other"]) fun _ _ _ _ _ _ us hl => match us, hl with | [_, _], _ => rfl
  obtain ⟨hd8, H8⟩ := l8
  have tq8 := fnB_ok n8
  have bq8 := H8.binds (ps := ["self", "name"]) fun _ _ _ _ _ _ us hl => match us, hl with | [_, _], _ => rfl
  obtain ⟨hd9, H9⟩ := l9
  have tq9 := fnB_ok n9
  have bq9 := H9.binds (ps := ["self", "other"]) fun _ _ _ _ _ _ us hl => match us, hl with | [_, _], _ => rfl
  obtain ⟨hda, Ha⟩ := la
  have tqa := fnB_ok na
  have bqa := Ha.binds (ps := ["self", "other"]) fun _ _ _ _ _ _ us hl => match us, hl with | [_, _], _ => rfl
  obtain ⟨hdb, Hb⟩ := lb
  have tqb := fnB_ok nb
  have bqb := Hb.binds (ps := ["self"]) fun _ _ _ _ _ _ us hl => match us, hl with | [_], _ => rfl
  obtain ⟨hdc, Hc⟩ := lc
  have tqc := fnB_ok nc
  have bqc := Hc.binds (ps := ["self", "name"]) fun _ _ _ _ _ _ us hl => match us, hl with | [_, _], _ => rfl
  obtain ⟨hdd, Hd⟩ := ld
  have tqd := fnB_ok nd
  have bqd := Hd.binds (ps := ["self", "other"]) fun _ _ _ _ _ _ us hl => match us, hl with | [_, _], _ => rfl
  obtain ⟨fdM2, FM2⟩ := lM
  have bM2 := FM2.binds (ps := ["self", "n"]) fun _ _ _ _ _ _ us hl => match us, hl with | [_, _], _ => rfl
  have TX : TM K mg CM gM := tmB_ok wM xM (PySem.W.mg_of X G aX)
  have TO : OT K mg O := otB_ok wO (PySem.W.mg_of X G aO)
  obtain ⟨fdNN, FNN⟩ := lN
  obtain ⟨c1, c2, c3, c4⟩ := clB_ok cC
  have CI := isB_ok cI
  obtain ⟨NE, no1, no2⟩ := neB_ok cE tq6
  have MK := mkB_ok cM tq0
  have T : RTxt K mg C := ⟨c1, c2, c3, c4, PySem.W.mg_of X G aC, z_tuple, z_list, z_len⟩
  have mNN := PySem.W.mg_of X G aN
  obtain ⟨dsN, vN, bNN⟩ := FNN.short (ps := ["things", "taken"]) 1 rfl fun T kV doc pm an cdv ct us its h1 h2 => match us, h1, its, h2 with | [_], _, [_], _ => ⟨_, rfl, rfl⟩
  have GD : FnOk P w K mg base CX0 1 fD fdD _ spDraw := ok_draw FD z_int
  have GP := ok_pickL FP GD mD FD.kp bD z_len
  have GM := ok_mixed FM GD mD FD.kp bD z_len z_range z_list
  have GS : FnG P w K mg base 1 fS fdS _ (spSameP K) := ok_sameP FS z_repr
  have GF := ok_fresh FF GD mD FD.kp bD GP mP FP.kp bP z_range z_int
  have GN := ok_names FN GF mF FF.kp bF z_range
  have GU : FnOk P w K mg base CX0 1 fU fdU _ (spUp K) := ok_up FU z_tuple
  have GA : FnOk P w K mg base CX0 1 fA fdA _ (spFulls K) := ok_fulls FA
  have Gi : FnOk P w K mg base CX0 1 fi fdi _ spIsName := ok_isName Fi z_isinstance z_str z_len z_all mL mM
  have Gn : FnOk P w K mg base CX0 1 fn fdn _ spNameOf := ok_nameOf Fn
  have Go : FnOk P w K mg base CX0 1 fop fdop _ spOpp := ok_opp Fop
  have Gl : FnOk P w K mg base CX0 1 fl fdl _ (spLits K) := ok_lits Fl
  have Gp := ok_places Fp Gl ml Fl.kp bl z_enumerate
  have Gv : FnOk P w K mg base CX0 1 fv fdv _ (spInOrder K) := ok_inOrder Fv z_tuple z_sorted z_int
  have Gt : FnOk P w K mg base CX0 1 ft fdt _ (spIsList K) := ok_isList Ft z_isinstance z_list z_tuple
  have GE := ok_chkNames FNN Gi mi Fi.kp bi z_enumerate
  have Gw := ok_wrong Fw Gn mn Fn.kp bn z_enumerate z_isinstance z_str
  have Gc := ok_isClause Fc Gt mt Ft.kp bt Gw mw Fw.kp bw
  have Gk := ok_isFull Fk z_len Gc mc Fc.kp bc
  have Gs : FnOk P w K mg base CX0 1 fs fds _ (spFS K) := ok_fs Fs
  have Gu : FnOk P w K mg base CX0 1 fu fdu _ (spChkCount K) := ok_chkCount Fu z_len mT
  have Gj : FnOk P w K mg base CX0 1 fj fdj _ (spJoin K) := ok_join Fj
  have Gks : FnOk P w K mg base CX0 1 fks fdks _ (spChkSign K C) := ok_chkSign Fks T
  have Gtr := ok_turnRow Ftr Gn mn Fn.kp bn Go mop Fop.kp bop (K := K)
  have Grw := ok_rowWithout Frw Gn mn Fn.kp bn (K := K)
  have GI := ok_init H0 T z_enumerate GE mNN FNN.fn.kp FNN.e0 vN bNN Gu mu Fu.kp bu Gp mp Fp.kp bp Gk mk Fk.kp bk Gv mv Fv.kp bv Gs ms Fs.kp bs
  have G1 : FnOk P w K mg base CX0 1 g1 hd1 _ (spSigns K C) := ok_signs H1 T
  have G2 : FnOk P w K mg base CX0 1 g2 hd2 _ (spSettings K C) := ok_settings H2 T
  have G5 := ok_contains H5 T Gk mk Fk.kp bk Gv mv Fv.kp bv
  have G7 := ok_le H7 T z_all z_set G5 tq5.at_ tq5.fn bq5
  have G6 := ok_eq H6 T CI no2 z_isinstance G7 tq7.at_ tq7.fn bq7
  have Gal := ok_allows Fal T G5 tq5.at_ tq5.fn bq5
  have G8 := ok_turned H8 T MK GI bq0 Gks mks Fks.kp bks Gtr mtr Ftr.kp btr
  have G9 := ok_and H9 T MK GI bq0 Gj mj Fj.kp bj Gu mu Fu.kp bu Gs ms Fs.kp bs Gal mal Fal.kp bal
  have Ga := ok_or Ha T MK GI bq0 Gj mj Fj.kp bj Gu mu Fu.kp bu Gs ms Fs.kp bs Gal mal Fal.kp bal
  have Gb := ok_inv Hb T MK GI bq0 Gs ms Fs.kp bs
  have Gc2 := ok_sub Hc T MK GI bq0 Gks mks Fks.kp bks Grw mrw Frw.kp brw
  have Gd := ok_lt Hd T CI no2 G7 tq7.at_ tq7.fn bq7
  have GNg : FnOk P w K mg base CX0 1 fNg fdNg _ spOpp := ok_neg FNg
  have GBr : FnOk P w K mg base CX0 1 fBr fdBr _ spBare := ok_bare FBr
  have GIs := ok_is FIs T GS mS FS.kp bS G1 tq1 bq1 G2 tq2 bq2
  have GCp := ok_cmp FCp T CI no2 G7 tq7.at_ tq7.fn bq7 Gd tqd.at_ tqd.fn bqd
  have GSo := ok_so FSo z_all ⟨_, _, GCp, mCp, FCp.kp, bCp⟩ ⟨_, _, GS, mS, FS.kp, bS⟩
  unfold opB at cP
  simp only [Bool.and_eq_true, decide_eq_true_eq] at cP
  obtain ⟨⟨⟨⟨p1, p2⟩, p3⟩, p4⟩, p5⟩ := cP
  have lt : LT4 P w K mg base C := {
    T := T
    CI := CI
    not2 := no2
    self1 := p1
    subro := p2
    sub1 := p3
    sub2 := p4
    subs := p5
    any := z_any
    all := z_all
    range := z_range
    int := z_int
    draw := ⟨_, _, GD, mD, FD.kp, bD⟩
    mixed := ⟨_, _, GM, mM_, FM.kp, bM⟩
    names := ⟨_, _, GN, mN, FN.kp, bN⟩
    fulls := ⟨_, _, GA, mA, FA.kp, bA⟩
    up := ⟨_, _, GU, mU, FU.kp, bU⟩
    neg := ⟨_, _, GNg, mNg, FNg.kp, bNg⟩
    bare := ⟨_, _, GBr, mBr, FBr.kp, bBr⟩
    same := ⟨_, _, GS, mS, FS.kp, bS⟩
    is_ := ⟨_, _, GIs, mIs, FIs.kp, bIs⟩
    cmp := ⟨_, _, GCp, mCp, FCp.kp, bCp⟩
    so := ⟨_, _, GSo, mSo, FSo.kp, bSo⟩
    make := ⟨_, _, MK, GI, bq0⟩
    eq := ⟨_, _, G6, NE, bq6⟩
    and_ := ⟨_, _, G9, tq9.at_, tq9.fn, bq9⟩
    or_ := ⟨_, _, Ga, tqa.at_, tqa.fn, bqa⟩
    sub := ⟨_, _, Gc2, tqc.at_, tqc.fn, bqc⟩
    inv := ⟨_, _, Gb, tqb.at_, tqb.fn, bqb⟩
    turned := ⟨_, _, G8, tq8, bq8⟩ }
  have GLs := ok_less FLs lt
  have GSx := ok_six FSx lt
  have lw : LW P w K mg base C := ⟨lt, ⟨_, _, GLs, mLs, FLs.kp, bLs⟩, ⟨_, _, GSx, mSx, FSx.kp, bSx⟩⟩
  have GIM : FnOk P w K mg base CX0 1 gM fdM2 _ (spI1 K "n") := ok_iM FM2 TO
  have Gbig := ok_big Fu z_len mT TX GIM bM2
  have G9X := ok_andX H9 T Gj mj Fj.kp bj Gbig mu Fu.kp bu
  have GaX := ok_orX Ha T Gj mj Fj.kp bj Gbig mu Fu.kp bu
  have SF : SameF K mg := ⟨_, _, FS, mS, FS.kp, bS, z_repr⟩
  have mZ := PySem.W.mg_of X G aZ
  have eZ := hfa.symm.trans mZ
  cases eZ
  obtain ⟨oc, kV, doc, pm, ct, od, an, osl, lk⟩ := lZ
  refine ⟨_, fun s u => ?_, fun vs H Q E h => ?_, fun A outer s H args us vs Q E hg hr e0 hb r hsp => run_ofS lk cZ scLaw4 hr e0 hb r ?_ fun hr' => ?_⟩
  · exact .of_eq rfl
  · obtain ⟨a, ns, rfl, _⟩ := h
    rfl
  · obtain ⟨a, ns, rfl, _⟩ := hsp
    rfl
  · obtain ⟨a, ns, rfl, hA, hn, hT, k⟩ := hsp
    obtain ⟨tt, p, kk⟩ := law_body (f := fa) (A := A) (outer := outer) (s0 := s) (HH := H) (E := E) lw TX SF FRf mRf bRf ⟨_, _, G9X, tq9.at_, tq9.fn, bq9⟩ ⟨_, _, GaX, tqa.at_, tqa.fn, bqa⟩ TB hg hr'
    exact ⟨tt, p.nox, kk _ a ns H hA hn hT k⟩
end
end K6
open PySem PySem.W PyProof.Rows
set_option maxRecDepth 100000 in
set_option maxHeartbeats 0 in
theorem PySem.Challenge.cw_lastopen_k04_rules_together_holds : PySem.Challenge.rw_lastopen_k04_rules_together.Holds := by
  w_on; o_law; k_head; (case hw => w_witness2)
  k_fill
  refine' K6.walk4 (l := PySem.Challenge.rw_lastopen_k04_rules_together) (cO := _) (Pt := 434) rfl rfl (fun w h Y => ⟨PySem.W.km_in_of Y, PySem.W.km_tabs_of Y 434 (by decide)⟩) ?hP ?hC ?F
  case F =>
    intro w mg fa h base KX G hmg TB
    refine' K6.all_tx KX G hmg ?fr ?aL ?eL ?aM ?eM ?aT ?eT ?dD ?dP ?dM ?dS ?dF ?dN ?dU ?dA ?dNg ?dBr ?dIs ?dRf ?dLs ?dSx ?dCp ?dSo ?di ?dn ?dop ?dl ?dp ?dv ?dt ?dw ?dc ?dk ?ds ?du ?dj ?dks ?dal ?dtr ?drw ?aC ?aN ?lN ?i0 ?n0 ?l0 ?i1 ?n1 ?l1 ?i2 ?n2 ?l2 ?i5 ?n5 ?l5 ?i6 ?n6 ?l6 ?i7 ?n7 ?l7 ?i8 ?n8 ?l8 ?i9 ?n9 ?l9 ?ia ?na ?la ?ib ?nb ?lb ?ic ?nc ?lc ?id ?nd ?ld ?cC ?cI ?cE ?cM ?cP ?aX ?aO ?iM ?lM ?wM ?xM ?wO ?aZ ?lZ ?cZ TB
    (case aZ => k_is); (case aL => k_is); (case aM => k_is); (case aT => k_is)
    (case eL => exact ⟨_, rfl⟩); (case eM => exact ⟨_, rfl⟩); (case eT => exact ⟨_, rfl⟩)
    (case dD => refine' ⟨?uaD, _, L2.fun_mk ?ulD ?ucD ?ukD⟩; (case uaD => k_is); (case ulD => k_is); (case ucD => k_is); (case ukD => k_is))
    (case dP => refine' ⟨?uaP, _, L2.fun_mk ?ulP ?ucP ?ukP⟩; (case uaP => k_is); (case ulP => k_is); (case ucP => k_is); (case ukP => k_is))
    (case dM => refine' ⟨?uaM, _, L2.fun_mk ?ulM ?ucM ?ukM⟩; (case uaM => k_is); (case ulM => k_is); (case ucM => k_is); (case ukM => k_is))
    (case dS => refine' ⟨?uaS, _, L2.fun_mk ?ulS ?ucS ?ukS⟩; (case uaS => k_is); (case ulS => k_is); (case ucS => k_is); (case ukS => k_is))
    (case dF => refine' ⟨?uaF, _, L2.fun_mk ?ulF ?ucF ?ukF⟩; (case uaF => k_is); (case ulF => k_is); (case ucF => k_is); (case ukF => k_is))
    (case dN => refine' ⟨?uaN, _, L2.fun_mk ?ulN ?ucN ?ukN⟩; (case uaN => k_is); (case ulN => k_is); (case ucN => k_is); (case ukN => k_is))
    (case dU => refine' ⟨?uaU, _, L2.fun_mk ?ulU ?ucU ?ukU⟩; (case uaU => k_is); (case ulU => k_is); (case ucU => k_is); (case ukU => k_is))
    (case dA => refine' ⟨?uaA, _, L2.fun_mk ?ulA ?ucA ?ukA⟩; (case uaA => k_is); (case ulA => k_is); (case ucA => k_is); (case ukA => k_is))
    (case dNg => refine' ⟨?uaNg, _, L2.fun_mk ?ulNg ?ucNg ?ukNg⟩; (case uaNg => k_is); (case ulNg => k_is); (case ucNg => k_is); (case ukNg => k_is))
    (case dBr => refine' ⟨?uaBr, _, L2.fun_mk ?ulBr ?ucBr ?ukBr⟩; (case uaBr => k_is); (case ulBr => k_is); (case ucBr => k_is); (case ukBr => k_is))
    (case dIs => refine' ⟨?uaIs, _, L2.fun_mk ?ulIs ?ucIs ?ukIs⟩; (case uaIs => k_is); (case ulIs => k_is); (case ucIs => k_is); (case ukIs => k_is))
    (case dRf => refine' ⟨?uaRf, _, L2.fun_mk ?ulRf ?ucRf ?ukRf⟩; (case uaRf => k_is); (case ulRf => k_is); (case ucRf => k_is); (case ukRf => k_is))
    (case dLs => refine' ⟨?uaLs, _, L2.fun_mk ?ulLs ?ucLs ?ukLs⟩; (case uaLs => k_is); (case ulLs => k_is); (case ucLs => k_is); (case ukLs => k_is))
    (case dSx => refine' ⟨?uaSx, _, L2.fun_mk ?ulSx ?ucSx ?ukSx⟩; (case uaSx => k_is); (case ulSx => k_is); (case ucSx => k_is); (case ukSx => k_is))
    (case dCp => refine' ⟨?uaCp, _, L2.fun_mk ?ulCp ?ucCp ?ukCp⟩; (case uaCp => k_is); (case ulCp => k_is); (case ucCp => k_is); (case ukCp => k_is))
    (case dSo => refine' ⟨?uaSo, _, L2.fun_mk ?ulSo ?ucSo ?ukSo⟩; (case uaSo => k_is); (case ulSo => k_is); (case ucSo => k_is); (case ukSo => k_is))
    (case di => refine' ⟨?uai, _, L2.fun_mk ?uli ?uci ?uki⟩; (case uai => k_is); (case uli => k_is); (case uci => k_is); (case uki => k_is))
    (case dn => refine' ⟨?uan, _, L2.fun_mk ?uln ?ucn ?ukn⟩; (case uan => k_is); (case uln => k_is); (case ucn => k_is); (case ukn => k_is))
    (case dop => refine' ⟨?uaop, _, L2.fun_mk ?ulop ?ucop ?ukop⟩; (case uaop => k_is); (case ulop => k_is); (case ucop => k_is); (case ukop => k_is))
    (case dl => refine' ⟨?ual, _, L2.fun_mk ?ull ?ucl ?ukl⟩; (case ual => k_is); (case ull => k_is); (case ucl => k_is); (case ukl => k_is))
    (case dp => refine' ⟨?uap, _, L2.fun_mk ?ulp ?ucp ?ukp⟩; (case uap => k_is); (case ulp => k_is); (case ucp => k_is); (case ukp => k_is))
    (case dv => refine' ⟨?uav, _, L2.fun_mk ?ulv ?ucv ?ukv⟩; (case uav => k_is); (case ulv => k_is); (case ucv => k_is); (case ukv => k_is))
    (case dt => refine' ⟨?uat, _, L2.fun_mk ?ult ?uct ?ukt⟩; (case uat => k_is); (case ult => k_is); (case uct => k_is); (case ukt => k_is))
    (case dw => refine' ⟨?uaw, _, L2.fun_mk ?ulw ?ucw ?ukw⟩; (case uaw => k_is); (case ulw => k_is); (case ucw => k_is); (case ukw => k_is))
    (case dc => refine' ⟨?uac, _, L2.fun_mk ?ulc ?ucc ?ukc⟩; (case uac => k_is); (case ulc => k_is); (case ucc => k_is); (case ukc => k_is))
    (case dk => refine' ⟨?uak, _, L2.fun_mk ?ulk ?uck ?ukk⟩; (case uak => k_is); (case ulk => k_is); (case uck => k_is); (case ukk => k_is))
    (case ds => refine' ⟨?uas, _, L2.fun_mk ?uls ?ucs ?uks⟩; (case uas => k_is); (case uls => k_is); (case ucs => k_is); (case uks => k_is))
    (case du => refine' ⟨?uau, _, L2.fun_mk ?ulu ?ucu ?uku⟩; (case uau => k_is); (case ulu => k_is); (case ucu => k_is); (case uku => k_is))
    (case dj => refine' ⟨?uaj, _, L2.fun_mk ?ulj ?ucj ?ukj⟩; (case uaj => k_is); (case ulj => k_is); (case ucj => k_is); (case ukj => k_is))
    (case dks => refine' ⟨?uaks, _, L2.fun_mk ?ulks ?ucks ?ukks⟩; (case uaks => k_is); (case ulks => k_is); (case ucks => k_is); (case ukks => k_is))
    (case dal => refine' ⟨?uaal, _, L2.fun_mk ?ulal ?ucal ?ukal⟩; (case uaal => k_is); (case ulal => k_is); (case ucal => k_is); (case ukal => k_is))
    (case dtr => refine' ⟨?uatr, _, L2.fun_mk ?ultr ?uctr ?uktr⟩; (case uatr => k_is); (case ultr => k_is); (case uctr => k_is); (case uktr => k_is))
    (case drw => refine' ⟨?uarw, _, L2.fun_mk ?ulrw ?ucrw ?ukrw⟩; (case uarw => k_is); (case ulrw => k_is); (case ucrw => k_is); (case ukrw => k_is))
    (case aC => k_is); (case aN => k_is); (case aX => k_is); (case aO => k_is)
    (case lN => refine' ⟨_, EV.funE_mk ?xlN ?xcN ?xkN ?xTN ?xdN ?xAN ?xbN ?xeN⟩; (case xlN => k_is); (case xcN => k_is); (case xkN => k_is); (case xTN => k_is); (case xdN => exact rfl); (case xAN => k_is); (case xbN => exact rfl); (case xeN => exact rfl))
    (case i0 => k_is)
    (case l0 => refine' ⟨_, L2.fun_mk ?vl0 ?vc0 ?vk0⟩; (case vl0 => k_is); (case vc0 => k_is); (case vk0 => k_is))
    (case i1 => k_is)
    (case l1 => refine' ⟨_, L2.fun_mk ?vl1 ?vc1 ?vk1⟩; (case vl1 => k_is); (case vc1 => k_is); (case vk1 => k_is))
    (case i2 => k_is)
    (case l2 => refine' ⟨_, L2.fun_mk ?vl2 ?vc2 ?vk2⟩; (case vl2 => k_is); (case vc2 => k_is); (case vk2 => k_is))
    (case i5 => k_is)
    (case l5 => refine' ⟨_, L2.fun_mk ?vl5 ?vc5 ?vk5⟩; (case vl5 => k_is); (case vc5 => k_is); (case vk5 => k_is))
    (case i6 => k_is)
    (case l6 => refine' ⟨_, L2.fun_mk ?vl6 ?vc6 ?vk6⟩; (case vl6 => k_is); (case vc6 => k_is); (case vk6 => k_is))
    (case i7 => k_is)
    (case l7 => refine' ⟨_, L2.fun_mk ?vl7 ?vc7 ?vk7⟩; (case vl7 => k_is); (case vc7 => k_is); (case vk7 => k_is))
    (case i8 => k_is)
    (case l8 => refine' ⟨_, L2.fun_mk ?vl8 ?vc8 ?vk8⟩; (case vl8 => k_is); (case vc8 => k_is); (case vk8 => k_is))
    (case i9 => k_is)
    (case l9 => refine' ⟨_, L2.fun_mk ?vl9 ?vc9 ?vk9⟩; (case vl9 => k_is); (case vc9 => k_is); (case vk9 => k_is))
    (case ia => k_is)
    (case la => refine' ⟨_, L2.fun_mk ?vla ?vca ?vka⟩; (case vla => k_is); (case vca => k_is); (case vka => k_is))
    (case ib => k_is)
    (case lb => refine' ⟨_, L2.fun_mk ?vlb ?vcb ?vkb⟩; (case vlb => k_is); (case vcb => k_is); (case vkb => k_is))
    (case ic => k_is)
    (case lc => refine' ⟨_, L2.fun_mk ?vlc ?vcc ?vkc⟩; (case vlc => k_is); (case vcc => k_is); (case vkc => k_is))
    (case id => k_is)
    (case ld => refine' ⟨_, L2.fun_mk ?vld ?vcd ?vkd⟩; (case vld => k_is); (case vcd => k_is); (case vkd => k_is))
    (case iM => k_is)
    (case lM => refine' ⟨_, L2.fun_mk ?vlM ?vcM ?vkM⟩; (case vlM => k_is); (case vcM => k_is); (case vkM => k_is))
    (case xM => refine' K6.exc_mk ?wpM ?wrM; (case wpM => k_is); (case wrM => first | rfl | decide +kernel))
    (case lZ => refine' K6.law_mk ?ulZ; (case ulZ => k_is))
    (case cZ => k_is)
    (case fr => kernel_rfl)
    (case n0 => kernel_rfl)
    (case n1 => kernel_rfl)
    (case n2 => kernel_rfl)
    (case n5 => kernel_rfl)
    (case n6 => kernel_rfl)
    (case n7 => kernel_rfl)
    (case n8 => kernel_rfl)
    (case n9 => kernel_rfl)
    (case na => kernel_rfl)
    (case nb => kernel_rfl)
    (case nc => kernel_rfl)
    (case nd => kernel_rfl)
    (case cC => kernel_rfl)
    (case cI => kernel_rfl)
    (case cE => kernel_rfl)
    (case cM => kernel_rfl)
    (case cP => kernel_rfl)
    (case wM => kernel_rfl)
    (case wO => kernel_rfl)
  case hP => intro w; kernel_rfl
  case hC => intro w h X; exact PySem.W.codeHd_of_K X (by kernel_rfl)
