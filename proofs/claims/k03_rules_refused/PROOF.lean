import PyProof.Rows.All
import Wide.All
import OpenK.AllK
import Wide.FinOn
import KE.KLam
import HandS.ForMost
import HandS.Exc
import HandS.ExcOwn
import HandS.TryOnly
import HandS.WordsExc
import HandS.ExcInit
import HandS.ExcIs
import HandS.ExcField
import HandS.IsInst
import HandS.ClsMeth
import HandS.Defaults
import HandS.MakeKw
import HandS.Nested
import HandS.SetFor
import HandS.Flow
import HandS.ExcValue
import PyProof.ReprRoads
import PyProof.ReprBulk
import PyProof.StrLawsRepr
import PyProof.EqKinds
import HandS.Lambda
import HandS.EndBits
import HandS.EndTab
import HandS.DictComp
import HandS.Walk
import KE.GoesMore
import PyProof.EnumMake
import PyProof.Draws
import PySem.Challenge.RW_lastopen_k03_rules_refused
import HandS.Conv
import HandS.Star
import HandS.SetKeys
import HandS.TupLen
import HandS.OwnEq
import HandS.StrMore
import HandS.Codes
import HandS.Style
import HandS.TupAny
import HandS.NoneIn
import HandS.Deep
import HandS.SortInts
import HandS.Words
import HandS.Strs
import HandS.Set
import HandS.More
import PyProof.NeKinds
import HandS.WordsDict
import HandS.TryMany
import KE.KOpsOwn
import OpenK.KMeth
set_option Elab.async false
set_option linter.all false
set_option maxRecDepth 100000
set_option maxHeartbeats 4000000
/-! Errors of classes of one's own as values: made by place and by name, asked by isinstance, their fields read. -/
namespace PySem
namespace EK
open PySem.W PySem.Calls PyProof.Rows PySem.HandSPX
section
variable {M : Model} {prog : Program} {w : World} {A : Around} {E : Value → Shared → Prop} {R : Result → Shared → Prop} {h : Heap} {g : Array GenState} {d : Drawn} {t : Nat} {os : OsState}
variable {nm q : Str} {C N : Addr} {bs bm bmB : List Value} {hdct : Bool} {sn : List Str} {sub : List Value} {ab : Bool} {col : Option Bool} {dd : Option Addr} {k0 k1 k2 k3 k5 : Option Value} {B newId initId : String}
theorem check_new_kw (F : ExcBaseFacts B newId initId bmB) (hT : ∀ X : String, bm.contains (.type X) = bmB.contains (.type X)) {rest : List Value} {kw : List (Str × Value)} {Q : Unit → Shared → Prop}
    (hC : h.get? C = some (excClassObj nm q C N bs bm hdct sn sub ab col dd k0 k1 k2 k3 k5 newId)) (hq : Q () ⟨h, g, d, t, os⟩) : wpAny M A (checkBuiltinCall newId ⟨.ref C :: rest, kw⟩) Q E ⟨h, g, d, t, os⟩ := by
  have hcont : (Value.ref C :: bm).contains (.type B) = true := by rw [List.contains_cons, hT, F.hasB, Bool.or_true]
  have hstar := F.noStar
  simp only [checkBuiltinCall, F.newKind, F.newSplit, F.newRow]
  repeat (first | refine wpAny_loadPart_at hC ?_ | (refine wpAny_isSubtype_exc hC ?_; rw [hcont]) | refine wpAny_staticBase_exc hC ?_ | refine wpAny_madeBy_exc hC ?_ | simp only [bne_self_eq_false, Bool.false_eq_true, if_false] | wp_step)
  exact hq
theorem new_kw (F : ExcBaseFacts B newId initId bmB) (hT : ∀ X : String, bm.contains (.type X) = bmB.contains (.type X)) {rest : List Value} {kw : List (Str × Value)}
    (hC : h.get? C = some (excClassObj nm q C N bs bm hdct sn sub ab col dd k0 k1 k2 k3 k5 newId))
    (hq : R (.ok (.ret (.ref (h.objs.size + 1)))) ⟨(h.push { cls := .type "tuple", data := .seq rest.toArray }).push
      { cls := .ref C, data := .fields #[.ref h.objs.size, .none, .none, .none, .bool false, .none] }, g, d, t, os⟩) (hrest : rest.length ≤ sizeLine) :
    codeAny (model prog w) A (.builtin newId ⟨.ref C :: rest, kw⟩) R ⟨h, g, d, t, os⟩ := by
  have hends := F.ends
  have hcB : (Value.ref C :: bm).contains (.type B) = true := by rw [List.contains_cons, hT, F.hasB, Bool.or_true]
  have hcA : (Value.ref C :: bm).contains (.type "AttributeError") = false := by rw [List.contains_cons, hT, F.noAttr]; rfl
  have hcN : (Value.ref C :: bm).contains (.type "NameError") = false := by rw [List.contains_cons, hT, F.noName]; rfl
  refine codeAny_builtinAt F.entry ?_
  unfold Builtin.«BaseException.__new__»
  refine wpAt_bind ?_
  show wpAt _ _ _ (stack >>= _) _ _ _
  refine wpAt_bind (wpAt_stack fun p below => wpAt_of_wpAny ?_)
  wp_walk
  refine wpAt_of_wpAny ?_
  rw [F.owner]
  repeat (first | with_reducible refine wpAny_madeHere_exc F.canon hC ?_ | with_reducible refine wpAny_loadPart_at hC ?_ | (with_reducible refine wpAny_isSubtype_exc hC ?_; first | rw [hcB] | rw [hcA] | rw [hcN]) | wp_step)
  show R _ _
  rw [Heap.size_push]
  exact hq
theorem type_call_kw (F : ExcBaseFacts B newId initId bmB) (hT : ∀ X : String, bm.contains (.type X) = bmB.contains (.type X)) {rest : List Value} {kw : List (Str × Value)} {fI : Addr} {Q : Fin → Shared → Prop}
    (hC : h.get? C = some (excClassObj nm q C N bs bm hdct sn sub ab col dd k0 k1 k2 k3 k5 newId))
    (hi : W.Looks (model prog w) h (typeLookup (.ref C) "__init__") (some (.ref fI))) (hb : ∀ self, W.Looks (model prog w) h (bindSpecial (.ref fI) self) (.ref fI, [self])) (hrest : rest.length ≤ sizeLine)
    (hq : codeAny (model prog w) A (.call (.ref fI) ⟨.ref (h.objs.size + 1) :: rest, kw⟩)
      (fun r s' => match r with | .ok (.ret v) => v = .none ∧ Q (.done (.ret (.ref (h.objs.size + 1)))) s' | .ok _ => False | .error e => E e s')
      ⟨(h.push (W.kdv_tup rest)).push (excO C h.objs.size), g, d, t, os⟩) :
    wpAny (model prog w) A (Builtin.«type.__call__» ⟨.ref C :: rest, kw⟩) Q E ⟨h, g, d, t, os⟩ := by
  repeat (first | with_reducible refine wpAny_loadPart_at hC ?_ | with_reducible refine wpAny_madeBy_exc hC ?_ | wp_step)
  refine codeAny_call_builtin_code (Code.quiet_builtin _ F.quiet) (check_new_kw F hT hC ?_)
  refine new_kw F hT hC ?_ hrest
  show wpAny _ _ _ _ _ _
  have k : ∀ b o, h.get? b = some o → ((h.push (W.kdv_tup rest)).push (excO C h.objs.size)).get? b = some o := fun b o e => Heap.get?_push_of_some _ (Heap.get?_push_of_some _ e)
  have hC₁ := k _ _ hC
  have hget : ((h.push (W.kdv_tup rest)).push (excO C h.objs.size)).get? (h.objs.size + 1) = some (excO C h.objs.size) := by heap_get
  have hcC : (Value.ref C :: bm).contains (.ref C) = true := by simp
  have i1 := hi.keeps k
  have b1 := (hb (.ref (h.objs.size + 1))).keeps k
  unfold isInstance
  repeat (first | with_reducible refine wpAny_loadPart_at hget ?_ | (with_reducible refine wpAny_isSubtype_exc hC₁ ?_; rw [hcC]) | wp_step)
  show wpAny _ _ (typeLookup (.ref C) _) _ _ _
  refine i1.at ?_
  refine wpAny_holding (wpAny_bind (b1.at ?_))
  refine wpAny_bind (wpAny_call (codeAny_mono hq fun r s' z => ?_))
  rcases r with e | (v | _ | _ | _) <;> first | exact z | exact z.elim | skip
  obtain ⟨rfl, z⟩ := z
  first
    | exact wpAny_pure (wpAny_pure z)
    | (wp_walk; exact z)
theorem check_type_kw {rest : List Value} {kw : List (Str × Value)} {Q : Unit → Shared → Prop} (hC : h.get? C = some (excClassObj nm q C N bs bm hdct sn sub ab col dd k0 k1 k2 k3 k5 newId))
    (hq : Q () ⟨h, g, d, t, os⟩) : wpAny M A (checkBuiltinCall "type.__call__" ⟨.ref C :: rest, kw⟩) Q E ⟨h, g, d, t, os⟩ := by
  have f3 := tc_sub
  have hT : (⟨h, g, d, t, os⟩ : Shared).TypeIs (.ref C) "type" := ⟨_, hC, rfl⟩
  simp only [checkBuiltinCall, tc_kind, tc_split]
  repeat (any_goals (first | assumption | with_reducible refine wpAny_loadPart_at hC ?_ | with_reducible refine wpAny_onRaise ?_ | with_reducible refine wpAny_map ?_ | wp_step))
theorem call_kw (F : ExcBaseFacts B newId initId bmB) (hT : ∀ X : String, bm.contains (.type X) = bmB.contains (.type X)) {rest : List Value} {kw : List (Str × Value)} {fI : Addr}
    (hC : h.get? C = some (excClassObj nm q C N bs bm hdct sn sub ab col dd k0 k1 k2 k3 k5 newId))
    (hi : W.Looks (model prog w) h (typeLookup (.ref C) "__init__") (some (.ref fI))) (hb : ∀ self, W.Looks (model prog w) h (bindSpecial (.ref fI) self) (.ref fI, [self])) (hrest : rest.length ≤ sizeLine)
    (hq : codeAny (model prog w) (A.under (.builtin "type.__call__" ⟨.ref C :: rest, kw⟩)) (.call (.ref fI) ⟨.ref (h.objs.size + 1) :: rest, kw⟩) (W.InitBack (h.objs.size + 1) R)
      ⟨(h.push (W.kdv_tup rest)).push (excO C h.objs.size), g, d, t, os⟩) :
    codeAny (model prog w) A (.call (.ref C) ⟨rest, kw⟩) R ⟨h, g, d, t, os⟩ := by
  have f1 := tc_lookup
  have f2 := tc_bind (.ref C)
  have hTy : (⟨h, g, d, t, os⟩ : Shared).TypeIs (.ref C) "type" := ⟨_, hC, rfl⟩
  refine codeAny_of_tree ?_
  show wpAny _ _ (callAny (.ref C) _) _ _ _
  repeat (any_goals (first | assumption | with_reducible refine wpAny_loadPart_at hC ?_ | wp_step))
  refine ⟨rfl, ?_⟩
  refine codeAny_call_builtin_at (Code.quiet_builtin _ (by decide +kernel)) entry_typeCall (check_type_kw hC (type_call_kw F hT hC hi hb hrest ?_))
  refine codeAny_mono hq fun r s' z => ?_
  rcases r with e | (v | _ | _ | _) <;> exact z
end
end EK
end PySem
namespace PySem.W
open PySem PySem.Spec PySem.Calls PyProof.Rows
section
variable {prog : Program} {w : World} {A : Around} {E : Value → Shared → Prop} {s : Shared} {K : Frag} {x D : Addr} {ox : Obj} {od : Option Obj}
theorem find_dataN {C : Addr} {name : Str} {a g : Value} (hc : (clsIn K C).isSome = true) (ha : findIn K (.ref C) name = some (some a)) (hg : specialIn K a "__get__" = some (some g)) (ht : takesIn K a = some true) : findObj K C od name = some (.bind g a) := by
  obtain ⟨cd, hc⟩ := Option.isSome_iff_exists.mp hc
  unfold findObj
  rw [hc, Option.bind_some, ha, Option.bind_some]
  simp [hg, ht]
theorem kin_classEd {Q : Option Value → Shared → Prop} (hga : findIn K (.ref D) "__getattribute__" = some (some (.builtin "BaseException.__getattribute__"))) (hgt : findIn K (.ref D) "__getattr__" = some none) (hsub : subIn K (.ref D) (.type "BaseException") = some true)
    (hdct : hasDictIn K D = true) (ha : findIn K (.ref D) "__class__" = some (some (.builtin "object.__class__")))
    (hn : specialIn K (.builtin "object.__class__") "__get__" = some (some (.builtin "getset_descriptor.__get__"))) (htk : takesIn K (.builtin "object.__class__") = some true) (hm : mroIn K D (.type "object") = some true)
    (X : K.In s.heap) (I : InstAt s.heap x ox D od) (h : Q (some (.ref D)) { s with toks := s.toks + 1 }) : wpAny (model prog w) A (getAttr? (.ref x) "__class__") Q E s := by
  have hf : findObj K D od "__class__" = some (.bind (.builtin "getset_descriptor.__get__") (.builtin "object.__class__")) := find_dataN (by obtain ⟨cd, hc, _⟩ := any_some hdct; rw [hc]; rfl) ha hn htk
  obtain ⟨hp, g, d, t, os⟩ := s
  have L0 := I.type (M := model prog w)
  have L1 := looks_findIn (M := model prog w) X hga
  have L2 := looks_findIn (M := model prog w) X hgt
  have L3 := looks_find (M := model prog w) X I hf
  have sub : Looks (model prog w) hp (isInstance (.ref x) (.type "BaseException")) true := L0.andThen (looks_subIn X hsub)
  have hx0 : (false && onTheHeap (Value.builtin "BaseException.__getattribute__")) = false := rfl
  have hx2 : (Value.builtin "BaseException.__getattribute__" == Value.builtin "object.__getattribute__") = false := by decide +kernel
  have hx1 : (onTheHeap (Value.ref D) && Value.builtin "BaseException.__getattribute__" == Value.builtin "object.__getattribute__") = false := by rw [hx2]; rfl
  unfold getAttr? getAttrBy? getAttrBy
  refine wpAny_bind (wpAny_mkText (wpAny_bind (wpAny_attempt (wpAny_holding (wpAny_bind (L0.at (wpAny_bind (L1.at ?_))))))))
  show wpAny _ _ (if (onTheHeap (Value.ref D) && Value.builtin "BaseException.__getattribute__" == Value.builtin "object.__getattribute__") = true then _ else _) _ _ _
  rw [hx1, if_neg Bool.false_ne_true]
  unfold getAttrByItsOwn hookBefore
  refine wpAny_bind ?_
  rw [if_pos (show onTheHeap (Value.ref D) = true from rfl)]
  refine L2.at ?_
  refine wpAny_bind (wpAny_attempt (wpAny_holding ?_))
  unfold callGetattribute
  rw [hx0, if_neg Bool.false_ne_true]
  unfold boundAndCalled
  rw [PySem.F.excAttr_ValueError.ga.bind (.ref x)]
  refine wpAny_bind (wpAny_pure ?_)
  show wpAny _ _ (call (.builtin "BaseException.__getattribute__") [.ref x, .str "__class__" t]) _ _ _
  refine wpAny_call (codeAny_call_builtin PySem.F.excAttr_ValueError.ga.plain PySem.F.entry_bexc_ga ?_)
  refine @check_slot (model prog w) _ _ ⟨hp, g, d, t + 1, os⟩ "BaseException.__getattribute__" "BaseException" "__getattribute__" (.ref x) [.str "__class__" t] [] _ (by decide +kernel) (by decide +kernel) sub (PySem.F.args_bexc_ga (.ref x) (.str "__class__" t)) ?_
  unfold Builtin.«object.__getattribute__»
  refine wpAny_bind (wpAny_of_eq (a := ((Value.ref x : Value), [Value.str "__class__" t])) (by first | rfl | (simp only [slotArgs]; rfl)) ?_)
  refine wpAny_bind (wpAny_pure (wpAny_bind (L0.at (wpAny_bind (L3.at ?_)))))
  show wpAny _ _ (holding [Value.builtin "object.__class__"] (call (.builtin "getset_descriptor.__get__") [.builtin "object.__class__", .ref x, .ref D]) >>= ret) _ _ _
  refine wpAny_bind (wpAny_holding (wpAny_call (class_get (s := ⟨hp, g, d, t + 1, os⟩) (ox := ox) (od := od) X I hm ?_)))
  refine wpAny_pure ?_
  show wpAny _ _ (handedOut (.ref D)) _ _ _
  rw [handedOut_of (v := .ref D) rfl]
  first
    | exact wpAny_pure (wpAny_pure h)
    | exact wpAny_pure h
    | exact wpAny_pure (wpAny_bind (wpAny_pure (wpAny_pure h)))
theorem kitx_excd (hga : findIn K (.ref D) "__getattribute__" = some (some (.builtin "BaseException.__getattribute__"))) (hgt : findIn K (.ref D) "__getattr__" = some none) (hsub : subIn K (.ref D) (.type "BaseException") = some true) (hdct : hasDictIn K D = true) (ha : findIn K (.ref D) "__class__" = some (some (.builtin "object.__class__")))
    (hn : specialIn K (.builtin "object.__class__") "__get__" = some (some (.builtin "getset_descriptor.__get__"))) (htk : takesIn K (.builtin "object.__class__") = some true) (hm : mroIn K D (.type "object") = some true) :
    KitX K (.ref x) (.ref D) (fun h => ∃ ox od, InstAt h x ox D od) where
  ty := fun _ _ _ ⟨_, _, I⟩ => I.type
  it := fun _ _ X _ => by
    obtain ⟨cdD, hcD, _⟩ := any_some hdct
    unfold clsIn at hcD
    split at hcD
    · rename_i c' d' cd' sl' ho
      intro A' Q' E' s' k q
      unfold isType loadHead
      exact wpAny_bind (wpAny_loadPart (k _ _ (X _ _ ho)) (wpAny_pure q))
    · cases hcD
  ne := fun h tp dd its n sl X htp => by
    obtain ⟨cdD, hcD, _⟩ := any_some hdct
    refine Bool.eq_false_iff.mpr fun q => ?_
    have e : D = tp := Value.ref.inj (beq_iff_eq.mp q)
    subst e
    unfold clsIn at hcD
    split at hcD
    · rename_i c' d' cd' sl' ho
      have z := (X _ _ ho).symm.trans htp
      cases z
    · cases hcD
  ca := fun X ⟨_, _, I⟩ k => kin_classEd hga hgt hsub hdct ha hn htk hm X I k
end
end PySem.W

namespace EV
open PySem PySem.Spec PyProof.Rows L2
/-- an error of the class at C with the fields fs stands at a -/
def ErrAt (H : Hp) (a C : Addr) (fs : List (Str × V)) : Prop := (fs = [] ∧ H a = some (exo a C none)) ∨ ∃ dx, H a = some (exo a C (some dx)) ∧ H dx = some (exd dx fs)
theorem ErrAt.of_same {H H' : Hp} {a C : Addr} {fs : List (Str × V)} (e : ErrAt H a C fs) (k : ∀ b o, H b = some o → H' b = some o) : ErrAt H' a C fs := by
  rcases e with ⟨h1, h2⟩ | ⟨dx, h1, h2⟩
  · exact .inl ⟨h1, k _ _ h2⟩
  · exact .inr ⟨dx, k _ _ h1, k _ _ h2⟩
section
variable {X : Cx} {pins : List (Addr × Obj)} {σ : L2.St} {H : Hp} {s : Shared}
theorem ErrAt.inst (I : Inv X pins σ H s) {a C : Addr} {fs : List (Str × V)} (e : ErrAt H a C fs) : ∃ ox od, PySem.W.InstAt s.heap a ox C od ∧ ∀ f, RelO (fs.lookup f) ((od.bind fun o => PySem.W.lookIn f o).join) := by
  rcases e with ⟨rfl, h⟩ | ⟨dx, h1, h2⟩
  · obtain ⟨t1, ho⟩ := exo_at I.hok h
    exact ⟨_, none, ⟨ho, rfl, rfl, trivial⟩, fun f => trivial⟩
  · obtain ⟨t1, ho⟩ := exo_at I.hok h1
    obtain ⟨mA, hns, hr⟩ := exd_at I.hok h2
    obtain ⟨od, hod, hl⟩ := lookIn_ns hns
    refine ⟨_, some od, ⟨ho, rfl, rfl, hod⟩, fun f => ?_⟩
    show RelO (fs.lookup f) (PySem.W.lookIn f od).join
    rw [hl f]
    exact hr f
end
/-! ### the field of an error that is a value -/
def tEf (K : PySem.W.Frag) (f : Str) (te : TE) : TE := fun σ H Q => te σ H fun x H1 => ∃ (a C dx : Addr) (fs : List (Str × V)) (v : V), x = .ref a ∧ XfC K C ∧ PySem.W.findIn K (.ref C) f = some none ∧ H1 a = some (exo a C (some dx)) ∧ H1 dx = some (exd dx fs) ∧ fs.lookup f = some v ∧ Q v H1
theorem pe_ef {X : Cx} {e : Expr} {te : TE} {pos : Pos} {n : Str} (he : PE X e te) (hb : attributeBase e n X.env (eval e X.env) = eval e X.env := by rfl) : PE X (.Attribute e n pos) (tEf X.K n te) := by
  refine ⟨fun pins s σ H Q I h => ?_⟩
  refine attr_of hb (thn (he.run pins s σ H _ I h) fun u s1 hh => ?_)
  obtain ⟨x, H1, I1, rx, a, C, dx, fs, v, ex, T, hno, h1, h2, l, q⟩ := hh
  subst ex
  obtain rfl : u = Value.ref a := rx
  obtain ⟨t1, ho⟩ := exo_at I1.hok h1
  obtain ⟨mA, hns, hr⟩ := exd_at I1.hok h2
  obtain ⟨od, hod, hl⟩ := lookIn_ns hns
  obtain ⟨u, hu, ru⟩ := RelO.some_of (v := v) (o := mA n) (by rw [← l]; exact hr n)
  have J : PySem.W.InstAt s1.heap a _ C (some od) := ⟨ho, rfl, rfl, hod⟩
  exact HandSPX.exc_get I1.kIn J T.ga T.gg T.exC (PySem.W.findObj_own T.hdC hno rfl (by rw [hl, hu])) (handed_of ru) ⟨v, H1, I1.tok _, ru, q⟩
/-! ### isinstance of it -/
def rIsX (K : PySem.W.Frag) : List V → Hp → VK → Prop := fun xs H Q => ∃ (a D : Addr) (fs : List (Str × V)) (c : V) (cv : Value) (b : Bool), xs = [.ref a, c] ∧ ErrAt H a D fs ∧ ClsV c cv ∧ ExcC K D ∧ PySem.W.kitOne K (.ref D) cv = some b ∧ Q (.bl b) H
theorem call_isX {X : Cx} : CallR X (.builtin "isinstance") (rIsX X.K) := by
  intro pins s σ H xs us Q I r h
  obtain ⟨a, D, fs, c, cv, b, rfl, ea, k, C, e, q⟩ := h
  obtain ⟨u1, u2, rfl, r1, r2⟩ := vals2 r
  have e2 := k.eq r2
  subst e2
  cases (show u1 = Value.ref a from r1)
  obtain ⟨ox, od, J, _⟩ := ea.inst I
  exact PySem.W.kia_one (PySem.W.kitx_excd C.hg C.hk C.hs C.hd C.ha C.hn C.ht C.hm) I.kIn ⟨_, _, J⟩ e (fun z => nomatch z) fun tk => ⟨.bl b, H, I.tok tk, rfl, q⟩
/-! ### made -/
section
variable {X : Cx} {CX : CXT} {k : Nat} {C fI : Addr} {fd : FuncData} {ps : List Str} {sp : Sp} {E : XK} {x : Str} {p pos : Pos} {e : Expr} {es : List Expr} {ta : TA}
theorem run_mkE {pins : List (Addr × Obj)} {σ : L2.St} {H : Hp} {s : Shared} {Q : VK} {us ws : List Value} {kw : List (Str × Value)} {zs : List V} (T : OexC X.K C) (iC : PySem.W.findIn X.K (.ref C) "__init__" = some (some (.ref fI))) (tI : PySem.W.typeIn X.K (.ref fI) = some (.type "function"))
    (F : FnOk X.prog X.w X.K X.mg X.base CX k fI fd ps sp) (hr : Room (k + 1) X.A) (hx : Passes CX X E) (I : Inv X pins σ H s) (hus : us.length ≤ 1000)
    (bt : ∀ (s' : Shared) (self : Value), X.K.In s'.heap → (self :: ws).length = ps.length → BindsTo s' fd ⟨self :: us, kw⟩ (ps.zip (self :: ws))) (r : Vals zs ws)
    (h : ∀ a, H a = none → sp (.ref a :: zs) (upd H a (exo a C none)) (fun v H2 => v = .non ∧ Q (.ref a) H2) E) :
    wpAny (model X.prog X.w) X.A (call (.ref C) us kw) (EP X pins σ Q) X.xe s := by
  obtain ⟨nm, q, N, bs, bm, sn, sub, ab, col, dd, k0, k1, k2, k3, k5, hC, hbm⟩ := T.cls
  obtain ⟨hp, g, dr, tk, os⟩ := s
  have hsz : hp.objs.size ≤ hp.objs.size + 1 := Nat.le_succ _
  have hn : H (hp.objs.size + 1) = none := I.hok.fresh hsz
  have hq := h (hp.objs.size + 1) hn
  have kk : ∀ b o, hp.get? b = some o → ((hp.push (PySem.W.kdv_tup us)).push (PySem.HandSPX.excO C hp.objs.size)).get? b = some o := fun b o e => Heap.get?_push_of_some _ (Heap.get?_push_of_some _ e)
  have hget : ((hp.push (PySem.W.kdv_tup us)).push (PySem.HandSPX.excO C hp.objs.size)).get? (hp.objs.size + 1) = some (PySem.HandSPX.excO C hp.objs.size) := by heap_get
  have I2 : Inv X pins σ (upd H (hp.objs.size + 1) (exo (hp.objs.size + 1) C none)) ⟨(hp.push (PySem.W.kdv_tup us)).push (PySem.HandSPX.excO C hp.objs.size), g, dr, tk, os⟩ :=
    I.laid (t' := tk) (a := hp.objs.size + 1) (o := exo (hp.objs.size + 1) C none) (h' := (hp.push (PySem.W.kdv_tup us)).push (PySem.HandSPX.excO C hp.objs.size)) kk hsz (exo_ok hget)
  have r2 : Vals (V.ref (hp.objs.size + 1) :: zs) (Value.ref (hp.objs.size + 1) :: ws) := .cons rfl r
  have hl : (Value.ref (hp.objs.size + 1) :: ws).length = ps.length := by
    have e := r2.length
    rw [F.len _ _ _ _ hq] at e
    exact e.symm
  have hus2 : us.length ≤ sizeLine := by
    rw [sizeLine_eq]
    omega
  refine wpAny_call (PySem.EK.call_kw PySem.F.excBase_ValueError (fun Y => PySem.HandSPX.refsVE_contains Y bm hbm) (I.kIn _ _ hC) (PySem.W.looks_findIn I.kIn iC) (fun self => PySem.W.bind_fn I.kIn self tI) hus2
    (codeAny_mono (F.run _ X.stack _ _ ⟨Value.ref (hp.objs.size + 1) :: us, kw⟩ (Value.ref (hp.objs.size + 1) :: ws) _ _ E (hr.make C us kw) (I2.env0.make C us kw) (bt _ _ I2.kIn hl) r2 hq) fun r s' hq' => ?_))
  cases r with
  | error er => exact hx pins σ _ _ er s' I2 hq'
  | ok fl =>
    cases fl with
    | ret u =>
      obtain ⟨v, H', I3, rv, ev, q3⟩ := I2.after hq'
      subst ev
      exact ⟨rv, ⟨V.ref (hp.objs.size + 1), H', I3, rfl, q3⟩⟩
    | next => exact False.elim hq'
    | brk => exact False.elim hq'
    | cont => exact False.elim hq'
/-- C(e, ..) and C(), the error as a value; C's own __init__ keeps sp -/
def tMkE (C : Addr) (sp : Sp) (E : XK) (ta : TA) : TE := fun σ H Q => ta σ H fun vs H1 => vs.length ≤ 1000 ∧ ∀ a, H1 a = none → sp (.ref a :: vs) (upd H1 a (exo a C none)) (fun v H2 => v = .non ∧ Q (.ref a) H2) E
/-- C(k = v, ..) -/
def tMkEk (C : Addr) (m : Nat) (sp : Sp) (E : XK) (gV : List V → List V) (tk : TA) : TE := fun σ H Q => tk σ H fun zs H1 => zs.length = m ∧ ∀ a, H1 a = none → sp (.ref a :: gV zs) (upd H1 a (exo a C none)) (fun v H2 => v = .non ∧ Q (.ref a) H2) E
theorem pe_mkE (T : OexC X.K C) (iC : PySem.W.findIn X.K (.ref C) "__init__" = some (some (.ref fI))) (tI : PySem.W.typeIn X.K (.ref fI) = some (.type "function")) (F : FnOk X.prog X.w X.K X.mg X.base CX k fI fd ps sp) (hr : Room (k + 1) X.A) (hb : Binds X.K fd ps []) (hx : Passes CX X E)
    (hg : Gl X x) (hm : X.mg x = some (.ref C)) (ha : PA X (e :: es) ta)
    (hdb : (x == ("__debug__" : Str)) = false := by decide) (he : starEach (e :: es) X.env = (false, eval e X.env) :: starEach es X.env := by rfl) (hpl : (backTo pos (starEach es X.env)).any (·.1) = false := by rfl) :
    PE X (.Call (.Name x p) (e :: es) [] pos) (tMkE C sp E ta) := by
  refine ⟨fun pins s σ H Q I h => ?_⟩
  refine wpAny_Call_Name_kw (ld_glob I hg hm ?_ hdb)
  refine PySem.W.callWith_K (h₀ := X.base) I.ok.mod.kin T.kC (thn (ha.run pos pins s σ H _ I h) fun us s1 ⟨vs, H1, I1, r1, hz, q1⟩ => ⟨I1.kIn, ?_⟩) he hpl
  refine run_mkE (ws := us) T iC tI F hr hx I1 (by show us.length ≤ 1000; rw [← r1.length]; exact hz) (fun s' self hk hl => ?_) r1 q1
  have z := hb s' (self :: us) hk (by rw [List.append_nil]; exact hl)
  rw [List.append_nil] at z
  exact z
theorem pe_mkE0 (T : OexC X.K C) (iC : PySem.W.findIn X.K (.ref C) "__init__" = some (some (.ref fI))) (tI : PySem.W.typeIn X.K (.ref fI) = some (.type "function")) (F : FnOk X.prog X.w X.K X.mg X.base CX k fI fd ps sp) (hr : Room (k + 1) X.A) (hb : Binds X.K fd ps []) (hx : Passes CX X E)
    (hg : Gl X x) (hm : X.mg x = some (.ref C)) (hdb : (x == ("__debug__" : Str)) = false := by decide) :
    PE X (.Call (.Name x p) [] [] pos) (tMkE C sp E tNil) := by
  refine ⟨fun pins s σ H Q I h => ?_⟩
  refine wpAny_Call_Name_kw (ld_glob I hg hm ?_ hdb)
  obtain ⟨_, h⟩ := (show ([] : List V).length ≤ 1000 ∧ _ from h)
  refine PySem.W.callWith_K0 I.kIn T.kC (run_mkE (us := []) (ws := []) (kw := []) T iC tI F hr hx I (by decide) (fun s' self hk hl => ?_) .nil h)
  have z := hb s' [self] hk hl
  exact z
theorem pe_mkEk {ks : List Str} {g : List Value → List Value} {gV : List V → List V} {kws : List Keyword} {tk : TA} (T : OexC X.K C) (iC : PySem.W.findIn X.K (.ref C) "__init__" = some (some (.ref fI))) (tI : PySem.W.typeIn X.K (.ref fI) = some (.type "function"))
    (F : FnOk X.prog X.w X.K X.mg X.base CX k fI fd ps sp) (hr : Room (k + 1) X.A) (hx : Passes CX X E)
    (hb : ∀ (s' : Shared) (self : Value) (ws : List Value), ws.length = ks.length → BindsTo s' fd ⟨[self], ks.zip ws⟩ (ps.zip (self :: g ws))) (hrel : ∀ {zs : List V} {ws : List Value}, Vals zs ws → zs.length = ks.length → Vals (gV zs) (g ws))
    (hg : Gl X x) (hm : X.mg x = some (.ref C)) (hkw : PK X kws tk)
    (hall : (backToKw pos (keywordEach kws X.env)).all (·.1.isSome) = true := by rfl) (hks : (backToKw pos (keywordEach kws X.env)).filterMap (·.1) = ks := by rfl) (hdb : (x == ("__debug__" : Str)) = false := by decide)
    (hpl : ((backTo pos (starEach [] X.env)).any (·.1) || (backToKw pos (keywordEach kws X.env)).any (·.1.isNone)) = false := by rfl) :
    PE X (.Call (.Name x p) [] kws pos) (tMkEk C ks.length sp E gV tk) := by
  refine ⟨fun pins s σ H Q I h => ?_⟩
  refine wpAny_Call_Name_kw (ld_glob I hg hm ?_ hdb)
  refine PySem.W.callWith_KW0 (h₀ := X.base) I.ok.mod.kin T.kC hall ?_ hpl
  refine thn (hkw.run pos pins s σ H _ I h) fun ws s2 ⟨zs, H2, I2, rz, l2, q2⟩ => ⟨I2.kIn, ?_⟩
  rw [hks]
  exact run_mkE (us := []) T iC tI F hr hx I2 (by decide) (fun s' self hk hl => hb s' self ws (by rw [← rz.length]; exact l2)) (hrel rz l2) q2
/-- an error class without an __init__ of its own, made with nothing -/
theorem pe_exc0 {bmB : List Value} {B newId initId : String} (F : ExcBaseFacts B newId initId bmB) (q : PySem.W.excIn X.K C bmB newId = true) (hm : X.mg x = some (.ref C)) (kC : PySem.W.keepIn X.K (.ref C) = true) (hg : Gl X x) (hdb : (x == ("__debug__" : Str)) = false := by decide) :
    PE X (.Call (.Name x p) [] [] pos) (fun σ H Q => ∀ a, H a = none → Q (.ref a) (upd H a (exo a C none))) := by
  refine ⟨fun pins s σ H Q I h => ?_⟩
  refine wpAny_Call_Name_kw (ld_glob I hg hm ?_ hdb)
  refine PySem.W.callWith_K0 I.kIn kC ?_
  obtain ⟨bm, N, nm, qn, bs, hdct, sn, sub, ab, col, dd, k0, k1, k2, k3, k5, mN, hC, hN, hni, T⟩ := exc_obj I.kIn q
  refine wpAny_call_exc_subT F T hC hN hni (fun h' a hm => ?_) (by show 0 ≤ sizeLine; exact Nat.zero_le _)
  have hn : H a = none := I.hok.gone hm.new
  obtain ⟨t, ht, _, _⟩ := hm.there
  exact ⟨.ref a, upd H a (exo a C none), I.laidN hm.keeps hm.new hn (exo_ok ht), rfl, h a hn⟩
/-- Base.__init__(self, ..), Base an own error class without an __init__ of its own -/
theorem pe_binit {pl : Sem Bool} {O : Addr} {p1 p2 : Pos} (r : ClX.CRead X.K O (.type "type")) (vV : PySem.W.findCls X.K (.ref O) (.type "type") "__init__" = some (.val (.builtin "ValueError.__init__"))) (hg : Gl X x) (hm : X.mg x = some (.ref O)) (ha : PA X (e :: es) ta)
    (hdb : (x == ("__debug__" : Str)) = false := by decide)
    (hc : eval (.Call (.Attribute (.Name x p1) "__init__" p2) (e :: es) [] pos) X.env = (do
      let ov ← eval (.Name x p1) X.env
      standAt p2.atName
      let (f, first) ← holding [ov] (getMethod ov "__init__" pl)
      callWith pos f first (backTo pos (starEach (e :: es) X.env)) (backToKw pos (keywordEach [] X.env))) := by rfl)
    (he : starEach (e :: es) X.env = (false, eval e X.env) :: starEach es X.env := by rfl) (hpl : (backTo pos (starEach es X.env)).any (·.1) = false := by rfl) :
    PE X (.Call (.Attribute (.Name x p1) "__init__" p2) (e :: es) [] pos) (tVeI X.K ta) := by
  refine ⟨fun pins s σ H Q I h => ?_⟩
  refine PySem.W.methodCall_KW (ld_glob I hg hm ?_ hdb) hc
  refine PySem.W.method_cls I.kIn r.ga (PySem.W.cls_value I.kIn r.rd vV (by decide +kernel) ?_)
  show wpAny _ _ (callWith pos (Value.builtin "ValueError.__init__") [] (backTo pos (starEach (e :: es) X.env)) []) _ _ _
  refine PyProof.Rows.callWith_method1 (thn (ha.run pos pins _ σ H _ (I.tok _) h) fun us s1 ⟨vs, H1, I1, r1, a, C, ws, ev, hl, T, ea, q⟩ => ?_) he hpl
  subst ev
  cases r1 with
  | @cons _ u0 _ ur ra rw' =>
    obtain rfl : u0 = Value.ref a := ra
    have hlen : ur.length ≤ sizeLine := by
      rw [← Paired.length rw', sizeLine_eq]
      omega
    exact oinit_ok T I1 ea hlen fun s' J => ⟨.non, H1, J, rfl, q⟩
end
end EV
namespace EV
open PySem PySem.Spec PyProof.Rows L2
/-! ### data with dicts, to be shown -/
def keyD : Key → PyData
  | .inl i => .int i
  | .inr x => .str x
mutual
inductive Dq (K : PySem.W.Frag) (H : Hp) : V → PyData → Prop
  | non : Dq K H .non .none
  | bl (b : Bool) : Dq K H (.bl b) (.bool b)
  | int (i : Int) : Dq K H (.int i) (.int i)
  | str (x : Str) : Dq K H (.str x) (.str x)
  | lst {a : Addr} {xs : List V} {ds : List PyData} : SqL K H a xs → a ≠ sysModules → DqAll K H xs ds → Dq K H (.ref a) (.list ds)
  | tup {a : Addr} {xs : List V} {ds : List PyData} : SqT K H a xs → DqAll K H xs ds → Dq K H (.ref a) (.tuple ds)
  | dct {a : Addr} {kvs : List (Key × V)} {ds : List PyData} : H a = some (.dK kvs) → DqAll K H (kvs.map (·.2)) ds → Dq K H (.ref a) (.dict ((kvs.map fun p => keyD p.1).zip ds))
inductive DqAll (K : PySem.W.Frag) (H : Hp) : List V → List PyData → Prop
  | nil : DqAll K H [] []
  | cons {v : V} {vs : List V} {d : PyData} {ds : List PyData} : Dq K H v d → DqAll K H vs ds → DqAll K H (v :: vs) (d :: ds)
end
theorem DqAll.len {K : PySem.W.Frag} {H : Hp} : ∀ {vs : List V} {ds : List PyData}, DqAll K H vs ds → vs.length = ds.length
  | _, _, .nil => rfl
  | _, _, .cons _ t => congrArg Nat.succ (DqAll.len t)
section
variable {X : Cx} {pins : List (Addr × Obj)} {σ : L2.St} {H : Hp} {s : Shared}
theorem keys_read {h : Heap} : ∀ {es : List DictEntry} {vs : List (Key × Value)}, Pairs (mixKind X.prog X.w) es vs → ReadsAll h (es.map (·.key)) (vs.map fun p => keyD p.1) []
  | _, _, .nil => .nil
  | _, _, .cons (e := e) (kv := kv) h1 h2 t => by
    have r := keys_read (h := h) t
    have one : Reads h e.key (keyD kv.1) [] := by
      rcases keyIs_shape (show keyIs kv.1 e.key = true from h1) with ⟨i, tk, e1, e2⟩ | ⟨y, tk, e1, e2⟩
      · rw [e1, e2]
        exact .int i tk
      · rw [e1, e2]
        exact .str y tk
    exact .cons one r
theorem vals_are : ∀ {es : List DictEntry} {vs : List (Key × Value)}, Pairs (mixKind X.prog X.w) es vs → es.map (·.val) = vs.map (·.2)
  | _, _, .nil => rfl
  | _, _, .cons h1 h2 t => by
    rw [List.map_cons, List.map_cons, h2, vals_are t]
theorem kv_vals : ∀ {kvs : List (Key × V)} {vs : List (Key × Value)}, KV kvs vs → Vals (kvs.map (·.2)) (vs.map (·.2))
  | _, _, .nil => .nil
  | _, _, .cons r t => .cons r.2 (kv_vals t)
theorem kv_keys : ∀ {kvs : List (Key × V)} {vs : List (Key × Value)}, KV kvs vs → kvs.map (fun p => keyD p.1) = vs.map (fun p => keyD p.1)
  | _, _, .nil => rfl
  | _, _, .cons r t => by rw [List.map_cons, List.map_cons, r.1, kv_keys t]
theorem zip_fst {α β : Type} : ∀ {l : List α} {m : List β}, l.length = m.length → (l.zip m).map (·.1) = l
  | [], [], _ => rfl
  | a :: l, b :: m, h => by rw [List.zip_cons_cons, List.map_cons, zip_fst (Nat.succ.inj h)]
theorem zip_snd {α β : Type} : ∀ {l : List α} {m : List β}, l.length = m.length → (l.zip m).map (·.2) = m
  | [], [], _ => rfl
  | a :: l, b :: m, h => by rw [List.zip_cons_cons, List.map_cons, zip_snd (Nat.succ.inj h)]
mutual
theorem Dq.reads (I : Inv X pins σ H s) : ∀ {v : V} {d : PyData} {u : Value}, Dq X.K H v d → RelV v u → ∃ as, Reads s.heap u d as ∧ sysModules ∉ as
  | _, _, _, .non, r => by cases r; exact ⟨_, .none, by simp⟩
  | _, _, _, .bl b, r => by cases r; exact ⟨_, .bool b, by simp⟩
  | _, _, _, .int i, r => by obtain ⟨t, rfl⟩ := r; exact ⟨_, .int i t, by simp⟩
  | _, _, _, .str x, r => by obtain ⟨t, rfl⟩ := r; exact ⟨_, .str x t, by simp⟩
  | _, _, _, .lst hs ne ha, r => by
    cases r
    obtain ⟨its, rv, ⟨o, n, ho, hc, _, hd⟩, _⟩ := I.list hs
    obtain ⟨as, hr, hn⟩ := DqAll.reads I ha rv
    refine ⟨_, Reads.list ho hc hd hr, fun z => ?_⟩
    rcases List.mem_cons.mp z with e | e
    · exact ne e.symm
    · exact hn e
  | _, _, _, .tup hs ha, r => by
    cases r
    obtain ⟨its, rv, ⟨o, ho, hc, n, hd⟩, _⟩ := I.tuple hs
    obtain ⟨as, hr, hn⟩ := DqAll.reads I ha rv
    exact ⟨_, Reads.tuple ho hc hd hr, hn⟩
  | _, _, _, .dct (a := a) (kvs := kvs) (ds := ds) he ha, r => by
    cases r
    obtain ⟨_, hsm, vs, kv, o, es, ep, ho, hx, hd, _, hp, _⟩ := (show ObjOk X.prog X.w H s.heap a (.dK kvs) from I.hok a _ he)
    obtain ⟨as, hr, hn⟩ := DqAll.reads I ha (kv_vals kv)
    have hl : (kvs.map fun p => keyD p.1).length = ds.length := by rw [List.length_map, ← ha.len, List.length_map]
    have hk := keys_read (h := s.heap) hp
    refine ⟨_, Reads.dict (as := []) (bs := as) ho hx.1 hd ?_ ?_, fun z => ?_⟩
    · rw [zip_fst hl, kv_keys kv]
      exact hk
    · rw [zip_snd hl, vals_are hp]
      exact hr
    · rcases List.mem_cons.mp z with e | e
      · exact (beq_eq_false_iff_ne.mp hsm) e.symm
      · exact hn e
theorem DqAll.reads (I : Inv X pins σ H s) : ∀ {vs : List V} {ds : List PyData} {us : List Value}, DqAll X.K H vs ds → Vals vs us → ∃ as, ReadsAll s.heap us ds as ∧ sysModules ∉ as
  | _, _, _, .nil, r => by cases r; exact ⟨_, .nil, by simp⟩
  | _, _, _, .cons h1 h2, r => by
    cases r with
    | cons r1 r2 =>
      obtain ⟨as, q1, n1⟩ := Dq.reads I h1 r1
      obtain ⟨bs, q2, n2⟩ := DqAll.reads I h2 r2
      exact ⟨_, .cons q1 q2, fun z => (List.mem_append.mp z).elim n1 n2⟩
end
end
theorem sqT_same {K : PySem.W.Frag} {H H' : Hp} (k : ∀ b o, H b = some o → H' b = some o) {a : Addr} {xs : List V} (h : SqT K H a xs) : SqT K H' a xs := by
  rcases h with (h | ⟨o, h⟩) | h
  · exact .inl (.inl (k _ _ h))
  · exact .inl (.inr ⟨o, k _ _ h⟩)
  · exact .inr h
mutual
theorem Dq.same {K : PySem.W.Frag} {H H' : Hp} (k : ∀ b o, H b = some o → H' b = some o) : ∀ {v : V} {d : PyData}, Dq K H v d → Dq K H' v d
  | _, _, .non => .non
  | _, _, .bl b => .bl b
  | _, _, .int i => .int i
  | _, _, .str x => .str x
  | _, _, .lst hs ne ha => .lst (Same.seq k hs) ne (DqAll.same k ha)
  | _, _, .tup hs ha => .tup (sqT_same k hs) (DqAll.same k ha)
  | _, _, .dct he ha => .dct (k _ _ he) (DqAll.same k ha)
theorem DqAll.same {K : PySem.W.Frag} {H H' : Hp} (k : ∀ b o, H b = some o → H' b = some o) : ∀ {vs : List V} {ds : List PyData}, DqAll K H vs ds → DqAll K H' vs ds
  | _, _, .nil => .nil
  | _, _, .cons h t => .cons (Dq.same k h) (DqAll.same k t)
end
/-! ### repr -/
def rRepr (K : PySem.W.Frag) : List V → Hp → VK → Prop := fun xs H Q => ∃ (x : V) (d : PyData), xs = [x] ∧ Dq K H x d ∧ d.showable = true ∧ d.shown.length ≤ sizeLine ∧ d.depth ≤ 60 ∧ Q (.str d.shown) H
theorem call_reprD {X : Cx} (hg : X.A.guards = some []) (hu : X.A.units + 64 < cLine) : CallR X (.builtin "repr") (rRepr X.K) := by
  intro pins s σ H xs us Q I r h
  obtain ⟨x, d, rfl, hd, hs, hz, hdp, q⟩ := h
  obtain ⟨u, rfl, ru⟩ := r.one
  cases hd with
  | non =>
    cases ru
    exact PySem.P.repr_of_none ⟨.str _, H, I.tok _, ⟨_, rfl⟩, q⟩
  | bl b =>
    cases ru
    refine PySem.P.repr_of_bool ⟨.str _, H, I.tok _, ⟨_, rfl⟩, ?_⟩
    cases b <;> exact q
  | int i =>
    obtain ⟨t, rfl⟩ := ru
    exact PySem.P.repr_of_int (by simpa [PyData.showable] using hs) ⟨.str _, H, I.tok _, ⟨_, rfl⟩, q⟩
  | str y =>
    obtain ⟨t, rfl⟩ := ru
    exact PySem.P.repr_of_str ⟨.str _, H, I.tok _, ⟨_, rfl⟩, q⟩ hz
  | lst h1 h2 h3 =>
    obtain ⟨as, hr, hn⟩ := Dq.reads I (.lst h1 h2 h3) ru
    cases ru
    exact repr_of_reads' hr hs (fun _ => hn) hg (by omega) (fun _ _ e => e) (fun h' u tk k => ⟨.str _, H, I.kept k, ⟨u, rfl⟩, q⟩) hz
  | tup h1 h2 =>
    obtain ⟨as, hr, hn⟩ := Dq.reads I (.tup h1 h2) ru
    cases ru
    exact repr_of_reads' hr hs (fun _ => hn) hg (by omega) (fun _ _ e => e) (fun h' u tk k => ⟨.str _, H, I.kept k, ⟨u, rfl⟩, q⟩) hz
  | dct h1 h2 =>
    obtain ⟨as, hr, hn⟩ := Dq.reads I (.dct h1 h2) ru
    cases ru
    exact repr_of_reads' hr hs (fun _ => hn) hg (by omega) (fun _ _ e => e) (fun h' u tk k => ⟨.str _, H, I.kept k, ⟨u, rfl⟩, q⟩) hz
/-! ### a list display: its place is told to be a new one -/
def tLstB (t : TA) : TE := fun σ H Q => t σ H fun xs H1 => xs.length ≤ sizeLine ∧ ∀ p, H1 p = none → p ≠ sysModules → Q (.ref p) (upd H1 p (.lst xs))
theorem pe_lstB {X : Cx} {es : List Expr} {t : TA} {pos : Pos} (h : PA X es t) : PE X (.List es pos) (tLstB t) := ⟨fun pins s σ H Q I hq =>
  wpAny_List_spliced (thn (h.run pos pins s σ H _ I hq) fun us s1 ⟨xs, H1, I1, r, z, q⟩ => ⟨r.length ▸ z, .ref s1.heap.objs.size, upd H1 s1.heap.objs.size (.lst xs),
    I1.laid (t' := s1.toks) (fun _ _ e => Heap.get?_push_of_some _ e) (Nat.le_refl _) ⟨z, us, 0, r, Heap.get?_push_size _ rfl⟩, rfl, q _ (I1.hok.fresh (Nat.le_refl _)) (Nat.ne_of_gt I1.big)⟩)⟩
/-! ### xs.count(True), xs a list of truth values -/
def isTrueV : Value → Bool
  | .bool b => b
  | _ => false
def rCntT (K : PySem.W.Frag) : V → List V → Hp → VK → Prop := fun x xs H Q => ∃ (p : Addr) (bs : List Bool), x = .ref p ∧ xs = [.bl true] ∧ SqL K H p (bs.map V.bl) ∧ Q (.int (bs.countP id : Nat)) H
theorem true_count : ∀ {bs : List Bool} {us : List Value}, Vals (bs.map V.bl) us → us.countP isTrueV = bs.countP id ∧ ∀ y ∈ us, ∃ b, y = .bool b
  | [], _, r => by cases r; exact ⟨rfl, fun _ h => nomatch h⟩
  | b :: bs, _, r => by
    cases r with
    | cons r1 r2 =>
      cases r1
      obtain ⟨h1, h2⟩ := true_count r2
      refine ⟨?_, fun y hy => ?_⟩
      · rw [List.countP_cons, List.countP_cons, h1] <;> rfl
      · rcases List.mem_cons.mp hy with e | e
        · exact ⟨b, e⟩
        · exact h2 y e
theorem mt_countT {X : Cx} : MtR X "list.count" (rCntT X.K) := by
  intro pins s σ H x xs v us Q I rx rxs h
  obtain ⟨p, bs, rfl, rfl, hs, q⟩ := h
  cases rx
  obtain ⟨u, rfl, ru⟩ := rxs.one
  cases ru
  obtain ⟨its, rv, ⟨⟨cls, dd, data, sl⟩, n, ho, hc, hdn, hd⟩, hlen⟩ := I.list hs
  simp only at hc hd
  subst hc hd
  obtain ⟨ec, eb⟩ := true_count rv
  refine call_meets PySem.F.slot_list_count ⟨_, ho, rfl⟩ PySem.F.entry_list_count (PySem.F.args_list_count_2 _ _)
    (SeqAt.list_countAt p its.toArray n dd sl (.bool true) isTrueV) ⟨ho, fun y hy => ?_, .int (bs.countP id : Nat), H, I.tok _, ⟨s.toks, ?_⟩, q⟩
  · obtain ⟨b, rfl⟩ := eb y (by simpa using hy)
    have z := SeqAt.EqAt.bool_bool (A := X.A.in1) (s := s) b true
    rw [show (b == true) = isTrueV (.bool b) by cases b <;> rfl] at z
    exact z
  · have e3 : its.toArray.toList.countP isTrueV = bs.countP id := ec
    show Value.int ((its.toArray.toList.countP isTrueV : Nat) : Int) s.toks = _
    rw [e3]
end EV
namespace EV
open PySem PySem.Spec PyProof.Rows L2 LamX NdefX
/-! ### a lambda without captured names, as a value -/
def LamO (f : Addr) (F : NF) (e : Expr) : HO := .ext fun h => ∃ (od : Option Addr) (sl : Array (Option Value)) (pm ctv : Value), h.get? f = some (⟨.type "function", od, .func (PySem.W.kla_fn F.name F.qual F.params e F.scope F.cl pm (.ref F.c) ctv), sl⟩ : Obj)
theorem lamO_at {P : Program} {w : World} {H : Hp} {h : Heap} {f : Addr} {F : NF} {e : Expr} (hok : HOk P w H h) (x : H f = some (LamO f F e)) : ∃ (od : Option Addr) (sl : Array (Option Value)) (pm ctv : Value), h.get? f = some (⟨.type "function", od, .func (PySem.W.kla_fn F.name F.qual F.params e F.scope F.cl pm (.ref F.c) ctv), sl⟩ : Obj) := (hok f _ x).1
theorem lamO_ne {f : Addr} {F : NF} {e : Expr} (ps : Array Value) : LamO f F e ≠ .tbl ps := fun z => by
  unfold LamO at z
  cases z
section
variable {X : Cx} {pins : List (Addr × Obj)} {σ : L2.St} {H : Hp} {s : Shared}
theorem inv_lam {F : NF} {e : Expr} {h' : Heap} {t' : Nat} {pm ctv : Value} (I : Inv X pins σ H { s with heap := h', toks := t' }) :
    Inv X pins σ (upd H h'.objs.size (LamO h'.objs.size F e)) { s with heap := h'.push ({ cls := .type "function", data := .func (PySem.W.kla_fn F.name F.qual F.params e F.scope F.cl pm (.ref F.c) ctv) } : Obj), toks := t' } := by
  have at_ : (h'.push ({ cls := .type "function", data := .func (PySem.W.kla_fn F.name F.qual F.params e F.scope F.cl pm (.ref F.c) ctv) } : Obj)).get? h'.objs.size = some ({ cls := .type "function", data := .func (PySem.W.kla_fn F.name F.qual F.params e F.scope F.cl pm (.ref F.c) ctv) } : Obj) := Heap.get?_push_size _ rfl
  exact I.laid (a := h'.objs.size) (o := LamO h'.objs.size F e) (t' := t') (fun _ _ z => Heap.get?_push_of_some _ z) (Nat.le_refl _) ⟨⟨_, _, pm, ctv, at_⟩, ⟨_, at_⟩, fun _ _ ⟨od, sl, p, t, z⟩ st => ⟨od, sl, p, t, st _ z⟩⟩
/-- its making: the code object is new, or found in the table -/
theorem lam_new {T : List (Addr × Str)} {c P : Addr} {params : Arguments} {body : Expr} {scope : Scope} {pos : Pos} {E : Value → Shared → Prop} {Q : Value → Shared → Prop} (I : Inv X pins σ H s) (TB : TabB X.base X.mg c P) (hcode : X.env.code = .ref c)
    (hm : (P, X.env.qual ++ "<lambda>") ∈ T) (hu : ∀ p ∈ T, p.1 = P → p.2 = X.env.qual ++ "<lambda>") (hT : Tabs T H) (hdef : defaultsOf params X.env = ([], [])) (hfree : ∀ y ∈ scope.names, y.2 = .free → ∃ c, X.env.cells.lookup y.1 = some c) (hcl : cloFrom X.env.cells scope.names [] = [])
    (h : ∀ (f c' : Addr) (H1 : Hp) (s' : Shared), Inv X pins σ H1 s' → ExtN H H1 → Tabs T H1 → H f = none → H1 f = some (LamO f ⟨"<lambda>", X.env.qual ++ "<lambda>", params, [], scope, [], c'⟩ body) → H1 c' = some (CodeO c' (X.env.qual ++ "<lambda>")) → Q (.ref f) s') :
    wpAny (model X.prog X.w) X.A (eval (.Lambda params body scope pos) X.env) Q E s := by
  obtain ⟨ps, hP, ht, ha⟩ := hT _ hm
  have bP := TB.bm.keeps I.bk
  have hP' : s.heap.get? P = some { cls := .none, data := .fields ps } := I.hok P _ hP
  have clo := closure_ok (env := X.env) hfree
  rw [hcl] at clo
  refine PySem.W.kla_eval hdef ?_
  cases hc : codeAmong pos ps.toList with
  | some cv =>
    obtain ⟨c', e, hco⟩ := ha pos cv hc
    subst e
    refine PySem.W.kla_makeFunctionHit (mg := X.mg) (c := c) (P := P) (ps := ps) clo I.ok.glob (I.mod.glob.keeps I.bk) hcode (TB.code.keeps I.bk) hP' ht hc bP fun ctv h' tk hx hsz => ?_
    have J : Inv X pins σ H { s with heap := h', toks := tk } := I.kept hx
    have nf := J.hok.fresh (Nat.le_refl h'.objs.size)
    exact h h'.objs.size c' _ _ (inv_lam (F := ⟨"<lambda>", X.env.qual ++ "<lambda>", params, [], scope, [], c'⟩) J) (fun b o e _ => (upd_ne (ne_of_none e nf)).trans e) (fun p hp => (hT p hp).ext fun b o e => (upd_ne (ne_of_none e nf)).trans e) nf upd_same ((upd_ne (ne_of_none hco nf)).trans hco)
  | none =>
    refine PySem.W.kla_makeFunction (mg := X.mg) (c := c) (P := P) (ps := ps) clo I.ok.glob (I.mod.glob.keeps I.bk) hcode (TB.code.keeps I.bk) hP' ht hc TB.gP bP fun c' ctv h' tk hx hge hlt hrec htb => ?_
    obtain ⟨c2, oc, vs, t, e2, hoc, hd, hv⟩ := hrec
    cases e2
    have nC : H c' = none := I.hok.fresh hge
    have J := inv_table (t' := tk) (more := #[rawInt pos.line, rawInt pos.col, .ref c']) (h' := h') I hP (fun b o hb e => hx b o hb e) htb hge ⟨oc, vs, t, hoc, hd, hv⟩
    have grow : ExtN H (upd (upd H P (.tbl (ps ++ #[rawInt pos.line, rawInt pos.col, .ref c']))) c' (CodeO c' (X.env.qual ++ "<lambda>"))) := fun b o e n => by
      rw [upd_ne (ne_of_none e nC), upd_ne fun z => n ps (Option.some.inj (e.symm.trans (by rw [z]; exact hP)))]
      exact e
    have eL : (ps ++ #[rawInt pos.line, rawInt pos.col, .ref c']).toList = ps.toList ++ [rawInt pos.line, rawInt pos.col, .ref c'] := by simp
    have T1 : Tabs T (upd (upd H P (.tbl (ps ++ #[rawInt pos.line, rawInt pos.col, .ref c']))) c' (CodeO c' (X.env.qual ++ "<lambda>"))) := fun p hp => by
      by_cases hb : p.1 = P
      · rw [hu p hp hb, hb]
        refine ⟨_, (upd_ne (ne_of_none hP nC)).trans upd_same, eL ▸ PySem.TriplesOk_snoc _ _ _ _ ht, fun p' cv hcv => ?_⟩
        rcases among_app _ ht (eL ▸ hcv) with z | z
        · obtain ⟨c0, e1, e2⟩ := ha p' cv z
          exact ⟨c0, e1, grow _ _ e2 codeO_ne⟩
        · exact ⟨c', z, upd_same⟩
      · obtain ⟨ps', a1, a2, a3⟩ := hT p hp
        refine ⟨ps', (upd_ne (ne_of_none a1 nC)).trans ((upd_ne hb).trans a1), a2, fun p' cv hcv => ?_⟩
        obtain ⟨c0, e1, e2⟩ := a3 p' cv hcv
        exact ⟨c0, e1, grow _ _ e2 codeO_ne⟩
    have nf := J.hok.fresh (Nat.le_refl h'.objs.size)
    refine h h'.objs.size c' _ _ (inv_lam (F := ⟨"<lambda>", X.env.qual ++ "<lambda>", params, [], scope, [], c'⟩) J) (fun b o e n => (upd_ne (ne_of_none (grow b o e n) nf)).trans (grow b o e n)) (fun p hp => (T1 p hp).ext fun b o e => (upd_ne (ne_of_none e nf)).trans e) ?_ upd_same
      ((upd_ne (Nat.ne_of_lt hlt)).trans upd_same)
    exact I.hok.fresh (Nat.le_trans hge (Nat.le_of_lt hlt))
end
def tLamV (T : List (Addr × Str)) (mk : Addr → NF) (e : Expr) : TE := fun σ H Q => Tabs T H ∧ ∀ (f c' : Addr) (H1 : Hp), ExtN H H1 → Tabs T H1 → H f = none → H1 f = some (LamO f (mk c') e) → H1 c' = some (CodeO c' (mk c').qual) → Q (.ref f) H1
theorem pe_lamV {X : Cx} {T : List (Addr × Str)} {c P : Addr} {params : Arguments} {body : Expr} {scope : Scope} {pos : Pos} (TB : TabB X.base X.mg c P) (hcode : X.env.code = .ref c) (hm : (P, X.env.qual ++ "<lambda>") ∈ T) (hu : ∀ p ∈ T, p.1 = P → p.2 = X.env.qual ++ "<lambda>")
    (hnf : ∀ y ∈ scope.names, y.2 ≠ .free) (hcl : cloFrom X.env.cells scope.names [] = []) (hdef : defaultsOf params X.env = ([], []) := by rfl) :
    PE X (.Lambda params body scope pos) (tLamV T (fun c' => ⟨"<lambda>", X.env.qual ++ "<lambda>", params, [], scope, [], c'⟩) body) :=
  ⟨fun pins s σ H Q I h => lam_new I TB hcode hm hu h.1 hdef (fun y hy e => (hnf y hy e).elim) hcl fun f c' H1 s' J eN T1 f0 f1 c1 => ⟨.ref f, H1, J, rfl, h.2 f c' H1 eN T1 f0 f1 c1⟩⟩
/-! ### its call -/
section
variable {X : Cx} {pins : List (Addr × Obj)} {σ : L2.St} {H : Hp} {s : Shared} {CX : CXT} {E : XK} {k : Nat} {x : Str} {F : NF} {body : Expr} {f : Addr} {Q : VK} {v : V} {u : Value} {tb : TE}
theorem run_lam (I : Inv X pins σ H s) (S : NScope [x] [x] [] F.scope) (hcl : F.cl = []) (hb : ∀ (pm ctv u : Value), bindArgs (PySem.W.kla_fn F.name F.qual F.params body F.scope F.cl pm (.ref F.c) ctv) ⟨[u], []⟩ = pure [(x, u)])
    (hf : H f = some (LamO f F body)) (hc : H F.c = some (CodeO F.c F.qual)) (hr : Room (k + 1) X.A) (hx : Passes CX X E) (r : RelV v u)
    (hbody : ∀ (A : Around) (outer : List Env) (s : Shared), PE (ncx CX X.prog X.w X.K X.mg X.base [x] F f A outer s H E) body tb) (q : tb [some v] H Q) :
    wpAny (model X.prog X.w) X.A (call (.ref f) [u]) (EP X pins σ Q) X.xe s := by
  obtain ⟨od, sl, pm, ctv, ho⟩ := lamO_at I.hok hf
  have cr := codeO_at I.hok hc
  have lim := I.nolimit
  have run : codeAny (model X.prog X.w) X.A (.call (.ref f) ⟨[u], []⟩) (CR CX X.stack X.prog X.w H s Q E) s := by
    refine PySem.W.kla_callFunE hr.depth ho rfl S.co S.gen rfl cr ?_
    rw [hb pm ctv u]
    refine wpAny_pure (wpAny_newFunctionEnv S.nocell (fun y hy => ?_) (fun h₁ hns hsb => ⟨lim.fresh _ hsb, ?_⟩) S.kind)
    · rcases List.mem_cons.mp hy with e | e
      · rw [e]
        exact S.par x List.mem_cons_self
      · cases e
    · show codeAny _ _ (.expr body (envF F f s.heap.objs.size)) _ _
      have kp : ∀ b o, s.heap.get? b = some o → h₁.get? b = some o := fun b o e => hsb.extBut b o (Nat.ne_of_lt (Heap.lt_size e)) (Heap.get?_push_of_some _ e)
      have C : CellsAt F.cl [] [] s.heap H := by
        rw [hcl]
        exact ⟨rfl, (fun _ _ e => nomatch e), (fun _ _ _ e => nomatch e), (fun _ _ e => nomatch e)⟩
      have J : Inv (ncx CX X.prog X.w X.K X.mg X.base [x] F f X.A X.stack s H E) [] (startF [x] [v] []) H { s with heap := h₁, toks := s.toks + 1 } := inv_startN (us := [u]) S hr.hd I.env0 rfl (.cons r .nil) C hns kp
      refine PySem.W.kla_codeExpr (wpAny_mono ((hbody X.A X.stack s).run [] _ (startF [x] [v] []) H Q J q) (fun w' s' hq => ?_) fun e s' hq => hq)
      obtain ⟨y, H', J', rv, q'⟩ := hq
      exact ⟨y, H', J'.os, J'.bare, J'.base, J'.hok, rv, q'⟩
  refine wpAny_call (codeAny_mono run fun r s' hq => ?_)
  cases r with
  | error e => exact hx pins σ H s e s' I hq
  | ok fl =>
    cases fl with
    | ret w' => exact I.after hq
    | next => exact False.elim hq
    | brk => exact False.elim hq
    | cont => exact False.elim hq
end
end EV
namespace EV
open PySem PySem.Spec PyProof.Rows L2 LamX NdefX
/-! ### the law's own call, with the surroundings told (nothing is being shown ahead of it) -/
/-- the abstract heap at the law's entry: the tables, and the script if the written part does not tell it -/
def entryH (cs : List (Addr × Addr)) (K : PySem.W.Frag) (a : Addr) (o : Obj) (xs : List V) : Hp := fun b =>
  if b ∈ cs.map (·.2) then some (.tbl #[]) else if b = a ∧ K.lookup a = none then some (.frz o (.lst xs)) else none
theorem entryH_cases {cs : List (Addr × Addr)} {K : PySem.W.Frag} {a : Addr} {o : Obj} {xs : List V} {b : Addr} {u : HO} (h : entryH cs K a o xs b = some u) : (b ∈ cs.map (·.2) ∧ u = .tbl #[]) ∨ (b ∉ cs.map (·.2) ∧ b = a ∧ K.lookup a = none ∧ u = .frz o (.lst xs)) := by
  unfold entryH at h
  by_cases h1 : b ∈ cs.map (·.2)
  · rw [if_pos h1] at h
    exact .inl ⟨h1, (Option.some.inj h).symm⟩
  · rw [if_neg h1] at h
    by_cases h2 : b = a ∧ K.lookup a = none
    · rw [if_pos h2] at h
      exact .inr ⟨h1, h2.1, h2.2, (Option.some.inj h).symm⟩
    · rw [if_neg h2] at h
      cases h
theorem law_callG {P : Program} {w : World} {K : PySem.W.Frag} {mg mb : Str → Option Value} {fa a : Addr} {cs : List (Addr × Addr)} {s₁ : Shared} {vs : List Value} {ns : List Int}
    (KX : K.In s₁.heap) (gl : s₁.heap.Ns mainGlobals mg) (bl : s₁.heap.Ns builtinsNs mb) (bb : ∀ x : Str, x ≠ "__name__" → mb x = bootBuiltins x) (lim : s₁.heap.NoLimit) (hg : s₁.gens = #[])
    (tb : ∀ p ∈ cs, s₁.heap.get? p.2 = some { cls := .none, data := .fields #[] }) (tk : ∀ p ∈ cs, K.lookup p.2 = none) (cd : ∀ p ∈ cs, PySem.W.CodeHd s₁.heap p.1 p.2)
    (bm : ∃ (bm : Addr) (ob : Obj), mg "__builtins__" = some (.ref bm) ∧ bm ≠ builtinsNs ∧ s₁.heap.get? bm = some ob ∧ ob.cls = .type "module" ∧ ob.dict = some builtinsNs ∧ ob.data = .plain)
    (ha : s₁.heap.get? a = some { cls := .type "list", data := .seq vs.toArray }) (hi : IntsAre vs ns) (hl : ns.length ≤ sizeLine)
    (F : ∀ (base : Heap) (H : Hp), K.In base → base.Ns mainGlobals mg → (∀ p ∈ cs, TabB base mg p.1 p.2) → (∀ p ∈ cs, H p.2 = some (.tbl #[])) → SqL K H a (ns.map V.int) → Env0 P w K mg base callerA [] s₁ H →
      codeAny (model P w) callerA (.call (.ref fa) ⟨[.ref a], []⟩) (CR CX0 [] P w H s₁ (fun v _ => v = .bl true) E0) s₁) :
    codeAny (model P w) callerA (.call (.ref fa) ⟨[.ref a], []⟩) (fun r s' => r = .ok (.ret (.bool true)) ∧ OldK s₁.heap s'.heap ∧ s'.os = s₁.os ∧ AllBare s'.gens) s₁ := by
  have rv := vals_ints hi
  have ln := hi.length
  have inT : ∀ {b : Addr}, b ∈ cs.map (·.2) → ∃ p ∈ cs, p.2 = b := fun hb => by
    obtain ⟨p, hp, e⟩ := List.mem_map.mp hb
    exact ⟨p, hp, e⟩
  have atT : ∀ {b : Addr}, b ∈ cs.map (·.2) → s₁.heap.get? b = some { cls := .none, data := .fields #[] } := fun hb => by
    obtain ⟨p, hp, rfl⟩ := inT hb
    exact tb p hp
  have aT : a ∉ cs.map (·.2) := fun z => by
    have q := ha.symm.trans (atT z)
    cases q
  generalize hH : entryH cs K a { cls := .type "list", data := .seq vs.toArray } (ns.map V.int) = H
  have split : ∀ {b : Addr} {u : HO}, H b = some u → (b ∈ cs.map (·.2) ∧ u = .tbl #[]) ∨ (b ∉ cs.map (·.2) ∧ b = a ∧ K.lookup a = none ∧ u = .frz { cls := .type "list", data := .seq vs.toArray } (.lst (ns.map V.int))) := fun e => entryH_cases (hH ▸ e)
  have tabs : ∀ p ∈ cs, H p.2 = some (.tbl #[]) := fun p hp => by
    rw [← hH]
    exact if_pos (List.mem_map.mpr ⟨p, hp, rfl⟩)
  -- what is no list and no empty table is not tracked
  have off : ∀ {b : Addr} {o : Obj}, s₁.heap.get? b = some o → (∀ us n, o.data ≠ .seq us n) → o.data ≠ .fields #[] → H b = none := fun {b o} e h1 h2 => by
    cases q : H b with
    | none => rfl
    | some u =>
      rcases split q with ⟨z, _⟩ | ⟨_, z, _, _⟩
      · have y := e.symm.trans (atT z)
        cases y
        exact (h2 rfl).elim
      · rw [z] at e
        have y := e.symm.trans ha
        cases y
        exact (h1 _ _ rfl).elim
  have kept : ∀ {b : Addr} {o : Obj}, s₁.heap.get? b = some o → H b = none → (hidT s₁.heap H).get? b = some o := fun e n => hidT_get e n
  have nss : ∀ {b : Addr} {m : Str → Option Value}, s₁.heap.Ns b m → (hidT s₁.heap H).Ns b m := fun ⟨o, es, ep, e, d, r⟩ => ⟨o, es, ep, kept e (off e (fun _ _ z => by rw [d] at z; cases z) fun z => by rw [d] at z; cases z), d, r⟩
  have kin : K.In (hidT s₁.heap H) := fun b o e => kept (KX b o e) (by
    cases q : H b with
    | none => rfl
    | some u =>
      rcases split q with ⟨z, _⟩ | ⟨_, z, n, _⟩
      · obtain ⟨p, hp, ep⟩ := inT z
        have y := tk p hp
        rw [ep, e] at y
        cases y
      · rw [← z, e] at n
        cases n)
  have tbs : ∀ p ∈ cs, TabB (hidT s₁.heap H) mg p.1 p.2 := fun p hp => by
    have t0 := tb p hp
    refine ⟨?_, ?_, fun z => ?_⟩
    · obtain ⟨o, us, file, tf, flags, tg, inF, text, tt, e1, r1, r2, r3, r⟩ := cd p hp
      refine ⟨o, us, file, tf, flags, tg, inF, text, tt, kept e1 (off e1 (fun _ _ z => by rw [r2] at z; cases z) fun z => ?_), r1, r2, r3, r⟩
      rw [r2] at z
      cases z
      simp at r3
    · obtain ⟨m, ob, b1, b2, b3, b4, b5, b6⟩ := bm
      refine ⟨m, ob, b1, b2, fun q => ?_, fun q => ?_, kept b3 (off b3 (fun _ _ z => by rw [b6] at z; cases z) fun z => by rw [b6] at z; cases z), b4, b5, b6⟩
      · obtain ⟨o, es, ep, e, hd, _⟩ := gl
        rw [q] at b3
        have y := b3.symm.trans e
        cases y
        rw [b6] at hd
        cases hd
      · rw [q] at b3
        have y := b3.symm.trans t0
        cases y
        cases b6
    · obtain ⟨o, es, ep, e, hd, _⟩ := gl
      rw [z] at e
      have y := t0.symm.trans e
      cases y
      cases hd
  have hok : HOk P w H s₁.heap := fun b u e => by
    rcases split e with ⟨z, rfl⟩ | ⟨_, rfl, _, rfl⟩
    · exact atT z
    · exact ⟨ha, (by rw [List.length_map]; exact hl), vs, _, rv, ha⟩
  have seq : SqL K H a (ns.map V.int) := by
    cases hk : K.lookup a with
    | none =>
      refine .inl (.inr ⟨{ cls := .type "list", data := .seq vs.toArray }, ?_⟩)
      rw [← hH]
      exact (if_neg aT).trans (if_pos ⟨rfl, hk⟩)
    | some o =>
      have y := (KX a o hk).symm.trans ha
      cases y
      exact .inr ⟨_, vs.toArray, _, hk, rfl, rfl, rfl, (by rw [List.size_toArray, ln]; exact hl), by simpa using rv⟩
  have e0 : Env0 P w K mg (hidT s₁.heap H) callerA [] s₁ H := ⟨rfl, ⟨kin, nss gl, ⟨mb, nss bl, bb⟩, let ⟨mc, h1, h2⟩ := lim; ⟨mc, nss h1, h2⟩⟩, fun b o e => of_hidT e, Nat.le_of_eq (hidT_size _ _), trivial, fun b hb => absurd (show b ∈ ([] : List Addr) from hb) (by simp), hok, .of_eq hg⟩
  refine codeAny_mono (F _ H kin (nss gl) tbs tabs seq e0) fun r s' h => ?_
  cases r with
  | error e => exact False.elim h
  | ok fl =>
    cases fl with
    | next => exact False.elim h
    | brk => exact False.elim h
    | cont => exact False.elim h
    | ret u =>
      obtain ⟨v, H', os, bare, un, ok2, rel, q⟩ := h
      have q' : v = .bl true := q
      subst q'
      obtain rfl : u = Value.bool true := rel
      have stays : ∀ b o, b ∉ cs.map (·.2) → s₁.heap.get? b = some o → s'.heap.get? b = some o := fun b o nb e => by
        cases q : H b with
        | none => exact un.keep b o e q (by intro z; exact absurd (show b ∈ ([] : List Addr) from z) (by simp)) (by simp)
        | some u =>
          rcases split q with ⟨z, _⟩ | ⟨_, z, _, rfl⟩
          · exact absurd z nb
          · obtain ⟨e1, _⟩ := ok2 b _ (un.frzs b _ _ q)
            rw [z] at e
            have y := e.symm.trans ha
            cases y
            exact e1
      have grown : ∀ {b : Addr}, b ∈ cs.map (·.2) → ∃ (p : Addr × Addr) (more : Array Value), p ∈ cs ∧ p.2 = b ∧ s'.heap.get? b = some { cls := .none, data := .fields more } := fun {b} hb => by
        obtain ⟨p, hp, rfl⟩ := inT hb
        obtain ⟨more, z⟩ := un.tbls p.2 #[] (tabs p hp)
        exact ⟨p, _, hp, rfl, ok2 p.2 _ z⟩
      refine ⟨rfl, ⟨fun b o e => ?_, fun b o e => ?_⟩, os, bare⟩
      · by_cases hb : b ∈ cs.map (·.2)
        · obtain ⟨p, more, hp, rfl, hm⟩ := grown hb
          have y := e.symm.trans (tb p hp)
          cases y
          exact .inr (.inl ⟨((cd p hp).tab (tb p hp)).isCodeTable, rfl, #[], more, rfl, by rw [Array.empty_append]; exact hm⟩)
        · exact .inl (stays b o hb e)
      · by_cases hb : b ∈ cs.map (·.2)
        · obtain ⟨p, more, hp, rfl, hm⟩ := grown hb
          exact ⟨_, hm⟩
        · exact ⟨o, stays b o hb e⟩
/-! ### a promise that wants to know that nothing is being shown -/
structure FnG (P : Program) (w : World) (K : PySem.W.Frag) (mg : Str → Option Value) (base : Heap) (k : Nat) (f : Addr) (fd : FuncData) (ps : List Str) (sp : Sp) : Prop where
  len : ∀ vs H Q E, sp vs H Q E → vs.length = ps.length
  run : ∀ (A : Around) (outer : List Env) (s : Shared) (H : Hp) (args : Args) (us : List Value) (vs : List V) (Q : VK) (E : XK), A.guards = some [] → Room k A → Env0 P w K mg base A outer s H → BindsTo s fd args (ps.zip us) → Vals vs us → sp vs H Q E →
    codeAny (model P w) A (.call (.ref f) args) (CR CX0 outer P w H s Q E) s
theorem fng_of {P : Program} {w : World} {K : PySem.W.Frag} {mg : Str → Option Value} {base : Heap} {k : Nat} {x qual : Str} {st : Stmt} {f : Addr} {fd : FuncData} {N ps : List Str} {sp : Sp} (F : Fun K x qual st f fd) (S : FnScope N ps (defScope st)) (len : ∀ vs H Q E, sp vs H Q E → vs.length = ps.length)
    (hbody : ∀ (cdv : Value) (A : Around) (outer : List Env) (s : Shared) (H : Hp) (vs : List V) (Q : VK) (E : XK), (A.deeper (envOfC qual (defScope st) s.heap.objs.size f cdv)).guards = some [] → Room k (A.deeper (envOfC qual (defScope st) s.heap.objs.size f cdv)) → sp vs H Q E →
      ∃ t, PSs (cxOf CX0 P w K mg base N qual (defScope st) f cdv A outer s H E).nox (defBody st) t ∧ t { nx := fun _ H' => Q .non H', rt := Q } (start N vs) H) : FnG P w K mg base (k + 1) f fd ps sp := by
  obtain ⟨oc, od, kV, doc, pm, an, cdv, ct, osl, rfl, lk, hcd⟩ := F.ex
  refine ⟨len, fun A outer s H args us vs Q E hg hr e0 hb r hsp => run_ofS lk hcd S hr e0 hb r (len _ _ _ _ hsp) fun hr' => ?_⟩
  obtain ⟨t, h1, h2⟩ := hbody cdv A outer s H vs Q E hg hr' hsp
  exact ⟨t, h1.nox, h2⟩
section
variable {X : Cx} {k : Nat} {f : Addr} {fd : FuncData} {ps : List Str} {sp : Sp} {x : Str} {p pos : Pos} {e : Expr} {es : List Expr} {t : TA}
theorem pe_callG (F : FnG X.prog X.w X.K X.mg X.base k f fd ps sp) (gd : X.A.guards = some []) (hr : Room k X.A) (hg : Gl X x) (hm : X.mg x = some (.ref f)) (hk : PySem.W.keepIn X.K (.ref f) = true) (hb : Binds X.K fd ps []) (ha : PA X (e :: es) t)
    (hdb : (x == ("__debug__" : Str)) = false := by decide) (he : starEach (e :: es) X.env = (false, eval e X.env) :: starEach es X.env := by rfl) (hpl : (backTo pos (starEach es X.env)).any (·.1) = false := by rfl) :
    PE X (.Call (.Name x p) (e :: es) [] pos) (tCall sp [] E0 t) := by
  refine ⟨fun pins s σ H Q I h => ?_⟩
  refine wpAny_Call_Name_kw (ld_glob I hg hm ?_ hdb)
  refine PySem.W.callWith_K (h₀ := X.base) I.ok.mod.kin hk (thn (ha.run pos pins s σ H _ I h) fun us s1 ⟨vs, H1, I1, r, q⟩ => ⟨I1.kIn, ?_⟩) he hpl
  have q : sp (vs ++ []) H1 Q E0 := q
  rw [List.append_nil] at q
  have hl : (us ++ []).length = ps.length := by rw [List.append_nil, ← r.length]; exact F.len _ _ _ _ q
  have b := hb s1 us I1.kIn hl
  rw [List.append_nil] at b
  refine wpAny_call (codeAny_mono (F.run X.A X.stack s1 H1 ⟨us, []⟩ us vs Q E0 gd hr I1.env0 b r q) fun z s' hq => ?_)
  cases z with
  | error e => exact False.elim hq
  | ok fl =>
    cases fl with
    | ret u => exact I1.after hq
    | next => exact False.elim hq
    | brk => exact False.elim hq
    | cont => exact False.elim hq
end
end EV
/-! Dict comprehensions whose keys may be tuples: the store is what DPut says. -/
namespace EV
open PySem PySem.Spec PyProof.Rows L2
section
variable {X : Cx} {pins : List (Addr × Obj)} {σ : L2.St} {H : Hp} {s : Shared}
/-- an entry laid by a comprehension, whatever the key is -/
theorem lay_entry {P : Unit → Shared → Prop} {E : Value → Shared → Prop} {D : Addr} {y z : V} {u r : Value} {H' : Hp} (hu : X.A.units + 1 < cLine) (I : Inv X pins σ H s) (g : DPut H D y z H') (ry : RelV y u) (rz : RelV z r) (k : ∀ s', Inv X pins σ H' s' → P () s') :
    wpAny (model X.prog X.w) X.A (dictSet D u r) P E s := by
  rcases g with ⟨kvs, ky, hD, rfl, small, rfl⟩ | ⟨kvs, ky, b, hD, rfl, hb, small, rfl⟩
  · exact d_dictSet I hD small ry rz k
  · obtain rfl : u = Value.ref b := ry
    obtain ⟨le, nsys, xs, kt, dh⟩ := dt_of I.hok hD
    have le' : xs.length ≤ sizeLine := Paired.length kt ▸ le
    have room : (putK kvs ky z).length ≤ sizeLine := by
      have t := length_putK kvs ky z
      omega
    have hr : (tupleKind (mixKind X.prog X.w)).room X.A := Nat.lt_of_succ_lt hu
    refine wpAny_dictSet_heap (hsz := le') hr (key_of I.hok hb) dh fun h2 dh2 but => k _ ?_
    obtain ⟨o, es, ep, q1, q2, q3, q4, _, q6⟩ := dh2
    refine d_write I (by rw [hD]; exact True.intro) but ⟨o, q1⟩ ⟨room, nsys, _, KT.keeps (kt.put ky hb rz) fun c ys hc => ?_, o, es, ep, q1, q2, q3, q4, q6⟩
    exact (upd_ne (ne_of hc hD fun t => nomatch t)).trans hc
end
section
variable {X : Cx}
/-- the empty dict, to hold keys of the one kind or of the other -/
inductive Bare0 : HO → Prop
  | k : Bare0 (.dK [])
  | t : Bare0 (.dT [])
theorem bare0_lay {P : Program} {w : World} {H : Hp} {h : Heap} {o : HO} (b : Bare0 o) (big : sysModules < h.objs.size) : ObjOk P w H (h.push { cls := .type "dict", data := .dict #[] }) h.objs.size o := by
  cases b
  · exact dk_empty h big
  · exact dt_empty h big
/-- one turn of the comprehension's block, as a reading -/
def turnP (D : Addr) (g : TG) (tt : TT) (tk tv : TE) (vs : List Nat) (σ : L2.St) (Nx : Hp → Prop) (x : V) (H' : Hp) : Prop :=
  g x (wipe σ vs) H' fun σ2 H2 => wipe σ2 vs = wipe σ vs ∧ tt σ2 H2 fun b H3 =>
    if b = true then tk σ2 H3 fun y H4 => tv σ2 H4 fun z H5 => ∃ H6, DPut H5 D y z H6 ∧ Nx H6 else Nx H3
def tDcP (o0 : HO) (wi : TI) (g : TG) (tt : TT) (tk tv : TE) (vs : List Nat) : TE := fun σ H Q => wi σ H fun J H1 => ∀ D, H1 D = none → ∃ W : Nat → Nat → Hp → Prop, (∃ m, W 0 m (upd H1 D o0)) ∧
  ∀ i m H2, W i m H2 → (J.stop i H2 ∧ Q (.ref D) H2) ∨ (J.go i H2 ∧ ∃ Nx : Hp → Prop, (∀ H3, Nx H3 → ∃ m', m' < m ∧ W (i + 1) m' H3) ∧ ∀ x H3, J.yld i H2 x H3 → turnP D g tt tk tv vs σ Nx x H3)
abbrev AllBlk (X : Cx) (scope : Scope) (p : Cx → Prop) : Prop := ∀ (s : Shared) (H : Hp) (C : Addr) (cl : List (Str × Addr)) (fp : List Addr), p (X.blk s H scope (compEnvC scope cl C X.env) fp)
theorem pe_dcP {kx vx tg iter : Expr} {ifs : List Expr} {scope : Scope} {own : List (Str × Nat)} {pos : Pos} {wi : TI} {g : TG} {tt : TT} {tk tv : TE} {o0 : HO} (b0 : Bare0 o0) (calm : X.calm = true) (hu : X.A.units + 1 < cLine) (hN : X.N.Nodup) (hi : PI X tg iter wi) (ok : BlkOk X.N X.env.scope scope own)
    (hg : AllBlk X scope fun B => PG B tg g) (ht : AllBlk X scope fun B => PTs B ifs tt) (hk : AllBlk X scope fun B => PE B kx tk) (he : AllBlk X scope fun B => PE B vx tv)
    (fold : ∀ x, foldedSetIterable iter X.env x = pure x := by intro _; rfl) : PE X (.DictComp kx vx [⟨tg, iter, ifs, 0⟩] scope pos) (tDcP o0 wi g tt tk tv (own.map (·.2))) := by
  refine ⟨fun pins s σ H Q I reading => ?_⟩
  rw [arm_eval_DictComp]
  have frees : ∀ y ∈ scope.names, y.2 = .free → ∃ c, X.env.cells.lookup y.1 = some c := fun y hy e => (ok.free y hy e).elim (fun q => I.ok.has _ (.inl q)) fun q => I.ok.has _ (.inr q)
  refine wpAny_comprehension_free rfl fold (closure_ok frees) ok.kind (fun y hy e => (ok.uniq y hy).trans (congrArg some e)) (thn (hi.run pins s σ H _ I reading) fun xv s1 made => thn made fun itv s2 stands => ?_)
  obtain ⟨it, fp, tn, J, H2, rfl, I2, T, at0, fpk, rest⟩ := stands
  refine wpAny_newObj_type (newEnv_comp ?_)
  obtain ⟨D, eD⟩ : ∃ D, s2.heap.objs.size = D := ⟨_, rfl⟩
  rw [eD]
  have new : H2 D = none := I2.hok.fresh (Nat.le_of_eq eD)
  obtain ⟨W, ⟨m0, start⟩, turns⟩ := rest D new
  -- the empty dict stands
  obtain ⟨s3, e3⟩ : ∃ s3 : Shared, ({ s2 with heap := s2.heap.push { cls := .type "dict", data := .dict #[] } } : Shared) = s3 := ⟨_, rfl⟩
  have grow : ∀ b o, s2.heap.get? b = some o → s3.heap.get? b = some o := fun b o e => by
    rw [← e3]
    exact Heap.get?_push_of_some _ e
  have size3 : s3.heap.objs.size = s2.heap.objs.size + 1 := by
    rw [← e3]
    exact Heap.size_push ..
  have I3 : Inv X pins σ (upd H2 D o0) s3 := by
    rw [← e3]
    refine I2.laid (t' := s2.toks) (fun b o e => Heap.get?_push_of_some _ e) (Nat.le_of_eq eD) ?_
    rw [← eD]
    exact bare0_lay b0 I2.big
  have small : ∀ b ∈ fp, b < s2.heap.objs.size := fun b hb => (T.obj _ _ at0 b hb).elim fun o q => Heap.lt_size q.1
  have fp3 : ∀ b ∈ fp, FpOk X pins (upd H2 D o0) b ∧ b < s3.heap.objs.size := fun b hb => by
    have lt := small b hb
    have ne : b ≠ D := Nat.ne_of_lt (eD ▸ lt)
    exact ⟨⟨(upd_ne ne).trans (fpk b hb).1, (fpk b hb).2⟩, size3 ▸ Nat.lt_succ_of_lt lt⟩
  have at3 : tn 0 s3.heap := T.keep _ _ _ at0 fun b _ o e => grow b o e
  have I4 := block_start I3 ok hN fp3
  generalize eC : s3.heap.objs.size = C at I4
  generalize ecl : cellsFrom (C + 1) scope.names (cloFrom X.env.cells scope.names []) = cl at I4
  have pg := hg s3 (upd H2 D o0) C cl fp
  have pt := ht s3 (upd H2 D o0) C cl fp
  have pk := hk s3 (upd H2 D o0) C cl fp
  have pv := he s3 (upd H2 D o0) C cl fp
  have none3 : ∀ b ∈ fp, (upd H2 D o0) b = none := fun b hb => (fp3 b hb).1.1
  have h4s : ∀ b o, s3.heap.get? b = some o → (pushCells (s3.heap.push { cls := .type "dict", data := .dict #[] }) scope.names).get? b = some o := fun b o e => pushCells_keeps _ _ _ _ (Heap.get?_push_of_some _ e)
  rw [e3]
  show codeAny _ _ (.compStart (.DictComp kx vx [⟨tg, iter, ifs, 0⟩] scope pos) 0 (.ref it) (.ref D) (compEnvC scope (cellsFrom (s3.heap.objs.size + 1) scope.names (cloFrom X.env.cells scope.names [])) s3.heap.objs.size X.env)) (compPost (model X.prog X.w) X.A X.xe _ _ (.ref D) s3.heap.objs.size) { s3 with heap := pushCells (s3.heap.push { cls := .type "dict", data := .dict #[] }) scope.names }
  rw [eC, ecl]
  generalize eB : compEnvC scope cl C X.env = B at I4 pg pt pk pv ⊢
  have locB : B.locals = C := eB ▸ rfl
  have at4 : tn 0 (pushCells (s3.heap.push { cls := .type "dict", data := .dict #[] }) scope.names) := T.keep _ _ _ at3 fun b _ o e => h4s b o e
  generalize e4 : ({ s3 with heap := pushCells (s3.heap.push { cls := .type "dict", data := .dict #[] }) scope.names } : Shared) = s4 at I4 ⊢
  have at4 : tn 0 s4.heap := e4 ▸ at4
  -- the iterator's own objects, seen from the block
  have own4 : ∀ {σ' : L2.St} {G : Hp} {s' : Shared}, Inv (X.blk s3 (upd H2 D o0) scope B fp) [] σ' G s' → (∀ b ∈ fp, G b = none) → ∀ b ∈ fp, FpOk (X.blk s3 (upd H2 D o0) scope B fp) [] G b := fun {σ' G s'} J' z b hb =>
    ⟨z b hb, (J'.ok.exf b hb).1, J'.ok.exfs b hb, .inl hb, fun x c e => (J'.ok.exf b hb).2 x c e, fun p hp => by simp [Cx.blk] at hp⟩
  have walk : codeAny (model X.prog X.w) X.A (.compLoop (.DictComp kx vx [⟨tg, iter, ifs, 0⟩] scope pos) 0 (.ref it) (.ref D) B) (compPost (model X.prog X.w) X.A X.xe none (fun v s' => ∃ x H', Inv X pins σ H' s' ∧ RelV x v ∧ Q x H') (.ref D) C) s4 := by
    refine compLoop_anyD (fun n s5 => ∃ i G, Inv (X.blk s3 (upd H2 D o0) scope B fp) [] (wipe σ (own.map (·.2))) G s5 ∧ tn i s5.heap ∧ (∀ b ∈ fp, G b = none) ∧ W i n G) ?_ m0 ⟨0, _, I4, at4, none3, start⟩
    rintro n s5 ⟨i, G, I5, at5, none5, w5⟩
    rcases turns i n G w5 with ⟨over, found⟩ | ⟨more, Nx, next, step⟩
    · -- no further item: the def's own frame again
      refine thnF (T.done (X.blk s3 (upd H2 D o0) scope B fp) rfl rfl rfl calm i [] s5 _ G (fun _ _ => False) I5 (own4 I5 none5) at5 over) fun r s6 fin => ?_
      obtain ⟨rfl, I6⟩ := fin
      have back : Inv X pins σ G s6 := I3.call' (ch := fp) I6.os I6.base I6.hok I6.bare fun b hb => ⟨(fp3 b hb).1.2.2.2.1, (fp3 b hb).1.2.1, (fp3 b hb).1.2.2.2.2.1, (fp3 b hb).1.2.2.2.2.2⟩
      have freeC : G C = none := locB ▸ (show G B.locals = none from I6.free)
      obtain ⟨m, ns, _⟩ := I6.loc
      have nsC : s6.heap.Ns C m := locB ▸ (show s6.heap.Ns B.locals m from ns)
      obtain ⟨f0, f1, f2, f3, f4, f5⟩ := I3.fpOk (Nat.le_of_eq eC) freeC
      exact ⟨m, nsC, fun h9 but => ⟨.ref D, G, back.turned (t' := s6.toks) (fun b o hb e => (but.2 b hb).trans e) f0 f1 f3 f4 f5, rfl, found⟩⟩
    · refine thnF (T.item (X.blk s3 (upd H2 D o0) scope B fp) rfl rfl rfl calm i [] s5 _ G (fun _ _ => False) I5 (own4 I5 none5) at5 more) fun r s6 got => ?_
      obtain ⟨u, rfl, later⟩ := got
      refine thnF later fun _ s7 st => ?_
      obtain ⟨x, G7, I7, rx, y7, at7, none7⟩ := st
      have I8 := I7.pinned (own4 I7 none7) (T.obj _ _ at7)
      refine thnF (pg.run _ s7 _ G7 x u _ I8 rx (step x G7 y7)) fun _ s8 ⟨σ8, G8, I9, same8, q8⟩ => ?_
      -- what the turn leaves
      have goOn : ∀ {s9 : Shared} {G9 : Hp}, Inv (X.blk s3 (upd H2 D o0) scope B fp) ([] ++ pinsAt fp s7.heap) σ8 G9 s9 → Nx G9 → ∃ m, m < n ∧ ∃ j G', Inv (X.blk s3 (upd H2 D o0) scope B fp) [] (wipe σ (own.map (·.2))) G' s9 ∧ tn j s9.heap ∧ (∀ b ∈ fp, G' b = none) ∧ W j m G' := by
        intro s9 G9 J nx
        obtain ⟨m, lt, w9⟩ := next G9 nx
        have stood : ∀ b ∈ fp, ∀ o, s7.heap.get? b = some o → s9.heap.get? b = some o ∧ G9 b = none := fun b hb o e => by
          have z := J.pin (b, o) (List.mem_append_right _ (List.mem_append_right _ (mem_pinsAt hb e)))
          exact ⟨z.1, z.2.1⟩
        have len8 : (wipe σ (own.map (·.2))).length = σ8.length := same8 ▸ wipe_length ..
        refine ⟨m, lt, i + 1, G9, (J.unpinned (pins := [])).weak len8 (fun j v e => (wipe_some (same8.symm ▸ e)).1), T.keep _ _ _ at7 fun b hb o e => (stood b hb o e).1, fun b hb => ?_, w9⟩
        obtain ⟨o, e, _⟩ := T.obj _ _ at7 b hb
        exact (stood b hb o e).2
      refine thnF (pt.run _ s8 σ8 G8 _ I9 q8) fun b s9 ⟨G9, I10, q9⟩ => ?_
      by_cases kept : b = true
      · have q9 : tk σ8 G9 fun y H4 => tv σ8 H4 fun z H5 => ∃ H6, DPut H5 D y z H6 ∧ Nx H6 := by
          have q9 := show (if b = true then _ else _) from q9
          rwa [if_pos kept] at q9
        rw [if_pos kept]
        refine thnF (pk.run _ s9 σ8 G9 _ I10 q9) fun ku s10 ⟨y, G10, I11, ry, q10⟩ => ?_
        refine thnF (pv.run _ s10 σ8 G10 _ I11 q10) fun vu s11 ⟨z, G11, I12, rz, G12, put, nx⟩ => ?_
        exact lay_entry (X := X.blk s3 (upd H2 D o0) scope B fp) hu I12 put ry rz fun s12 I13 => goOn I13 nx
      · have q9 : Nx G9 := by
          have q9 := show (if b = true then _ else _) from q9
          rwa [if_neg kept] at q9
        rw [if_neg kept]
        exact goOn I10 q9
  exact codeAny_compStart_dict walk (T.self X.A 0 _ _ _ at4 walk)
end
end EV
/-! Walks over what is a list or a tuple; enumerate of either; comprehensions of dicts over any walk. -/
namespace EV
open PySem PySem.Spec PyProof.Rows L2
open AutoSeq1 (wpAny_loadPart')
/-- a list (b) or a tuple -/
def Sq (K : PySem.W.Frag) (b : Bool) (H : Hp) (a : Addr) (xs : List V) : Prop := if b = true then SqL K H a xs else SqT K H a xs
def IB (K : PySem.W.Frag) (b : Bool) (a : Addr) : It := if b = true then Itl K a else Itt K a
theorem Sq.any {K : PySem.W.Frag} {b : Bool} {H : Hp} {a : Addr} {xs : List V} (h : Sq K b H a xs) : SqL K H a xs ∨ SqT K H a xs := by
  cases b
  · exact .inr h
  · exact .inl h
theorem Sq.lst {K : PySem.W.Frag} {H : Hp} {a : Addr} {xs : List V} (h : H a = some (.lst xs)) : Sq K true H a xs := SqL.of h
theorem Sq.tup {K : PySem.W.Frag} {H : Hp} {a : Addr} {xs : List V} (h : H a = some (.tup xs)) : Sq K false H a xs := SqT.of h
theorem walk_sq {K : PySem.W.Frag} {b : Bool} {a : Addr} {xs : List V} : Walk (IB K b a) xs.length (fun H => Sq K b H a xs) (YAt xs) := by
  cases b
  · exact walk_tup
  · exact walk_list
def iSeq (K : PySem.W.Frag) (tl : TE) : TI := fun σ H R => tl σ H fun x H1 => ∃ b a xs, x = .ref a ∧ Sq K b H1 a xs ∧ R (IB K b a) H1
section
variable {X : Cx} {tg : Expr}
theorem pi_seq {l : Expr} {tl : TE} (hl : PE X l tl) : PI X tg l (iSeq X.K tl) := by
  refine ⟨fun pins s σ H R I h => thn (hl.run pins s σ H _ I h) fun v s1 got => ?_⟩
  obtain ⟨x, H1, I1, rx, b, a, xs, rfl, hs, q⟩ := got
  obtain rfl : v = Value.ref a := rx
  cases b
  · obtain ⟨its, _, p, _⟩ := I1.tuple hs
    exact wpAny_pyIter_tuple (items := its.toArray) p (pi_one (tk := s1.toks) I1 _ (turn_tuple a _) ⟨_, Heap.get?_push_size _ rfl, rfl, rfl⟩ q)
  · obtain ⟨its, _, p, _⟩ := I1.list hs
    exact wpAny_pyIter_list p.isList (pi_one (tk := s1.toks) I1 _ (turn_list a _) ⟨_, Heap.get?_push_size _ rfl, rfl, rfl⟩ q)
end
/-! ### enumerate(tuple) -/
theorem meets_enumerate_newT (t : Addr) (items : Array Value) (n : Nat) (dct : Option Addr) (sl : Array (Option Value)) :
    Meets (Builtin.«enumerate.__new__» ⟨[.type "enumerate", .ref t], []⟩) (fun _ R s => s.heap.get? t = some { cls := .type "tuple", dict := dct, data := .seq items n, slots := sl } ∧
      R (.ok (.ret (.ref (s.heap.objs.size + 1))))
        { s with heap := (s.heap.push { cls := .type "tuple_iterator", data := .fields #[.ref t, .int 0 0] }).push { cls := .type "enumerate", data := .fields #[.none, .bool false, .ref s.heap.objs.size, rawInt 0, .none, .none] } }) :=
  .of_wp fun prog w A R s h => by
    obtain ⟨hp, g, d, tk, os⟩ := s
    obtain ⟨hl, h⟩ := h
    have two : (Heap.push hp { cls := .type "tuple_iterator", data := .fields #[.ref t, .int 0 0] }).objs.size = hp.objs.size + 1 := Heap.size_push ..
    rw [show (Shared.heap ⟨hp, g, d, tk, os⟩).objs.size + 1 = (Heap.push hp { cls := .type "tuple_iterator", data := .fields #[.ref t, .int 0 0] }).objs.size from two.symm] at h
    have hsub := sub_enumerate
    have hT : Heap.IsTuple (Shared.heap ⟨hp, g, d, tk, os⟩) t items := ⟨_, hl, rfl, n, rfl⟩
    wp_walk using wpAny_loadPart' hl
    refine wpAny_stack_any fun st => wpAny_pure ?_
    split
    · rename_i c _ _ _ _ _
      cases (c == Value.type "enumerate") <;> (wp_walk using wpAny_loadPart' hl, wpAny_pyIter_tuple hT; exact ⟨_, rfl, h⟩)
    · wp_walk using wpAny_loadPart' hl, wpAny_pyIter_tuple hT
      exact ⟨_, rfl, h⟩
section
variable {prog : Program} {w : World} {A : Around} {E : Value → Shared → Prop} {s : Shared}
theorem call_enumerate_tuple {t : Addr} {items : Array Value} {Q : Value → Shared → Prop} (hT : s.heap.IsTuple t items)
    (k : ∀ h', IsEnum h' (s.heap.objs.size + 1) s.heap.objs.size 0 .none → h'.IsTupleIter s.heap.objs.size t 0 → (∀ b o, s.heap.get? b = some o → h'.get? b = some o) → Q (.ref (s.heap.objs.size + 1)) { s with heap := h' }) :
    wpAny (model prog w) A (call (.type "enumerate") [.ref t]) Q E s := by
  obtain ⟨⟨c, dct, dt, sl⟩, at0, hc, n, hd⟩ := hT
  obtain rfl : c = .type "tuple" := hc
  obtain rfl : dt = .seq items n := hd
  have e1 := Heap.get?_push_size (s.heap.push { cls := .type "tuple_iterator", data := .fields #[.ref t, .int 0 0] }) (o := { cls := .type "enumerate", data := .fields #[.none, .bool false, .ref s.heap.objs.size, rawInt 0, .none, .none] }) rfl
  rw [Heap.size_push] at e1
  exact callType_new F.called_enumerate (by decide) (F.typeCall_enumerate_1 _) (F.newCall_enumerate_1 _) (fun obj => F.args_object_init_2 obj _) F.entry_enumerate_new (meets_enumerate_newT t items n dct sl)
    ⟨at0, ⟨_, e1, rfl⟩, k _ e1 ⟨_, Heap.get?_push_of_some _ (Heap.get?_push_size _ rfl), rfl, rfl⟩ fun b o q => Heap.get?_push_of_some _ (Heap.get?_push_of_some _ q)⟩
end
theorem enumT_end {prog : Program} {w : World} {A : Around} {E : Value → Shared → Prop} {s : Shared} {e it t : Addr} {i : Nat} {k : Int} {items : Array Value} {old : Value} {Q : Option Value → Shared → Prop} (hh : A.in1.handled = none) (he : IsEnum s.heap e it k old) (hit : s.heap.IsTupleIter it t i) (ht : s.heap.IsTuple t items) (hx : items[i]? = none)
    (hQ : ∀ h', Heap.ExtBut it s.heap h' → Q none { s with heap := h' }) : wpAny (model prog w) A (pyNext (.ref e)) Q E s := by
  have D : Draws prog w A.in1 it [it, t] i (fun _ _ => True) (fun j h => j = i ∧ h.IsTupleIter it t i ∧ h.IsTuple t items) :=
    { live := fun _ _ st => st.2.1.elim fun o q => ⟨o, q.1⟩
      frame := fun _ _ _ st hk => ⟨st.1, st.2.1.at fun o q => hk it (by simp) o q, st.2.2.at fun o q => hk t (by simp) o q⟩
      item := fun j s Q E lt st _ => absurd lt (by rw [st.1]; exact Nat.lt_irrefl _)
      done := fun s Q E st hE => wpAny_nextOf_tuple_end hh st.2.1 st.2.2 hx hE }
  exact wpAny_pyNext_enum_endD D he ⟨rfl, hit, ht⟩ hQ
def IteT (K : PySem.W.Frag) (a : Addr) : It where
  go i H := ∃ xs x, SqT K H a xs ∧ xs[i]? = some x
  yld i H v H' := ∃ T x, v = .ref T ∧ H T = none ∧ H' = upd H T (.tup [.int (i : Nat), x]) ∧ ∀ xs, SqT K H a xs → xs[i]? = some x
  stop i H := ∃ xs, SqT K H a xs ∧ xs.length ≤ i
def IeB (K : PySem.W.Frag) (b : Bool) (a : Addr) : It := if b = true then Ite K a else IteT K a
theorem walk_enumB {K : PySem.W.Frag} {b : Bool} {a : Addr} {xs : List V} : Walk (IeB K b a) xs.length (fun H => Sq K b H a xs) (YPair (fun i => some (.int (i : Nat))) (fun i => xs[i]?)) := by
  cases b
  · refine ⟨fun i H hi q => ⟨xs, xs[i], q, by simp [hi]⟩, fun H q => ⟨xs, q, Nat.le_refl _⟩, fun i H v H' hi q y => ?_⟩
    obtain ⟨T, x, e1, e2, e3, e4⟩ := y
    exact ⟨T, _, x, e1, e2, e3, rfl, e4 xs q⟩
  · exact walk_enum
theorem turn_enumT {P : Program} {w : World} {K : PySem.W.Frag} {elts : List Expr} {kk : Nat} {tpos : Pos} (a e it : Addr) (hai : a ≠ it) (hae : a ≠ e) :
    Turn P w K (.Tuple elts kk tpos) (IteT K a) [e, it] e (fun i h => (∃ old, IsEnum h e it ((i : Nat) : Int) old) ∧ h.IsTupleIter it a i ∧ e ≠ it) where
  mem := List.mem_cons_self
  obj := fun i h st b hb => by
    obtain ⟨⟨old, he⟩, ⟨o, ho, hc, hd⟩, _⟩ := st
    rcases List.mem_cons.mp hb with rfl | hb
    · exact ⟨_, he, fun v q => nomatch q⟩
    · obtain rfl := List.mem_singleton.mp hb
      exact ⟨o, ho, fun v q => nomatch (hd.symm.trans q)⟩
  keep := fun i h h' st k => by
    obtain ⟨⟨old, he⟩, ⟨o, ho, r⟩, ne⟩ := st
    exact ⟨⟨old, k e (by simp) _ he⟩, ⟨o, k it (by simp) _ ho, r⟩, ne⟩
  item := by
    rintro X rfl rfl rfl calm i pins s σ H E I apart st ⟨xs, x, hq, hx⟩
    obtain ⟨⟨old, he⟩, hit, ne⟩ := st
    obtain ⟨its, rv, p, small⟩ := I.tuple hq
    obtain ⟨u, hu, ru⟩ := rv.get hx
    have el : e < s.heap.objs.size := Heap.lt_size he
    have il : it < s.heap.objs.size := hit.elim fun o q => Heap.lt_size q.1
    have hp : s.heap.IsTuple a its.toArray := p
    have len : i < its.toArray.size := by
      have := (List.getElem?_eq_some_iff.mp hu).1
      simpa using this
    have D := Draws.tuple (prog := X.prog) (w := X.w) (A := X.A.in1) (I.ok.hd calm) it a hai its.toArray
    refine wpAny_pyNext_enum_itemD D he ⟨hit, hp⟩ len ne (by simp [ne, hae.symm]) fun v h' tk hv out st' pair sz keep => ⟨_, rfl, wpAny_letOwnedTupleGo_enum (s := { s with heap := h', toks := tk + 1 }) out fun h'' he' but => ?_⟩
    obtain rfl : v = u := Option.some.inj (hv.symm.trans (by simpa using hu))
    have pair' : h''.get? s.heap.objs.size = some { cls := .type "tuple", data := .seq #[.int i tk, v] } := (but.2 _ (Nat.ne_of_gt el)).trans pair
    have off : ∀ b, b ∉ [e, it] → b ≠ e ∧ b ≠ it := fun b hb => ⟨fun q => hb (by simp [q]), fun q => hb (by simp [q])⟩
    have I1 : Inv X pins σ (upd H s.heap.objs.size (.tup [.int (i : Nat), x])) { s with heap := h'', toks := tk + 1 } :=
      I.turnedNew (ch := [e, it]) (fun b ob hb q => (but.2 b (off b hb).1).trans (keep b ob (off b hb).1 (off b hb).2 q)) apart (Nat.le_refl _) ⟨by show 2 ≤ sizeLine; decide, [.int i tk, v], .cons ⟨_, rfl⟩ (.cons ru .nil), ⟨_, pair', rfl, _, rfl⟩⟩
    obtain ⟨⟨oi, hoi, ri⟩, _⟩ := st'
    have nxt : ((i + 1 : Nat) : Int) = (i : Int) + 1 := by omega
    refine ⟨.ref s.heap.objs.size, _, I1, rfl, ⟨_, x, rfl, I.hok.fresh (Nat.le_refl _), rfl, fun ys hy => ?_⟩, ⟨⟨v, by rw [nxt]; exact he'⟩, ⟨oi, (but.2 it ne.symm).trans hoi, ri⟩, ne⟩, fun b hb => ?_⟩
    · obtain rfl := I.tuple_inj hy hq
      exact hx
    · have lt : b < s.heap.objs.size := by
        rcases List.mem_cons.mp hb with rfl | hb
        · exact el
        · exact List.mem_singleton.mp hb ▸ il
      exact (upd_ne (Nat.ne_of_lt lt)).trans (apart b hb).1
  done := by
    rintro X rfl rfl rfl calm i pins s σ H E I apart st ⟨xs, hq, hx⟩
    obtain ⟨⟨old, he⟩, hit, ne⟩ := st
    obtain ⟨its, rv, p, small⟩ := I.tuple hq
    have hp : s.heap.IsTuple a its.toArray := p
    have none : its.toArray[i]? = none := by
      have l := rv.length
      rw [List.getElem?_toArray]
      exact List.getElem?_eq_none (by omega)
    have hd : X.A.in1.handled = .none := I.ok.hd calm
    obtain ⟨f0, f1, f2, f3, f4, f5⟩ := apart it (by simp)
    refine enumT_end hd he hit hp none fun h' eb => ⟨rfl, I.turned (t' := s.toks) (fun b o hb q => eb b o hb q) f0 f1 f3 f4 f5⟩
  self := fun A i s Q E st h => st.1.elim fun _ he => wpAny_pyIter_enum he h
def iEnumB (K : PySem.W.Frag) (ta : TA) : TI := fun σ H R => ta σ H fun vs H1 => ∃ b a xs, vs = [.ref a] ∧ Sq K b H1 a xs ∧ R (IeB K b a) H1
theorem pi_enumB {X : Cx} {e : Expr} {ta : TA} {p pos tpos : Pos} {elts : List Expr} {kk : Nat} (hg : Gl X "enumerate") (hm : X.mg "enumerate" = none) (ha : PA X [e] ta) (one : starEach [e] X.env = [(false, eval e X.env)] := by rfl) :
    PI X (.Tuple elts kk tpos) (.Call (.Name "enumerate" p) [e] [] pos) (iEnumB X.K ta) := by
  refine ⟨fun pins s σ H R I h => Call_ (ld_blt I hg hm boot_enumerate (PyProof.Rows.callWith_type1 (thn (ha.run pos pins s σ H _ I h) fun us s1 got => ?_) one rfl))⟩
  obtain ⟨vs, H1, I1, r1, b, a, xs, rfl, hs, q⟩ := got
  obtain ⟨u, rfl, ru⟩ : ∃ u, us = [u] ∧ RelV (.ref a) u := by
    cases r1 with
    | cons r rr => cases rr; exact ⟨_, rfl, r⟩
  obtain rfl : u = Value.ref a := ru
  have young : ∀ b ∈ [s1.heap.objs.size + 1, s1.heap.objs.size], s1.heap.objs.size ≤ b := fun b hb => by
    rcases List.mem_cons.mp hb with rfl | hb
    · exact Nat.le_add_right _ _
    · exact Nat.le_of_eq (List.mem_singleton.mp hb).symm
  have fp : ∀ b ∈ [s1.heap.objs.size + 1, s1.heap.objs.size], FpOk X pins H1 b := fun b hb => I1.fpOk (young b hb) (I1.hok.fresh (young b hb))
  cases b
  · obtain ⟨its, _, p, _⟩ := I1.tuple hs
    have hp : s1.heap.IsTuple a its.toArray := p
    have la : a < s1.heap.objs.size := hp.elim fun o q => Heap.lt_size q.1
    refine call_enumerate_tuple hp fun h' he hit keep => wpAny_pyIter_enum he ⟨s1.heap.objs.size + 1, _, _, _, H1, rfl, I1.kept (t' := s1.toks) keep, turn_enumT a (s1.heap.objs.size + 1) s1.heap.objs.size (Nat.ne_of_lt la) (Nat.ne_of_lt (Nat.lt_succ_of_lt la)), ⟨⟨.none, he⟩, hit, Nat.succ_ne_self _⟩, fp, q⟩
  · obtain ⟨its, _, p, _⟩ := I1.list hs
    exact call_enumerate_list p.isList fun h' he hit _ keep => wpAny_pyIter_enum he ⟨s1.heap.objs.size + 1, _, _, _, H1, rfl, I1.kept (t' := s1.toks) keep, turn_enum a (s1.heap.objs.size + 1) s1.heap.objs.size, ⟨⟨.none, he⟩, hit, Nat.succ_ne_self _⟩, fp, q⟩
/-- a comprehension of a dict over any walk -/
theorem dc_it {J : It} {n : Nat} {G : Hp → Prop} {Y : Nat → Hp → V → Hp → Prop} (w : Walk J n G Y) {g : TG} {tt : TT} {tk tv : TE} {vs : List Nat} {σ : L2.St} {H1 : Hp} {D : Addr} {o0 : HO} {Qd : Hp → Prop} (Pv : Nat → Hp → Prop) (start : Pv 0 (upd H1 D o0)) (stay : ∀ i H, i ≤ n → Pv i H → G H)
    (turn : ∀ i x H H', i < n → Pv i H → Y i H x H' → turnP D g tt tk tv vs σ (Pv (i + 1)) x H') (fin : ∀ H, Pv n H → Qd H) :
    ∃ W : Nat → Nat → Hp → Prop, (∃ m, W 0 m (upd H1 D o0)) ∧ ∀ i m H2, W i m H2 → (J.stop i H2 ∧ Qd H2) ∨ (J.go i H2 ∧ ∃ Nx : Hp → Prop, (∀ H3, Nx H3 → ∃ m', m' < m ∧ W (i + 1) m' H3) ∧ ∀ x H3, J.yld i H2 x H3 → turnP D g tt tk tv vs σ Nx x H3) := by
  refine ⟨fun i m H => i + m = n ∧ Pv i H, ⟨n, Nat.zero_add n, start⟩, fun i m H st => ?_⟩
  obtain ⟨sum, pv⟩ := st
  have g := stay i H (by omega) pv
  match m, sum with
  | 0, sum =>
    obtain rfl : i = n := sum
    exact .inl ⟨w.stops H g, fin H pv⟩
  | m + 1, sum => exact .inr ⟨w.goes i H (by omega) g, Pv (i + 1), fun H3 p3 => ⟨m, Nat.lt_succ_self m, by omega, p3⟩, fun x H3 y => turn i x H H3 (by omega) pv (w.yields i H x H3 (by omega) g y)⟩
end EV
namespace K6
open PySem PySem.Spec PyProof.Rows L2 LamX NdefX EV
def top (i : Nat) : Stmt := PySem.Challenge.pw_lastopen_k03_rules_refused.main.body.getD i (.Pass ⟨0, 0, 0, 0⟩)
abbrev sDraw : Stmt := top 33
abbrev sPick : Stmt := top 34
abbrev sMixed : Stmt := top 35
abbrev sSame : Stmt := top 36
abbrev sFresh : Stmt := top 37
abbrev sNames : Stmt := top 38
abbrev sNeg : Stmt := top 39
abbrev sBare : Stmt := top 40
abbrev sFulls : Stmt := top 41
abbrev sHalf : Stmt := top 42
abbrev sSided : Stmt := top 43
abbrev sOdd : Stmt := top 44
abbrev sLisName : Stmt := top 45
abbrev sFirstBad : Stmt := top 46
abbrev sFirstOdd : Stmt := top 47
abbrev sSpoiled : Stmt := top 48
abbrev sEnd : Stmt := top 49
abbrev sDue : Stmt := top 50
abbrev sLaw : Stmt := top 51
abbrev sIsName : Stmt := top 11
abbrev sIsList : Stmt := top 12
abbrev sNameOf : Stmt := top 13
abbrev sOpp : Stmt := top 14
abbrev sChkNames : Stmt := top 15
abbrev sChkCount : Stmt := top 16
abbrev sJoin : Stmt := top 17
abbrev sLits : Stmt := top 18
abbrev sPlaces : Stmt := top 19
abbrev sInOrder : Stmt := top 20
abbrev sWrong : Stmt := top 21
abbrev sIsClause : Stmt := top 22
abbrev sIsFull : Stmt := top 23
abbrev sChkSetting : Stmt := top 24
abbrev sFullSettings : Stmt := top 25
abbrev sChkSign : Stmt := top 28
abbrev sAllows : Stmt := top 29
abbrev sTurnRow : Stmt := top 30
abbrev sRowWithout : Stmt := top 31
/-! ### the stream of draws: at S a list of the cells' list at L, the digits' cell, the number of draws, the mixed number -/
def StreamAt (H : Hp) (S L : Addr) (c : Nat) : Prop := ∃ (ns : List Int) (a m : Int), H S = some (.lst [.ref L, .int a, .int (c : Int), .int m]) ∧ H L = some (.lst (ns.map V.int)) ∧ 0 ≤ a ∧ 0 ≤ m ∧ m < 2147483647 ∧ ns.length ≤ 63
theorem StreamAt.ne {H : Hp} {S L : Addr} {c : Nat} (h : StreamAt H S L c) : S ≠ L := by
  obtain ⟨ns, a, m, h1, h2, _⟩ := h
  refine ne_of h1 h2 fun z => ?_
  cases ns with
  | nil => cases z
  | cons n r => cases z
/-- all but the two objects of the stream stay -/
def Kept (S L : Addr) (H H' : Hp) : Prop := ∀ b o, H b = some o → b ≠ S → b ≠ L → H' b = some o
theorem Kept.refl {S L : Addr} (H : Hp) : Kept S L H H := fun _ _ h _ _ => h
theorem Kept.trans {S L : Addr} {H H1 H2 : Hp} (a : Kept S L H H1) (b : Kept S L H1 H2) : Kept S L H H2 := fun x o h h1 h2 => b x o (a x o h h1 h2) h1 h2
/-- a draw: a number from 0 to many - 1 -/
def spDraw : Sp := fun vs H Q _ => ∃ (S L : Addr) (many : Int) (c : Nat), vs = [.ref S, .int many] ∧ 0 < many ∧ many ≤ 1000 ∧ c ≤ 100000 ∧ StreamAt H S L c ∧
  ∀ (r : Int) (H' : Hp), 0 ≤ r → r < many → StreamAt H' S L (c + 1) → Kept S L H H' → Q (.int r) H'
section
variable {P : Program} {w : World} {K : PySem.W.Frag} {mg : Str → Option Value} {base : Heap}
theorem scDraw : FnScope ["_law_stream", "_law_many", "_law_digit", "_law_mixed_here"] ["_law_stream", "_law_many"] (defScope sDraw) := ⟨rfl, rfl, rfl, by decide +kernel, rfl, by decide +kernel, by decide +kernel⟩
theorem dp_ints {H : Hp} : ∀ ns : List Int, DpAll K H (ns.map V.int) (ns.map PyData.int)
  | [] => .nil
  | n :: r => .cons (.int n) (dp_ints r)
theorem lay_ints : ∀ ns : List Int, PyData.canLayAll0 (ns.map PyData.int) = true ∧ PyData.depthAll (ns.map PyData.int) ≤ 2
  | [] => ⟨rfl, Nat.zero_le _⟩
  | n :: r => by
    obtain ⟨h1, h2⟩ := lay_ints r
    refine ⟨?_, ?_⟩
    · simp only [List.map_cons, PyData.canLayAll0, PyData.canLay0, h1, Bool.and_self]
    · simp only [List.map_cons, PyData.depthAll, PyData.depth]
      omega
theorem shaped_ints (ns : List Int) : SeqAt.shaped (.list (ns.map PyData.int)) = true := by
  obtain ⟨h1, h2⟩ := lay_ints ns
  refine Bool.and_eq_true_iff.mpr ⟨?_, decide_eq_true ?_⟩
  · simp only [PyData.canLay0, h1]
  · simp only [PyData.depth]
    omega
theorem eqv_nil : ∀ ns : List Int, PyData.eqv (.list (ns.map PyData.int)) (.list []) = decide (ns = [])
  | [] => rfl
  | n :: r => by simp [PyData.eqv, PyData.eqvAll]
theorem ok_draw {f : Addr} {fd : FuncData} (F : Fun K "_law_draw" "_law_draw" sDraw f fd) (mi : mg "int" = none) : FnOk P w K mg base CX0 1 f fd ["_law_stream", "_law_many"] spDraw := by
  refine F.ok scDraw (fun vs H Q E h => ?_) (fun cdv A outer s H vs Q E hr h => ?_)
  · obtain ⟨S, L, many, c, rfl, _⟩ := h
    rfl
  · obtain ⟨S, L, many, c, rfl, m0, m1, hc, ⟨ns, a, m, hS, hL, a0, h0, h1, hn⟩, k⟩ := h
    have hu := hu_of hr
    have nSL : S ≠ L := StreamAt.ne ⟨ns, a, m, hS, hL, a0, h0, h1, hn⟩
    -- what stands behind the first if
    obtain ⟨tt, htt, hrest⟩ : ∃ tt, PSs (cxOf CX0 P w K mg base ["_law_stream", "_law_many", "_law_digit", "_law_mixed_here"] "_law_draw" (defScope sDraw) f cdv A outer s H E).nox ((defBody sDraw).drop 2) tt ∧
        ∀ (ns : List Int) (a m : Int) (H1 : Hp), H1 S = some (.lst [.ref L, .int a, .int ((c : Int) + 1), .int m]) → H1 L = some (.lst (ns.map V.int)) → 0 ≤ a → 0 ≤ m → m < 2147483647 → ns.length ≤ 63 → Kept S L H H1 →
          tt { nx := fun _ H' => Q .non H', rt := Q } [some (.ref S), some (.int many), none, none] H1 := by
      refine ⟨_, pss_cons (ps_if (pt_cmpR op_gt (pe_ix ix_list (pv 0) pe_int (fun _ _ => rfl)) pe_int (nomark _))
        (pss_cons (ps_set (i := 2) scDraw.nd rfl (.inl rfl) (pe_op op_modN (pe_callTy call_int1 (by rfl) mi (by decide +kernel) (pa_cons (pe_ix ix_list (pv 0) pe_int (fun _ _ => rfl)) pa_nil)) (pv 1)))
        (pss_cons (ps_asg (pe_op op_fdivN (pe_ix ix_list (pv 0) pe_int (fun _ _ => rfl)) (pv 1)) (pg_sub (pv 0) pe_int set_list))
        (pss_one (ps_ret (pv 2))))) pss_nil)
        (pss_cons (ps_set (i := 3) scDraw.nd rfl (.inl rfl) (pe_op op_mod (pe_op op_pow (pe_op op_add (pe_op op_add (pe_ix ix_list (pv 0) pe_int (fun _ _ => rfl)) (pe_op op_mul pe_int (pe_ix ix_list (pv 0) pe_int (fun _ _ => rfl)))) pe_int) pe_int) pe_int))
        (pss_one (ps_ret (pe_op op_modN (pe_op op_mod (pe_op op_pow (pe_op op_add (pe_op op_add (pe_op op_mul (pv 3) pe_int) (pe_op op_mul (pe_op op_mul pe_int (pe_ix ix_list (pv 0) pe_int (fun _ _ => rfl))) (pe_ix ix_list (pv 0) pe_int (fun _ _ => rfl)))) pe_int) pe_int) pe_int) (pv 1))))), fun ns a m H1 hS hL a0 h0 h1 hn hk => ?_⟩
      refine ⟨_, rfl, S, _, 1, _, rfl, rfl, SqL.of hS, rfl, _, _, rfl, rfl, _, rfl, ?_⟩
      refine ite2 (fun hp => ?_) (fun hp => ?_)
      · have ha : 0 < a := by simpa using hp
        refine ⟨_, rfl, S, _, 1, _, rfl, rfl, SqL.of hS, rfl, .inl ⟨_, rfl, _, rfl, _, _, rfl, rfl, (by omega), ?_⟩⟩
        refine ⟨_, rfl, S, _, 1, _, rfl, rfl, SqL.of hS, rfl, _, rfl, _, _, rfl, rfl, ⟨(by omega), (by omega)⟩, _, rfl, S, _, 1, 1, rfl, rfl, hS, rfl, _, rfl, ?_⟩
        have r0 := Int.fmod_nonneg_of_pos a m0
        have r1 := Int.fmod_lt_of_pos a m0
        refine k _ _ r0 r1 ⟨ns, a.fdiv many, m, upd_same, (upd_ne nSL.symm).trans hL, Int.fdiv_nonneg a0 (by omega), h0, h1, hn⟩ fun b o e n1 n2 => (upd_ne n1).trans (hk b o e n1 n2)
      · refine ⟨_, rfl, S, _, 3, _, rfl, rfl, SqL.of hS, rfl, _, rfl, S, _, 2, _, rfl, rfl, SqL.of hS, rfl, _, _, rfl, rfl, .inl ⟨(by decide), (by decide)⟩, _, _, rfl, rfl, _, _, rfl, rfl, _, _, rfl, rfl, ⟨(by decide), (by decide), ?_⟩, _, _, rfl, rfl, (by show (0 : Int) < 2147483629; decide), ?_⟩
        · show (m + 104729 * ((c : Int) + 1) + 17).natAbs < 2 ^ 64
          omega
        have g0 := Int.emod_nonneg ((m + 104729 * ((c : Int) + 1) + 17) ^ (5 : Int).toNat) (show (2147483629 : Int) ≠ 0 by decide)
        have g1 := Int.emod_lt_of_pos ((m + 104729 * ((c : Int) + 1) + 17) ^ (5 : Int).toNat) (show (0 : Int) < 2147483629 by decide)
        have hcc : ((c : Int) + 1) * ((c : Int) + 1) ≤ 100001 * 100001 := Int.mul_le_mul (by omega) (by omega) (by omega) (by omega)
        have hc0 : 0 ≤ ((c : Int) + 1) * ((c : Int) + 1) := Int.mul_nonneg (by omega) (by omega)
        have hca : 40503 * ((c : Int) + 1) * ((c : Int) + 1) = 40503 * (((c : Int) + 1) * ((c : Int) + 1)) := Int.mul_assoc ..
        refine ⟨_, rfl, _, _, rfl, rfl, .inl ⟨(by omega), (by omega)⟩, _, rfl, S, _, 2, _, rfl, rfl, SqL.of hS, rfl, _, _, rfl, rfl, .inl ⟨(by decide), (by decide)⟩, _, rfl, S, _, 2, _, rfl, rfl, SqL.of hS, rfl, _, _, rfl, rfl, .inl ⟨(by show -(2 ^ 64) < 40503 * ((c : Int) + 1); omega), (by show 40503 * ((c : Int) + 1) < 2 ^ 64; omega)⟩,
          _, _, rfl, rfl, _, _, rfl, rfl, _, _, rfl, rfl, ⟨(by decide), (by decide), ?_⟩, _, _, rfl, rfl, (by show (0 : Int) < 1000000007; decide), _, rfl, _, _, rfl, rfl, (by omega), ?_⟩
        · show ((m + 104729 * ((c : Int) + 1) + 17) ^ (5 : Int).toNat % 2147483629 * 48271 + 40503 * ((c : Int) + 1) * ((c : Int) + 1) + 13).natAbs < 2 ^ 64
          rw [hca]
          generalize ((m + 104729 * ((c : Int) + 1) + 17) ^ (5 : Int).toNat) % 2147483629 = y at g0 g1 ⊢
          omega
        exact k _ _ (Int.fmod_nonneg_of_pos _ m0) (Int.fmod_lt_of_pos _ m0) ⟨ns, a, m, hS, hL, a0, h0, h1, hn⟩ hk
    refine ⟨_, pss_cons (ps_asg (pe_op op_add (pe_ix ix_list (pv 0) pe_int (fun _ _ => rfl)) pe_int) (pg_sub (pv 0) pe_int set_list))
      (pss_cons (ps_if (PW.pt (pw_and (pt_cmpR op_eq (pe_ix ix_list (pv 0) pe_int (fun _ _ => rfl)) pe_int (nomark _)) (pw_and1 (pt_cmpR (op_neD hr.units) (pe_ix ix_list (pv 0) pe_int (fun _ _ => rfl)) (pe_lst pa_nil) (nomark _)))))
        (pss_cons (ps_asg (pe_bm PySem.F.plainAttrs_list PySem.F.slot_list_pop PySem.F.type_list_pop mt_popAt (pe_ix ix_list (pv 0) pe_int (fun _ _ => rfl)) (pa_cons pe_int pa_nil)) (pg_sub (pv 0) pe_int set_list))
        (pss_one (ps_if (pt_cmpR op_lt (pe_ix ix_list (pv 0) pe_int (fun _ _ => rfl)) (pe_op op_pow pe_int pe_int) (nomark _))
          (pss_cons (ps_asg (pe_op op_mod (pe_callTy call_int1 (by rfl) mi (by decide +kernel) (pa_cons (pe_op op_add (pe_op op_add (pe_op op_mul (pe_ix ix_list (pv 0) pe_int (fun _ _ => rfl)) pe_int) (pe_ix ix_list (pv 0) pe_int (fun _ _ => rfl))) pe_int) pa_nil)) pe_int) (pg_sub (pv 0) pe_int set_list))
          (pss_one (ps_asg pe_int (pg_sub (pv 0) pe_int set_list)))) pss_nil))) pss_nil) htt), ?_⟩
    refine ⟨_, rfl, S, _, 2, _, rfl, rfl, SqL.of hS, rfl, _, _, rfl, rfl, _, rfl, S, _, 2, 2, rfl, rfl, hS, rfl, ?_⟩
    have hS1 : upd H S (.lst [.ref L, .int a, .int ((c : Int) + 1), .int m]) S = some (.lst [.ref L, .int a, .int ((c : Int) + 1), .int m]) := upd_same
    have hL1 : upd H S (.lst [.ref L, .int a, .int ((c : Int) + 1), .int m]) L = some (.lst (ns.map V.int)) := (upd_ne nSL.symm).trans hL
    have hK1 : Kept S L H (upd H S (.lst [.ref L, .int a, .int ((c : Int) + 1), .int m])) := fun b o e n1 n2 => (upd_ne n1).trans e
    refine ⟨_, rfl, S, _, 1, _, rfl, rfl, SqL.of hS1, rfl, rfl, _, rfl, ?_⟩
    refine ite2 (fun he => ?_) (fun _ => hrest ns a m _ hS1 hL1 a0 h0 h1 hn hK1)
    -- the second half of the test: is the cells' list empty
    refine ⟨_, rfl, S, _, 0, _, rfl, rfl, SqL.of hS1, rfl, (by show 0 ≤ sizeLine; exact Nat.zero_le _), fun p hp => ?_⟩
    have nSp : S ≠ p := ne_of_none hS1 hp
    have nLp : L ≠ p := ne_of_none hL1 hp
    refine ⟨_, _, .lst (SqL.of ((upd_ne nLp).trans hL1)) (dp_ints ns), .lst (SqL.of upd_same) .nil, shaped_ints ns, rfl, _, rfl, ?_⟩
    have hS2 := (upd_ne (H := upd H S (.lst [.ref L, .int a, .int ((c : Int) + 1), .int m])) (o := HO.lst []) nSp).trans hS1
    have hL2 := (upd_ne (H := upd H S (.lst [.ref L, .int a, .int ((c : Int) + 1), .int m])) (o := HO.lst []) nLp).trans hL1
    have hK2 : Kept S L H (upd (upd H S (.lst [.ref L, .int a, .int ((c : Int) + 1), .int m])) p (.lst [])) := fun b o e n1 n2 => (upd_ne (ne_of_none (hK1 b o e n1 n2) hp)).trans (hK1 b o e n1 n2)
    rw [eqv_nil]
    cases ns with
    | nil => exact iteF (hrest [] a m _ hS2 hL2 a0 h0 h1 hn hK2)
    | cons z zs =>
      refine iteT ?_
      have hz : zs.length ≤ 62 := by rw [List.length_cons] at hn; omega
      -- the first cell is taken out and looked at
      refine ⟨_, rfl, S, _, 0, _, rfl, rfl, SqL.of hS2, rfl, .inl ⟨rfl, _, SqL.of hL2⟩, L, _, 0, 0, _, rfl, rfl, hL2, (by decide), (by decide), (by rw [List.length_map, List.length_cons]; unfold seqIndex?; simp), rfl, _, rfl, S, _, 1, 1, rfl, rfl, (upd_ne nSL).trans hS2, rfl, ?_⟩
      have hS3 : ∀ (H9 : Hp) (o : HO), upd H9 S o S = some o := fun _ _ => upd_same
      have hL3 : ∀ (H9 : Hp) (o o' : HO), upd (upd H9 L o) S o' L = some o := fun _ _ _ => (upd_ne nSL.symm).trans upd_same
      have hK3 : ∀ (o o' : HO), Kept S L H (upd (upd (upd (upd H S (.lst [.ref L, .int a, .int ((c : Int) + 1), .int m])) p (.lst [])) L o) S o') := fun o o' b u e n1 n2 => (upd_ne n1).trans ((upd_ne n2).trans (hK2 b u e n1 n2))
      refine ⟨_, rfl, S, _, 1, _, rfl, rfl, SqL.of (hS3 _ _), rfl, _, _, rfl, rfl, ⟨(by decide), (by decide), (by decide)⟩, _, _, rfl, rfl, _, rfl, ?_⟩
      refine ite2 (fun hlt => ?_) (fun hge => ?_)
      · refine ⟨_, rfl, S, _, 3, _, rfl, rfl, SqL.of (hS3 _ _), rfl, _, _, rfl, rfl, .inl ⟨(by omega), (by omega)⟩, _, rfl, S, _, 1, _, rfl, rfl, SqL.of (hS3 _ _), rfl, _, _, rfl, rfl, _, _, rfl, rfl, .inl ⟨_, rfl, _, _, rfl, rfl, (by show (0 : Int) < 2147483647; decide), _, rfl, S, _, 3, 3, rfl, rfl, hS3 _ _, rfl, _, rfl, S, _, 1, 1, rfl, rfl, hS3 _ _, rfl, ?_⟩⟩
        exact hrest zs 0 ((m * 31 + z + 7) % 2147483647) _ upd_same ((upd_ne nSL.symm).trans ((upd_ne nSL.symm).trans (hL3 _ _ _))) (by decide) (Int.emod_nonneg _ (by decide)) (Int.emod_lt_of_pos _ (by decide)) (by omega) fun b u e n1 n2 => (upd_ne n1).trans ((upd_ne n1).trans (hK3 _ _ b u e n1 n2))
      · have h9 : (10 : Int) ^ (18 : Int).toNat ≤ z := Int.not_lt.mp fun q => hge (decide_eq_true q)
        have e9 : (10 : Int) ^ (18 : Int).toNat = 1000000000000000000 := by decide
        exact hrest zs z m _ upd_same (hL3 _ _ _) (by omega) h0 h1 (by omega) (hK3 _ _)
end
/-! ### picks -/
def spPickL (K : PySem.W.Frag) : Sp := fun vs H Q _ => ∃ (S L T : Addr) (xs : List V) (c : Nat), vs = [.ref S, .ref T] ∧ SqL K H T xs ∧ (∀ H', Kept S L H H' → SqL K H' T xs) ∧ 0 < xs.length ∧ xs.length ≤ 1000 ∧ c ≤ 100000 ∧ StreamAt H S L c ∧
  ∀ (i : Nat) (v : V) (H' : Hp), xs[i]? = some v → StreamAt H' S L (c + 1) → Kept S L H H' → Q v H'
def spPickS : Sp := fun vs H Q _ => ∃ (S L : Addr) (z : Str) (c : Nat), vs = [.ref S, .str z] ∧ 0 < z.length ∧ z.length ≤ 1000 ∧ c ≤ 100000 ∧ StreamAt H S L c ∧
  ∀ (i : Nat) (ch : Nat) (H' : Hp), z.cps.toList[i]? = some ch → StreamAt H' S L (c + 1) → Kept S L H H' → Q (.str ⟨#[ch]⟩) H'
section
variable {P : Program} {w : World} {K : PySem.W.Frag} {mg : Str → Option Value} {base : Heap}
theorem scPick : FnScope ["_law_stream", "_law_things"] ["_law_stream", "_law_things"] (defScope sPick) := ⟨rfl, rfl, rfl, by decide +kernel, rfl, by decide +kernel, by decide +kernel⟩
theorem at_in {α : Type} {xs : List α} {r : Int} (h0 : 0 ≤ r) (h1 : r < xs.length) : ∃ v, xs[r.toNat]? = some v ∧ atI xs r = some v := by
  have hl : r.toNat < xs.length := by omega
  refine ⟨xs[r.toNat], List.getElem?_eq_getElem hl, ?_⟩
  have z := atI_nat (List.getElem?_eq_getElem hl)
  rwa [Int.toNat_of_nonneg h0] at z
variable {f fD : Addr} {fd fdD : FuncData}
theorem ok_pickL (F : Fun K "_law_pick" "_law_pick" sPick f fd) (GD : FnOk P w K mg base CX0 1 fD fdD ["_law_stream", "_law_many"] spDraw) (mD : mg "_law_draw" = some (.ref fD)) (kD : PySem.W.keepIn K (.ref fD) = true) (bD : L2.Binds K fdD ["_law_stream", "_law_many"] []) (ml : mg "len" = none) :
    FnOk P w K mg base CX0 2 f fd ["_law_stream", "_law_things"] (spPickL K) := by
  refine F.ok scPick (fun vs H Q E h => ?_) (fun cdv A outer s H vs Q E hr h => ?_)
  · obtain ⟨S, L, T, xs, c, rfl, _⟩ := h
    rfl
  · obtain ⟨S, L, T, xs, c, rfl, hT, hT', x0, x1, hc, hS, k⟩ := h
    refine ⟨_, pss_one (ps_ret (pe_ix ix_seq (pv 1) (pe_call GD hr (by rfl) mD kD bD .nil pass0 (pa_cons (pv 0) (pa_cons (pe_callB call_len (by rfl) ml PySem.boot_len (pa_cons (pv 1) pa_nil)) pa_nil))) (fun _ _ => rfl))), ?_⟩
    refine ⟨_, rfl, _, rfl, _, rfl, _, xs.length, rfl, .inl ⟨xs, hT, rfl⟩, S, L, _, c, rfl, by omega, by omega, hc, hS, fun r H' r0 r1 hS' hk => ?_⟩
    obtain ⟨v, e1, e2⟩ := at_in r0 r1
    exact .inl ⟨T, xs, r, v, rfl, rfl, hT' H' hk, e2, k _ v H' e1 hS' hk⟩
theorem ok_pickS (F : Fun K "_law_pick" "_law_pick" sPick f fd) (GD : FnOk P w K mg base CX0 1 fD fdD ["_law_stream", "_law_many"] spDraw) (mD : mg "_law_draw" = some (.ref fD)) (kD : PySem.W.keepIn K (.ref fD) = true) (bD : L2.Binds K fdD ["_law_stream", "_law_many"] []) (ml : mg "len" = none) :
    FnOk P w K mg base CX0 2 f fd ["_law_stream", "_law_things"] spPickS := by
  refine F.ok scPick (fun vs H Q E h => ?_) (fun cdv A outer s H vs Q E hr h => ?_)
  · obtain ⟨S, L, z, c, rfl, _⟩ := h
    rfl
  · obtain ⟨S, L, z, c, rfl, x0, x1, hc, hS, k⟩ := h
    refine ⟨_, pss_one (ps_ret (pe_ix ix_seq (pv 1) (pe_call GD hr (by rfl) mD kD bD .nil pass0 (pa_cons (pv 0) (pa_cons (pe_callB call_len (by rfl) ml PySem.boot_len (pa_cons (pv 1) pa_nil)) pa_nil))) (fun _ _ => rfl))), ?_⟩
    have hz : z.length ≤ sizeLine := by rw [sizeLine_eq]; omega
    refine ⟨_, rfl, _, rfl, _, rfl, _, z.length, rfl, ⟨hz, rfl⟩, S, L, _, c, rfl, by omega, by omega, hc, hS, fun r H' r0 r1 hS' hk => ?_⟩
    obtain ⟨ch, e1, e2⟩ := at_in (xs := z.cps.toList) r0 (by rw [Array.length_toList]; exact r1)
    exact .inr (.inr ⟨z, r, ch, rfl, rfl, hz, e2, k _ ch H' e1 hS' hk⟩)
/-! ### the same shown text -/
def spSame (K : PySem.W.Frag) : Sp := fun vs H Q _ => ∃ (x y : V) (d : PyData), vs = [x, y] ∧ Dq K H x d ∧ Dq K H y d ∧ d.showable = true ∧ d.shown.length ≤ sizeLine ∧ d.depth ≤ 60 ∧ Q (.bl true) H
theorem scSame : FnScope ["_law_found", "_law_due_here"] ["_law_found", "_law_due_here"] (defScope sSame) := ⟨rfl, rfl, rfl, by decide +kernel, rfl, by decide +kernel, by decide +kernel⟩
theorem ok_same (F : Fun K "_law_same" "_law_same" sSame f fd) (mr : mg "repr" = none) : FnG P w K mg base 1 f fd ["_law_found", "_law_due_here"] (spSame K) := by
  refine fng_of F scSame (fun vs H Q E h => ?_) (fun cdv A outer s H vs Q E hg hr h => ?_)
  · obtain ⟨x, y, d, rfl, _⟩ := h
    rfl
  · obtain ⟨x, y, d, rfl, hx, hy, h1, h2, h3, k⟩ := h
    refine ⟨_, pss_one (ps_ret (pe_cmpR op_eq (pe_callB (call_reprD hg hr.units) (by rfl) mr (by decide +kernel) (pa_cons (pv 0) pa_nil)) (pe_callB (call_reprD hg hr.units) (by rfl) mr (by decide +kernel) (pa_cons (pv 1) pa_nil)) (nomark _))), ?_⟩
    refine ⟨_, rfl, _, d, rfl, hx, h1, h2, h3, _, rfl, _, d, rfl, hy, h1, h2, h3, rfl, ?_⟩
    show Q (.bl (decide (V.str d.shown = V.str d.shown))) H
    rw [decide_eq_true rfl]
    exact k
end
end K6
namespace K6
open PySem PySem.Spec PyProof.Rows L2 LamX NdefX EV
theorem StreamAt.new {H : Hp} {S L p : Addr} {c : Nat} {o : HO} (h : StreamAt H S L c) (hp : H p = none) : StreamAt (upd H p o) S L c := by
  obtain ⟨ns, a, m, e1, e2, r⟩ := h
  exact ⟨ns, a, m, (upd_ne (ne_of_none e1 hp)).trans e1, (upd_ne (ne_of_none e2 hp)).trans e2, r⟩
theorem StreamAt.off {H : Hp} {S L p : Addr} {c : Nat} (h : StreamAt H S L c) (hp : H p = none) : p ≠ S ∧ p ≠ L := by
  obtain ⟨ns, a, m, e1, e2, r⟩ := h
  exact ⟨(ne_of_none e1 hp).symm, (ne_of_none e2 hp).symm⟩
theorem StreamAt.put {H : Hp} {S L p : Addr} {c : Nat} {o : HO} (h : StreamAt H S L c) (n1 : p ≠ S) (n2 : p ≠ L) : StreamAt (upd H p o) S L c := by
  obtain ⟨ns, a, m, e1, e2, r⟩ := h
  exact ⟨ns, a, m, (upd_ne n1.symm).trans e1, (upd_ne n2.symm).trans e2, r⟩
theorem Kept.new {S L p : Addr} {H H' : Hp} {o : HO} (k : Kept S L H H') (hp : H p = none) : Kept S L H (upd H' p o) := fun b u e n1 n2 => (upd_ne (ne_of_none e hp)).trans (k b u e n1 n2)
theorem Kept.none {S L p : Addr} {H H' : Hp} (k : Kept S L H H') (h : H' p = none) (n1 : p ≠ S) (n2 : p ≠ L) : H p = none := by
  cases e : H p with
  | none => rfl
  | some o =>
    have z := k p o e n1 n2
    rw [h] at z
    exact nomatch z
section
variable {X : Cx} {Kf : PySem.W.Frag} {T name id : String} {o e : Expr} {es : List Expr} {apos cpos : Pos} {to : TE} {t : TA} {r : List V → Hp → VK → Prop}
/-- as the library's rules, the fragment named: so they serve within a comprehension's block -/
theorem len_k (hK : X.K = Kf := by rfl) : CallR X (.builtin "len") (fun xs H Q => ∃ x n, xs = [x] ∧ LenV Kf x H n ∧ Q (.int n) H) := by
  subst hK
  exact call_len
end
theorem seq_at {r : Int} {n : Nat} (h0 : 0 ≤ r) (h1 : r < n) : seqIndex? r n = some r.toNat := by
  unfold seqIndex?
  simp only [show ¬ r < 0 by omega, if_false]
  rw [if_pos (by simp; omega)]
theorem perm_erase {α : Type} : ∀ (xs : List α) (i : Nat) (v : α), xs[i]? = some v → (v :: xs.eraseIdx i).Perm xs
  | [], i, v, h => by simp at h
  | x :: r, 0, v, h => by
    obtain rfl : x = v := by simpa using h
    exact .refl _
  | x :: r, i + 1, v, h => (List.Perm.swap x v _).trans ((perm_erase r i v (by simpa using h)).cons x)
/-! ### a list in another order -/
def spMixed (K : PySem.W.Frag) : Sp := fun vs H Q _ => ∃ (S L T : Addr) (b : Bool) (xs : List V) (c : Nat), vs = [.ref S, .ref T] ∧ Sq K b H T xs ∧ xs.length ≤ 1000 ∧ c + xs.length ≤ 100000 ∧ StreamAt H S L c ∧
  ∀ (ys : List V) (p : Addr) (H' : Hp), ys.Perm xs → H p = none → H' p = some (.lst ys) → StreamAt H' S L (c + xs.length) → Kept S L H H' → Q (.ref p) H'
section
variable {P : Program} {w : World} {K : PySem.W.Frag} {mg : Str → Option Value} {base : Heap} {f fD : Addr} {fd fdD : FuncData}
abbrev nMixed : List Str := ["_law_stream", "_law_things", "_law_left", "_law_k"]
theorem scMixed : FnScope nMixed ["_law_stream", "_law_things"] (defScope sMixed) := ⟨rfl, rfl, rfl, by decide +kernel, rfl, by decide +kernel, by decide +kernel⟩
theorem ok_mixed (F : Fun K "_law_mixed" "_law_mixed" sMixed f fd) (GD : FnOk P w K mg base CX0 1 fD fdD ["_law_stream", "_law_many"] spDraw) (mD : mg "_law_draw" = some (.ref fD)) (kD : PySem.W.keepIn K (.ref fD) = true) (bD : L2.Binds K fdD ["_law_stream", "_law_many"] []) (ml : mg "len" = none) (mr : mg "range" = none) (mli : mg "list" = none) :
    FnOk P w K mg base CX0 2 f fd ["_law_stream", "_law_things"] (spMixed K) := by
  refine F.ok scMixed (fun vs H Q E h => ?_) (fun cdv A outer s H vs Q E hr h => ?_)
  · obtain ⟨S, L, T, b, xs, c, rfl, _⟩ := h
    rfl
  · obtain ⟨S, L, T, b, xs, c, rfl, hT, hx, hc, hS, k⟩ := h
    refine ⟨_, pss_cons (ps_set (i := 2) scMixed.nd rfl (.inr rfl) (pe_callTy call_list_of (by rfl) mli (by decide +kernel) (pa_cons (pv 1) pa_nil)))
      (pss_one (ps_ret (pe_lc (own := [("_law_k", 3)]) (g := gName 3) (tt := tYes) rfl scMixed.nd (pi_range1 (by rfl) mr (pa_cons (pe_callB call_len (by rfl) ml PySem.boot_len (pa_cons (pv 2) pa_nil)) pa_nil)) (blkOk_by (N := nMixed) (sc := defScope sMixed) (by decide +kernel))
          (fun _ _ _ _ _ => pg_name (i := 3) scMixed.nd rfl (.inl rfl)) (fun _ _ _ _ _ => pts_nil)
          (fun _ _ _ _ _ => show PE _ _ (tBM K _ _ _ _) from pe_bm PySem.F.plainAttrs_list PySem.F.slot_list_pop PySem.F.type_list_pop mt_popAt (pv 2) (pa_cons (pe_call GD hr (by rfl) mD kD bD .nil pass0 (pa_cons (pv 0) (pa_cons (pe_callB (len_k (Kf := K)) (by rfl) ml PySem.boot_len (pa_cons (pv 2) pa_nil)) pa_nil))) pa_nil))))), ?_⟩
    refine ⟨_, rfl, T, xs, rfl, hT.any, fun l hl => ?_⟩
    have lS := hS.off hl
    refine ⟨_, rfl, _, xs.length, rfl, .inl ⟨xs, SqL.of upd_same, rfl⟩, _, rfl, by omega, by omega, fun D hD => lc_range (lo := 0) (n := xs.length) (fun i H2 => ∃ acc rest : List V, (acc ++ rest).Perm xs ∧ acc.length = i ∧ H2 l = some (.lst rest) ∧ H2 D = some (.lst acc) ∧ StreamAt H2 S L (c + i) ∧ Kept S L H H2) ?_ ?_ ?_⟩
    · have nD : l ≠ D := ne_of_none upd_same hD
      exact ⟨[], xs, .refl _, rfl, (upd_ne nD).trans upd_same, upd_same, (hS.new hl).new hD, ((Kept.refl H).new hl).new ((Kept.none ((Kept.refl H).new hl) hD ((hS.new hl).off hD).1 ((hS.new hl).off hD).2))⟩
    · rintro i H2 hi ⟨acc, rest, hp, ha, hl2, hD2, hS2, hk2⟩
      have len : acc.length + rest.length = xs.length := by rw [← List.length_append]; exact hp.length_eq
      have nD : D ≠ S ∧ D ≠ L := (hS.new hl).off hD
      refine ⟨rfl, _, rfl, .inl ⟨rfl, _, SqL.of hl2⟩, _, rfl, _, rfl, _, rest.length, rfl, .inl ⟨rest, SqL.of hl2, rfl⟩, S, L, _, _, rfl, by omega, by omega, by omega, hS2, fun r H3 r0 r1 hS3 hk3 => ?_⟩
      have hl3 := hk3 _ _ hl2 lS.1 lS.2
      have hD3 := hk3 _ _ hD2 nD.1 nD.2
      obtain ⟨v, e1, e2⟩ := at_in r0 r1
      have lt : r.toNat < rest.length := (List.getElem?_eq_some_iff.mp e1).1
      have nlD : D ≠ l := (ne_of_none (show upd H l (.lst xs) l = some (.lst xs) from upd_same) hD).symm
      refine ⟨l, rest, r, r.toNat, v, rfl, rfl, hl3, by omega, by omega, ?_, e1, acc, (upd_ne nlD).trans hD3, by rw [sizeLine_eq]; omega, acc ++ [v], rest.eraseIdx r.toNat, ?_, by rw [List.length_append, ha]; rfl, ?_, upd_same, ?_, ?_⟩
      · exact seq_at r0 r1
      · have z := perm_erase rest r.toNat v e1
        rw [List.append_assoc]
        exact ((List.perm_append_left_iff acc).mpr z).trans hp
      · exact (upd_ne nlD.symm).trans upd_same
      · have z := (hS3.put (o := .lst (rest.eraseIdx r.toNat)) lS.1 lS.2).put (o := .lst (acc ++ [v])) nD.1 nD.2
        exact z
      · exact fun b u e n1 n2 => (upd_ne (ne_of_none ((upd_ne (ne_of_none e hl)).trans e) hD)).trans ((upd_ne (ne_of_none e hl)).trans (hk3 b u (hk2 b u e n1 n2) n1 n2))
    · rintro H2 ⟨acc, rest, hp, ha, hl2, hD2, hS2, hk2⟩
      have len : acc.length + rest.length = xs.length := by rw [← List.length_append]; exact hp.length_eq
      obtain rfl : rest = [] := List.eq_nil_of_length_eq_zero (by omega)
      rw [List.append_nil] at hp
      exact k acc D H2 hp (Kept.none ((Kept.refl H).new hl) hD ((hS.new hl).off hD).1 ((hS.new hl).off hD).2) hD2 hS2 hk2
end
end K6
namespace K6
open PySem PySem.Spec PyProof.Rows L2 LamX NdefX EV
/-! ### names -/
/-- one to eight small letters -/
def Name1 (z : Str) : Prop := 1 ≤ z.length ∧ z.length ≤ 8 ∧ ∀ ch ∈ z.cps.toList, 97 ≤ ch ∧ ch ≤ 122
theorem join_nil : ∀ l : List Nat, TL.joinL [] (l.map fun c => [c]) = l
  | [] => rfl
  | [_] => rfl
  | a :: b :: r => by
    have z := join_nil (b :: r)
    show [a] ++ ([] ++ TL.joinL [] ((b :: r).map fun c => [c])) = a :: b :: r
    rw [z]
    rfl
def signs (l : List Nat) : List Str := l.map fun c => ⟨#[c]⟩
theorem len_signs : ∀ l : List Nat, ((signs l).map (·.length)).sum = l.length
  | [] => rfl
  | a :: r => by
    have z := len_signs r
    show 1 + ((signs r).map (·.length)).sum = r.length + 1
    rw [z]
    omega
theorem join_signs (l : List Nat) : (Txt.join (Str.ofString "") (signs l)).cps.toList = l := by
  rw [TL.join_eq]
  have z := TL.tl_join (Str.ofString "") (signs l)
  have e : (signs l).map TL.tl = l.map fun c => [c] := by
    unfold signs
    rw [List.map_map]
    rfl
  rw [e] at z
  exact z.trans (join_nil l)
theorem nodup_le {α : Type} [DecidableEq α] : ∀ (xs ys : List α), xs.Nodup → (∀ x ∈ xs, x ∈ ys) → xs.length ≤ ys.length
  | [], ys, _, _ => Nat.zero_le _
  | x :: r, ys, nd, sub => by
    have nd' := List.nodup_cons.mp nd
    have z := nodup_le r (ys.erase x) nd'.2 fun y hy => (List.mem_erase_of_ne (fun e : y = x => nd'.1 (e ▸ hy))).mpr (sub y (List.mem_cons_of_mem _ hy))
    rw [List.length_erase_of_mem (sub x List.mem_cons_self)] at z
    have pos : 0 < ys.length := List.length_pos_of_mem (sub x List.mem_cons_self)
    show r.length + 1 ≤ _
    omega
theorem inV_str (z : Str) : ∀ ns : List Str, inV (.str z) (ns.map V.str) = decide (z ∈ ns)
  | [] => by simp [inV]
  | n :: r => by
    have h := inV_str z r
    unfold inV at h ⊢
    rw [List.map_cons, List.any_cons, h]
    show ((n == z) || decide (z ∈ r)) = decide (z ∈ n :: r)
    by_cases e : n = z
    · subst e; simp
    · rw [beq_eq_false_iff_ne.mpr e]
      have e2 : z ≠ n := fun q => e q.symm
      simp [e2]
theorem flat_str (ns : List Str) : (ns.map V.str).all flatV = true := by
  rw [List.all_map]
  exact List.all_eq_true.mpr fun _ _ => rfl
def letters : Str := Str.ofString "abcdefghijklmnopqrstuvwxyz"
def words : List Str := ["sign", "helper", "clause", "dead", "forced", "all", "found"]
theorem words_good : ∀ z ∈ words, Name1 z := by
  have all : ∀ z ∈ words, 1 ≤ z.length ∧ z.length ≤ 8 ∧ ∀ ch ∈ z.cps.toList, 97 ≤ ch ∧ ch ≤ 122 := by decide +kernel
  exact all
theorem letter_at : ∀ i < 26, letters.cps.toList[i]? = some (97 + i) := by decide +kernel
def spare (j : Nat) : Str := (Str.ofString "q" ++ ⟨#[97 + j / 26]⟩) ++ ⟨#[97 + j % 26]⟩
theorem spare_list (j : Nat) : (spare j).cps.toList = [113, 97 + j / 26, 97 + j % 26] := rfl
theorem spare_good {j : Nat} (h : j < 676) : Name1 (spare j) := by
  refine ⟨by show 1 ≤ 3; decide, by show 3 ≤ 8; decide, fun ch hc => ?_⟩
  rw [spare_list] at hc
  have h2 : j / 26 < 26 := by omega
  have h3 : j % 26 < 26 := by omega
  simp only [List.mem_cons, List.not_mem_nil, or_false] at hc
  omega
theorem spare_inj {i j : Nat} (h : spare i = spare j) : i = j := by
  have z := congrArg (fun s : Str => s.cps.toList) h
  replace z : [113, 97 + i / 26, 97 + i % 26] = [113, 97 + j / 26, 97 + j % 26] := z
  injection z with _ z
  injection z with z1 z
  injection z with z2 _
  omega
theorem spare_free {ns : List Str} (small : ns.length ≤ 600) (all : ∀ j < 676, spare j ∈ ns) : False := by
  have nd : ((List.range 676).map spare).Nodup := List.nodup_range.map spare fun i j ne e => ne (spare_inj e)
  have z := nodup_le _ ns nd fun x hx => by
    obtain ⟨j, hj, rfl⟩ := List.mem_map.mp hx
    exact all j (List.mem_range.mp hj)
  rw [List.length_map, List.length_range] at z
  omega
def spFresh (K : PySem.W.Frag) : Sp := fun vs H Q _ => ∃ (S L T : Addr) (ns : List Str) (c : Nat), vs = [.ref S, .ref T] ∧ SqL K H T (ns.map V.str) ∧ (∀ H', Kept S L H H' → SqL K H' T (ns.map V.str)) ∧ ns.length ≤ 600 ∧ c ≤ 90000 ∧ StreamAt H S L c ∧
  ∀ (z : Str) (c' : Nat) (H' : Hp), c' ≤ c + 11 → Name1 z → z ∉ ns → StreamAt H' S L c' → Kept S L H H' → Q (.str z) H'
section
variable {P : Program} {w : World} {K : PySem.W.Frag} {mg : Str → Option Value} {base : Heap} {f fD fP : Addr} {fd fdD fdP : FuncData}
abbrev nFresh : List Str := ["_law_stream", "_law_taken", "_law_letters", "_law_words", "_law_k", "_law_name", "_law_spare"]
theorem scFresh : FnScope nFresh ["_law_stream", "_law_taken"] (defScope sFresh) := ⟨rfl, rfl, rfl, by decide +kernel, rfl, by decide +kernel, by decide +kernel⟩
theorem ok_fresh (F : Fun K "_law_fresh" "_law_fresh" sFresh f fd) (GD : FnOk P w K mg base CX0 1 fD fdD ["_law_stream", "_law_many"] spDraw) (mD : mg "_law_draw" = some (.ref fD)) (kD : PySem.W.keepIn K (.ref fD) = true) (bD : L2.Binds K fdD ["_law_stream", "_law_many"] [])
    (GL : FnOk P w K mg base CX0 2 fP fdP ["_law_stream", "_law_things"] (spPickL K)) (mP : mg "_law_pick" = some (.ref fP)) (kP : PySem.W.keepIn K (.ref fP) = true) (bP : L2.Binds K fdP ["_law_stream", "_law_things"] []) (mr : mg "range" = none) (mi : mg "int" = none) :
    FnOk P w K mg base CX0 3 f fd ["_law_stream", "_law_taken"] (spFresh K) := by
  refine F.ok scFresh (fun vs H Q E h => ?_) (fun cdv A outer s H vs Q E hr h => ?_)
  · obtain ⟨S, L, T, ns, c, rfl, _⟩ := h
    rfl
  · obtain ⟨S, L, T, ns, c, rfl, hT, hT', hn, hc, hS, k⟩ := h
    have hr1 : Room 1 _ := hr.mono (by decide)
    have rest : ∃ tt, PSs (cxOf CX0 P w K mg base nFresh "_law_fresh" (defScope sFresh) f cdv A outer s H E).nox ((defBody sFresh).drop 3) tt ∧
        ∀ (z : Str) (c' : Nat) (H1 : Hp) (W : Addr) (o4 : Option V), c' ≤ c + 11 → Name1 z → StreamAt H1 S L c' → Kept S L H H1 → tt { nx := fun _ H' => Q .non H', rt := Q } [some (.ref S), some (.ref T), some (.str letters), some (.ref W), o4, some (.str z), none] H1 := by
      refine ⟨_, pss_cons (ps_for PassesOwn.never rfl (pi_range1 (by rfl) mr (pa_cons (pe_op op_mul pe_int (pe_callTy call_int1 (by rfl) mi (by decide +kernel) (pa_cons (pe_cmpR op_in_seq (pv 5) (pv 1) rfl) pa_nil))) pa_nil)) (pg_name (i := 4) scFresh.nd rfl (.inl rfl))
        (pss_cons (ps_set (i := 6) scFresh.nd rfl (.inl rfl) (pe_op op_add_str (pe_op op_add_str pe_str (pe_ix ix_seq (pv 2) (pe_op op_fdiv (pv 4) pe_int) (fun _ _ => rfl))) (pe_ix ix_seq (pv 2) (pe_op op_mod (pv 4) pe_int) (fun _ _ => rfl))))
        (pss_one (ps_if (pt_cmpR op_notIn_seq (pv 6) (pv 1) rfl) (pss_one (ps_ret (pv 6))) pss_nil))))
        (pss_one (ps_ret (pv 5))), fun z c' H1 W o4 hc' good hS1 hk1 => ?_⟩
      have hT1 := hT' H1 hk1
      refine ⟨_, rfl, _, rfl, T, _, rfl, .inl hT1, rfl, flat_str ns, .inr ⟨_, rfl, ?_⟩⟩
      rw [inV_str]
      by_cases hz : z ∈ ns
      · rw [decide_eq_true hz]
        refine ⟨_, _, rfl, rfl, .inl ⟨by decide, by decide⟩, _, rfl, by decide, by decide, ?_⟩
        refine for_range (lo := 0) (n := 676) (fun i σ H2 => H2 = H1 ∧ (∀ j < i, spare j ∈ ns) ∧ ∃ o4 o6, σ = [some (.ref S), some (.ref T), some (.str letters), some (.ref W), o4, some (.str z), o6]) ⟨rfl, fun j hj => absurd hj (Nat.not_lt_zero j), _, _, rfl⟩ ?_ ?_
        · rintro i σ H2 hi ⟨rfl, hj, _, _, rfl⟩
          have h26 : (26 : Int) ≠ 0 := by decide
          have a1 : (0 + (i : Int)) / 26 = ((i / 26 : Nat) : Int) := by omega
          have a2 : (0 + (i : Int)) % 26 = ((i % 26 : Nat) : Int) := by omega
          have b1 : i / 26 < 26 := by omega
          have b2 : i % 26 < 26 := by omega
          have len : letters.length ≤ sizeLine := by show 26 ≤ sizeLine; decide
          refine ⟨_, rfl, _, rfl, _, _, rfl, rfl, ⟨by decide, by decide⟩, ?_⟩
          refine .inr (.inr ⟨letters, _, 97 + i / 26, rfl, rfl, len, by rw [a1]; exact atI_nat (letter_at _ b1), ?_⟩)
          refine ⟨_, _, rfl, rfl, by show 1 + 1 ≤ sizeLine; decide, _, rfl, _, rfl, _, _, rfl, rfl, by show (0 : Int) < 26; decide, ?_⟩
          refine .inr (.inr ⟨letters, _, 97 + i % 26, rfl, rfl, len, by rw [a2]; exact atI_nat (letter_at _ b2), ?_⟩)
          refine ⟨_, _, rfl, rfl, by show 2 + 1 ≤ sizeLine; decide, _, rfl, _, rfl, T, _, rfl, .inl hT1, rfl, flat_str ns, _, rfl, ?_⟩
          rw [if_pos rfl, inV_str]
          by_cases hs : spare i ∈ ns
          · have e : decide ((Str.ofString "q" ++ (⟨#[97 + i / 26]⟩ : Str)) ++ (⟨#[97 + i % 26]⟩ : Str) ∈ ns) = true := decide_eq_true hs
            rw [e]
            refine iteF ⟨rfl, fun j hj' => ?_, _, _, rfl⟩
            rcases Nat.lt_succ_iff_lt_or_eq.mp hj' with q | q
            · exact hj j q
            · exact q ▸ hs
          · have e : decide ((Str.ofString "q" ++ (⟨#[97 + i / 26]⟩ : Str)) ++ (⟨#[97 + i % 26]⟩ : Str) ∈ ns) = false := decide_eq_false hs
            rw [e]
            exact iteT ⟨_, rfl, k (spare i) c' _ hc' (spare_good hi) hs hS1 hk1⟩
        · rintro σ H2 ⟨rfl, hj, _⟩
          exact (spare_free hn hj).elim
      · rw [decide_eq_false hz]
        refine ⟨_, _, rfl, rfl, .inl ⟨by decide, by decide⟩, _, rfl, by decide, by decide, ?_⟩
        refine for_range (lo := 0) (n := 0) (fun i σ H2 => H2 = H1 ∧ ∃ o4 o6, σ = [some (.ref S), some (.ref T), some (.str letters), some (.ref W), o4, some (.str z), o6]) ⟨rfl, _, _, rfl⟩ (fun i _ _ hi _ => absurd hi (Nat.not_lt_zero i)) ?_
        rintro σ H2 ⟨rfl, _, _, rfl⟩
        exact ⟨_, rfl, k z c' _ hc' good hz hS1 hk1⟩
    obtain ⟨tt, htt, hrest⟩ := rest
    refine ⟨_, pss_cons (ps_asg (pe_tup (pa_cons pe_str (pa_cons (pe_lst (pa_cons pe_str (pa_cons pe_str (pa_cons pe_str (pa_cons pe_str (pa_cons pe_str (pa_cons pe_str (pa_cons pe_str pa_nil)))))))) pa_nil))) (pg_tup rfl (pgs_cons (pg_name (i := 2) scFresh.nd rfl (.inr rfl)) (pgs_cons (pg_name (i := 3) scFresh.nd rfl (.inl rfl)) pgs_nil))))
      (pss_cons (ps_set (i := 5) scFresh.nd rfl (.inl rfl) (pe_join pe_str (pe_lc (own := [("_law_k", 4)]) (g := gName 4) (tt := tYes) rfl scFresh.nd (pi_range1 (by rfl) mr (pa_cons (pe_ix ix_list (pe_lst (pa_cons pe_int (pa_cons pe_int (pa_cons pe_int (pa_cons pe_int (pa_cons pe_int (pa_cons pe_int pa_nil))))))) (pe_call GD hr1 (by rfl) mD kD bD .nil pass0 (pa_cons (pv 0) (pa_cons pe_int pa_nil))) (fun _ _ => rfl)) pa_nil)) (blkOk_by (N := nFresh) (sc := defScope sFresh) (by decide +kernel))
          (fun _ _ _ _ _ => pg_name (i := 4) scFresh.nd rfl (.inl rfl)) (fun _ _ _ _ _ => pts_nil) (fun _ _ _ _ _ => show PE _ _ (tOp (rIx K) _ _) from pe_ix ix_seq (pv 2) (pe_call GD hr1 (by rfl) mD kD bD .nil pass0 (pa_cons (pv 0) (pa_cons pe_int pa_nil))) (fun _ _ => rfl)))))
      (pss_cons (ps_set (i := 5) scFresh.nd rfl (.inl rfl) (pe_ifExp (pt_cmpR op_eq (pe_call GD hr1 (by rfl) mD kD bD .nil pass0 (pa_cons (pv 0) (pa_cons pe_int pa_nil))) pe_int (nomark _)) (pe_call GL hr (by rfl) mP kP bP .nil pass0 (pa_cons (pv 0) (pa_cons (pv 3) pa_nil))) (pv 5)))
      htt)), ?_⟩
    refine ⟨(by show 7 ≤ sizeLine; decide), fun W hW => ⟨(by show 2 ≤ sizeLine; decide), fun t ht => ⟨t, _, rfl, SqT.of upd_same, rfl, _, _, rfl, _, _, rfl, rfl, ?_⟩⟩⟩
    have offW := hS.off hW
    have hS1 := hS.new (o := .lst (words.map V.str)) hW
    have offt := hS1.off ht
    have hS2 := hS1.new (o := .tup [.str letters, .ref W]) ht
    refine ⟨⟨_, rfl⟩, (by show 6 ≤ sizeLine; decide), fun l hl => ⟨_, rfl, S, L, 6, c, rfl, by decide, by decide, by omega, hS2.new hl, fun r H1 r0 r1 hS3 hk1 => ?_⟩⟩
    have offl := hS2.off hl
    have six : ∃ n : Nat, atI [V.int 1, V.int 1, V.int 1, V.int 2, V.int 3, V.int 8] r = some (.int (n : Int)) ∧ 1 ≤ n ∧ n ≤ 8 := by
      have hh : r = 0 ∨ r = 1 ∨ r = 2 ∨ r = 3 ∨ r = 4 ∨ r = 5 := by omega
      rcases hh with rfl | rfl | rfl | rfl | rfl | rfl
      · exact ⟨1, rfl, by decide, by decide⟩
      · exact ⟨1, rfl, by decide, by decide⟩
      · exact ⟨1, rfl, by decide, by decide⟩
      · exact ⟨2, rfl, by decide, by decide⟩
      · exact ⟨3, rfl, by decide, by decide⟩
      · exact ⟨8, rfl, by decide, by decide⟩
    obtain ⟨n, hn6, n0, n8⟩ := six
    have hl1 := hk1 _ _ upd_same offl.1 offl.2
    refine ⟨l, _, r, _, rfl, rfl, SqL.of hl1, hn6, _, rfl, by omega, by omega, fun D hD => lc_range (lo := 0) (n := n) (fun i H2 => ∃ cs : List Nat, cs.length = i ∧ (∀ ch ∈ cs, 97 ≤ ch ∧ ch ≤ 122) ∧ H2 D = some (.lst ((K6.signs cs).map V.str)) ∧ StreamAt H2 S L (c + 1 + i) ∧ Kept S L H1 H2)
      ⟨[], rfl, fun _ h => (nomatch h), upd_same, hS3.new hD, (Kept.refl H1).new hD⟩ ?_ ?_⟩
    · rintro i H2 hi ⟨cs, hcs, hch, hD2, hS4, hk2⟩
      have offD := hS3.off hD
      refine ⟨rfl, _, rfl, _, rfl, S, L, 26, _, rfl, by decide, by decide, by omega, hS4, fun q H3 q0 q1 hS5 hk3 => .inr (.inr ⟨letters, q, 97 + q.toNat, rfl, rfl, by show 26 ≤ sizeLine; decide, ?_, _, hk3 _ _ hD2 offD.1 offD.2, ?_, cs ++ [97 + q.toNat], ?_, ?_, ?_, hS5.put offD.1 offD.2, ?_⟩)⟩
      · have z := atI_nat (letter_at q.toNat (by omega))
        rwa [Int.toNat_of_nonneg q0] at z
      · rw [List.length_map]
        unfold K6.signs
        rw [List.length_map, sizeLine_eq]
        omega
      · rw [List.length_append, hcs]
        rfl
      · intro x hx
        rcases List.mem_append.mp hx with z | z
        · exact hch x z
        · rw [List.mem_singleton.mp z]
          omega
      · rw [upd_same]
        unfold K6.signs
        rw [List.map_append, List.map_append]
        rfl
      · exact fun b o e n1 n2 => (upd_ne (ne_of_none e hD)).trans (hk3 b o (hk2 b o e n1 n2) n1 n2)
    · rintro H2 ⟨cs, hcs, hch, hD2, hS4, hk2⟩
      refine ⟨_, D, K6.signs cs, rfl, rfl, .inl (SqL.of hD2), ?_, ?_⟩
      · rw [len_signs, hcs]
        show n + (K6.signs cs).length * 0 ≤ 16777216
        omega
      have good : Name1 (Txt.join (Str.ofString "") (K6.signs cs)) := by
        have e := join_signs cs
        have el : (Txt.join (Str.ofString "") (K6.signs cs)).length = n := by
          show (Txt.join (Str.ofString "") (K6.signs cs)).cps.size = n
          rw [← Array.length_toList, e, hcs]
        exact ⟨by omega, by omega, fun ch h => hch ch (e ▸ h)⟩
      have same3 : Kept S L H H2 := ((((Kept.refl H).new hW).trans ((Kept.refl _).new ht)).trans ((Kept.refl _).new hl)).trans (hk1.trans hk2)
      have hWs : ∀ H', Kept S L H2 H' → H' W = some (.lst (words.map V.str)) := fun H' hk' => hk' _ _ (hk2 _ _ (hk1 _ _ ((upd_ne (ne_of_none (show upd (upd H W (.lst (words.map V.str))) t _ W = some (.lst (words.map V.str)) from (upd_ne (ne_of_none upd_same ht)).trans upd_same) hl)).trans ((upd_ne (ne_of_none upd_same ht)).trans upd_same)) offW.1 offW.2) offW.1 offW.2) offW.1 offW.2
      refine ⟨_, rfl, S, L, 9, _, rfl, by decide, by decide, by omega, hS4, fun q H3 q0 q1 hS5 hk3 => ⟨rfl, _, rfl, ?_⟩⟩
      refine ite2 (fun _ => ?_) (fun _ => ?_)
      · refine ⟨_, rfl, _, rfl, S, L, W, words.map V.str, _, rfl, SqL.of (hWs H3 hk3), fun H' hk' => SqL.of (hWs H' (hk3.trans hk')), by decide, by decide, by omega, hS5, fun i v H4 hi hS6 hk4 => ?_⟩
        obtain ⟨z, hz, rfl⟩ : ∃ z ∈ words, v = .str z := by
          obtain ⟨z, h1, h2⟩ := List.mem_map.mp (List.mem_of_getElem? hi)
          exact ⟨z, h1, h2.symm⟩
        exact hrest z _ H4 W _ (by omega) (words_good z hz) hS6 ((same3.trans hk3).trans hk4)
      · exact ⟨_, rfl, hrest _ _ H3 W _ (by omega) good hS5 (same3.trans hk3)⟩
end
end K6
namespace K6
open PySem PySem.Spec PyProof.Rows L2 LamX NdefX EV
def spNames : Sp := fun vs H Q _ => ∃ (S L : Addr) (m c : Nat), vs = [.ref S, .int (m : Int)] ∧ m ≤ 60 ∧ c ≤ 80000 ∧ StreamAt H S L c ∧
  ∀ (ns : List Str) (p : Addr) (c' : Nat) (H' : Hp), ns.length = m → ns.Nodup → (∀ z ∈ ns, Name1 z) → H p = none → H' p = some (.lst (ns.map V.str)) → c' ≤ c + 11 * m → StreamAt H' S L c' → Kept S L H H' → Q (.ref p) H'
section
variable {P : Program} {w : World} {K : PySem.W.Frag} {mg : Str → Option Value} {base : Heap} {f fD fF : Addr} {fd fdD fdF : FuncData}
abbrev nNames : List Str := ["_law_stream", "_law_many", "_law_found", "_law_k"]
theorem scNames : FnScope nNames ["_law_stream", "_law_many"] (defScope sNames) := ⟨rfl, rfl, rfl, by decide +kernel, rfl, by decide +kernel, by decide +kernel⟩
theorem ok_names (F : Fun K "_law_names" "_law_names" sNames f fd) (GF : FnOk P w K mg base CX0 3 fF fdF ["_law_stream", "_law_taken"] (spFresh K)) (mF : mg "_law_fresh" = some (.ref fF)) (kF : PySem.W.keepIn K (.ref fF) = true) (bF : L2.Binds K fdF ["_law_stream", "_law_taken"] []) (mr : mg "range" = none) :
    FnOk P w K mg base CX0 4 f fd ["_law_stream", "_law_many"] spNames := by
  refine F.ok scNames (fun vs H Q E h => ?_) (fun cdv A outer s H vs Q E hr h => ?_)
  · obtain ⟨S, L, m, c, rfl, _⟩ := h
    rfl
  · obtain ⟨S, L, m, c, rfl, hm, hc, hS, k⟩ := h
    refine ⟨_, pss_cons (ps_set (i := 2) scNames.nd rfl (.inl rfl) (pe_lst pa_nil))
      (pss_cons (ps_for PassesOwn.never rfl (pi_range1 (by rfl) mr (pa_cons (pv 1) pa_nil)) (pg_name (i := 3) scNames.nd rfl (.inl rfl))
        (pss_one (ps_expr (pe_bm PySem.F.plainAttrs_list PySem.F.slot_list_append PySem.F.type_list_append mt_append (pv 2) (pa_cons (pe_call GF hr (by rfl) mF kF bF .nil pass0 (pa_cons (pv 0) (pa_cons (pv 2) pa_nil))) pa_nil)))))
      (pss_one (ps_ret (pv 2)))), ?_⟩
    refine ⟨by show 0 ≤ sizeLine; exact Nat.zero_le _, fun p hp => ⟨_, rfl, _, rfl, by omega, by omega, for_range (lo := 0) (n := m) (fun i σ H2 => ∃ (ns : List Str) (c' : Nat) (o3 : Option V), σ = [some (.ref S), some (.int (m : Int)), some (.ref p), o3] ∧ ns.length = i ∧ ns.Nodup ∧ (∀ z ∈ ns, Name1 z) ∧ H2 p = some (.lst (ns.map V.str)) ∧ c' ≤ c + 11 * i ∧ StreamAt H2 S L c' ∧ Kept S L H H2)
      ⟨[], c, _, rfl, rfl, List.nodup_nil, (fun _ h => nomatch h), upd_same, by omega, hS.new hp, (Kept.refl H).new hp⟩ ?_ ?_⟩⟩
    · rintro i σ H2 hi ⟨ns, c', o3, rfl, hl, nd, good, hp2, hc', hS2, hk2⟩
      have off := hS.off hp
      refine ⟨_, rfl, .inl ⟨rfl, _, SqL.of hp2⟩, _, rfl, _, rfl, S, L, p, ns, c', rfl, SqL.of hp2, fun H' hk' => SqL.of (hk' _ _ hp2 off.1 off.2), by omega, by omega, hS2, fun z c2 H3 hc2 hz hn hS3 hk3 => ?_⟩
      have hp3 := hk3 _ _ hp2 off.1 off.2
      refine ⟨p, _, _, rfl, rfl, hp3, by rw [List.length_map, sizeLine_eq]; omega, ns ++ [z], c2, _, rfl, by rw [List.length_append, hl]; rfl, ?_, ?_, ?_, by omega, hS3.put off.1 off.2, ?_⟩
      · exact List.nodup_append.mpr ⟨nd, List.nodup_cons.mpr ⟨fun h => (nomatch h), List.nodup_nil⟩, fun a ha b hb e => hn (by rw [← List.mem_singleton.mp hb, ← e]; exact ha)⟩
      · intro y hy
        rcases List.mem_append.mp hy with q | q
        · exact good y q
        · exact List.mem_singleton.mp q ▸ hz
      · rw [upd_same, List.map_append]
        rfl
      · exact fun b o e n1 n2 => (upd_ne (ne_of_none e hp)).trans (hk3 b o (hk2 b o e n1 n2) n1 n2)
    · rintro σ H2 ⟨ns, c', o3, rfl, hl, nd, good, hp2, hc', hS2, hk2⟩
      exact ⟨_, rfl, k ns p c' H2 hl nd good hp hp2 hc' hS2 hk2⟩
end
theorem same_new {H : Hp} {p : Addr} {o : HO} (h : H p = none) : Same H (upd H p o) := fun _ _ e => (upd_ne (ne_of_none e h)).trans e
/-! ### literals, ascending -/
def neg (n : Str) : Str := Str.ofString "-" ++ n
def lits (ns : List Str) : List Str := ns.flatMap fun n => [n, neg n]
def asc (ns some : List Str) : List Str := (lits ns).filter fun l => decide (l ∈ some)
theorem neg_list (n : Str) : (neg n).cps.toList = 45 :: n.cps.toList := by
  show (#[45] ++ n.cps).toList = _
  rw [Array.toList_append]
  rfl
theorem neg_len (n : Str) : (neg n).length = n.length + 1 := by
  show (neg n).cps.size = n.cps.size + 1
  rw [← Array.length_toList, neg_list, List.length_cons, Array.length_toList]
theorem lits_len (ns : List Str) : (lits ns).length = 2 * ns.length := by
  unfold lits
  induction ns with
  | nil => rfl
  | cons n r ih => rw [List.flatMap_cons, List.length_append, ih]; show 2 + 2 * r.length = 2 * (r.length + 1); omega
theorem asc_len (ns some : List Str) : (asc ns some).length ≤ 2 * ns.length := Nat.le_trans (List.length_filter_le ..) (Nat.le_of_eq (lits_len ns))
section
variable {P : Program} {w : World} {K : PySem.W.Frag} {mg : Str → Option Value} {base : Heap} {f : Addr} {fd : FuncData}
end
end K6
namespace K6
open PySem PySem.Spec PyProof.Rows L2 LamX NdefX EV
/-- a literal: a name, or its other side -/
def lit (q : Bool × Str) : Str := if q.1 = true then neg q.2 else q.2
/-- literals of distinct names of these -/
structure Lits (ns : List Str) (qs : List (Bool × Str)) : Prop where
  nd : (qs.map Prod.snd).Nodup
  sub : ∀ q ∈ qs, q.2 ∈ ns
theorem Kept.add {S L p : Addr} {H H' : Hp} {o : HO} (k : Kept S L H H') (h : H' p = Option.none) (off : p ≠ S ∧ p ≠ L) : Kept S L H (upd H' p o) := k.new (k.none h off.1 off.2)
theorem empty_add (n : Str) : Str.ofString "" ++ n = n := by
  obtain ⟨c⟩ := n
  show Str.mk (#[] ++ c) = _
  rw [Array.empty_append]
theorem unmap_str : ∀ (ys : List V) (xs : List Str), ys.Perm (xs.map V.str) → ∃ ms : List Str, ys = ms.map V.str ∧ ms.Perm xs := by
  intro ys xs h
  let un : V → Str := fun v => match v with | .str z => z | _ => Str.ofString ""
  have all : ∀ y ∈ ys, V.str (un y) = y := fun y hy => by
    obtain ⟨z, _, rfl⟩ := List.mem_map.mp (h.mem_iff.mp hy)
    rfl
  refine ⟨ys.map un, ?_, ?_⟩
  · rw [List.map_map]
    exact ((List.map_congr_left (f := V.str ∘ un) (g := id) all).trans (List.map_id ys)).symm
  · have z := h.map un
    rw [List.map_map] at z
    have e : xs.map (un ∘ V.str) = xs := (List.map_congr_left (g := id) fun _ _ => rfl).trans (List.map_id xs)
    rwa [e] at z
theorem dp_strs {K : PySem.W.Frag} {H : Hp} : ∀ ns : List Str, DpAll K H (ns.map V.str) (ns.map PyData.str)
  | [] => .nil
  | n :: r => .cons (.str n) (dp_strs r)
/-- a text of code points that are few enough -/
def Fit (z : Str) : Prop := ∀ ch ∈ z.cps.toList, ch < 128
theorem Fit.ok {z : Str} (h : Fit z) : PyData.strOk z = true := by
  show z.cps.all (fun c => decide (c < 0x110000)) = true
  rw [← Array.all_toList]
  exact List.all_eq_true.mpr fun c hc => decide_eq_true (Nat.lt_trans (h c hc) (by decide))
theorem Name1.fit {z : Str} (h : Name1 z) : Fit z := fun ch hc => Nat.lt_of_le_of_lt (h.2.2 ch hc).2 (by decide)
theorem Fit.neg {z : Str} (h : Fit z) : Fit (neg z) := fun ch hc => by
  rw [neg_list] at hc
  rcases List.mem_cons.mp hc with rfl | q
  · decide
  · exact h ch q
theorem Fit.lit {q : Bool × Str} (h : Fit q.2) : Fit (lit q) := by
  unfold K6.lit
  split
  · exact h.neg
  · exact h
theorem lay_strs : ∀ ns : List Str, (∀ z ∈ ns, Fit z) → PyData.canLayAll0 (ns.map PyData.str) = true ∧ PyData.depthAll (ns.map PyData.str) ≤ 2
  | [], _ => ⟨rfl, Nat.zero_le _⟩
  | n :: r, f => by
    obtain ⟨h1, h2⟩ := lay_strs r fun z h => f z (List.mem_cons_of_mem _ h)
    have h0 := (f n List.mem_cons_self).ok
    refine ⟨?_, ?_⟩
    · simp only [List.map_cons, PyData.canLayAll0, PyData.canLay0, h1, h0, Bool.and_self]
    · simp only [List.map_cons, PyData.depthAll, PyData.depth]
      omega
theorem shaped_strs (ns : List Str) (f : ∀ z ∈ ns, Fit z) : SeqAt.shaped (.list (ns.map PyData.str)) = true := by
  obtain ⟨h1, h2⟩ := lay_strs ns f
  refine Bool.and_eq_true_iff.mpr ⟨?_, decide_eq_true ?_⟩
  · simp only [PyData.canLay0, h1]
  · simp only [PyData.depth]
    omega
theorem eqv_nilS : ∀ ns : List Str, PyData.eqv (.list (ns.map PyData.str)) (.list []) = decide (ns = [])
  | [] => rfl
  | n :: r => by simp [PyData.eqv, PyData.eqvAll]
theorem cutV_take (xs : List V) (k : Nat) : cutV xs none (some (k : Int)) = xs.take k := by
  unfold cutV
  rw [HT.sIx_none, HT.sIx_nat, List.drop_zero, Nat.sub_zero]
  by_cases h : k ≤ xs.length
  · rw [Nat.min_eq_left h]
  · rw [Nat.min_eq_right (by omega), List.take_of_length_le (Nat.le_refl _), List.take_of_length_le (by omega)]
theorem cutV_drop (xs : List V) (k : Nat) : cutV xs (some (k : Int)) none = xs.drop k := by
  unfold cutV
  rw [HT.sIx_none, HT.sIx_nat]
  by_cases h : k ≤ xs.length
  · rw [Nat.min_eq_left h, List.take_of_length_le (by rw [List.length_drop]; exact Nat.le_refl _)]
  · rw [Nat.min_eq_right (by omega), Nat.sub_self, List.take_zero, List.drop_eq_nil_of_le (by omega)]
section
variable {P : Program} {w : World} {K : PySem.W.Frag} {mg : Str → Option Value} {base : Heap} {f fD fM fS : Addr} {fd fdD fdM fdS : FuncData}
end
end K6
namespace K6
open PySem PySem.Spec PyProof.Rows L2 LamX NdefX EV
theorem hu65 {A : Around} {k : Nat} (hr : Room k A) : A.units + 65 < cLine := by
  have := hr.un
  omega
/-! ### rows: tuples of texts that stand in the heap -/
def TupAt (H : Hp) (t : Addr) (r : List Str) : Prop := H t = some (.tup (r.map V.str))
abbrev RowsAt (H : Hp) : List Addr → List (List Str) → Prop := Paired (TupAt H)
theorem RowsAt.same {H H' : Hp} (sm : Same H H') {ts : List Addr} {rs : List (List Str)} (h : RowsAt H ts rs) : RowsAt H' ts rs := by
  induction h with
  | nil => exact .nil
  | cons a _ ih => exact .cons (sm _ _ a) ih
theorem RowsAt.get {H : Hp} : ∀ {ts : List Addr} {rs : List (List Str)}, RowsAt H ts rs → ∀ (i : Nat) (t : Addr), ts[i]? = some t → ∃ r, rs[i]? = some r ∧ TupAt H t r
  | _, _, .nil, i, t, h => by simp at h
  | _, _, .cons a _, 0, t, h => ⟨_, rfl, by simp at h; exact h ▸ a⟩
  | _, _, .cons _ q, i + 1, t, h => by simpa using RowsAt.get q i t (by simpa using h)
theorem RowsAt.put {H : Hp} {p : Addr} {xs : List V} {o : HO} (hp : H p = some (.lst xs)) {ts : List Addr} {rs : List (List Str)} (h : RowsAt H ts rs) : RowsAt (upd H p o) ts rs := by
  induction h with
  | nil => exact .nil
  | cons a _ ih => exact .cons ((upd_ne (ne_of a hp fun z => nomatch z)).trans a) ih
theorem RowsAt.lift {K : PySem.W.Frag} {H : Hp} : ∀ {ts : List Addr} {rs : List (List Str)}, RowsAt H ts rs → DpAll K H (ts.map V.ref) (rs.map fun r => PyData.tuple (r.map PyData.str))
  | _, _, .nil => .nil
  | _, _, .cons a q => .cons (.tup (SqT.of a) (dp_strs _)) (RowsAt.lift q)
theorem lay_rows : ∀ rs : List (List Str), (∀ r ∈ rs, ∀ z ∈ r, Fit z) → PyData.canLayAll0 (rs.map fun r => PyData.tuple (r.map PyData.str)) = true ∧ PyData.depthAll (rs.map fun r => PyData.tuple (r.map PyData.str)) ≤ 5
  | [], _ => ⟨rfl, Nat.zero_le _⟩
  | r :: rs, f => by
    obtain ⟨h1, h2⟩ := lay_rows rs fun r h => f r (List.mem_cons_of_mem _ h)
    obtain ⟨h3, h4⟩ := lay_strs r (f r List.mem_cons_self)
    refine ⟨?_, ?_⟩
    · simp only [List.map_cons, PyData.canLayAll0, PyData.canLay0, h1, h3, Bool.and_self]
    · simp only [List.map_cons, PyData.depthAll, PyData.depth]
      omega
theorem shaped_row (r : List Str) (f : ∀ z ∈ r, Fit z) : SeqAt.shaped (.tuple (r.map PyData.str)) = true := by
  obtain ⟨h1, h2⟩ := lay_strs r f
  refine Bool.and_eq_true_iff.mpr ⟨?_, decide_eq_true ?_⟩
  · simp only [PyData.canLay0, h1]
  · simp only [PyData.depth]
    omega
theorem shaped_rows (rs : List (List Str)) (f : ∀ r ∈ rs, ∀ z ∈ r, Fit z) : SeqAt.shaped (.list (rs.map fun r => PyData.tuple (r.map PyData.str))) = true := by
  obtain ⟨h1, h2⟩ := lay_rows rs f
  refine Bool.and_eq_true_iff.mpr ⟨?_, decide_eq_true ?_⟩
  · simp only [PyData.canLay0, h1]
  · simp only [PyData.depth]
    omega
theorem eqvAll_strs : ∀ a b : List Str, PyData.eqvAll (a.map PyData.str) (b.map PyData.str) = decide (a = b)
  | [], [] => rfl
  | [], _ :: _ => by simp [PyData.eqvAll]
  | _ :: _, [] => by simp [PyData.eqvAll]
  | x :: a, y :: b => by
    have h := eqvAll_strs a b
    simp only [List.map_cons, PyData.eqvAll, PyData.eqv, h]
    by_cases e : x = y
    · subst e; simp
    · simp [e]
theorem eqv_row (a b : List Str) : PyData.eqv (.tuple (a.map PyData.str)) (.tuple (b.map PyData.str)) = decide (a = b) := by
  rw [PyData.eqv]
  exact eqvAll_strs a b
theorem any_rows (r : List Str) : ∀ rs : List (List Str), ((rs.map fun r => PyData.tuple (r.map PyData.str)).any fun z => PyData.eqv z (.tuple (r.map PyData.str))) = decide (r ∈ rs)
  | [] => by simp
  | x :: rs => by
    rw [List.map_cons, List.any_cons, any_rows r rs, eqv_row]
    by_cases e : x = r
    · subst e; simp
    · have e2 : r ≠ x := fun q => e q.symm
      simp [e, e2]
theorem lits_fit {ns : List Str} (f : ∀ z ∈ ns, Fit z) : ∀ l ∈ lits ns, Fit l := fun l h => by
  obtain ⟨n, hn, hl⟩ := List.mem_flatMap.mp h
  rcases List.mem_cons.mp hl with rfl | hl
  · exact f _ hn
  · exact List.mem_singleton.mp hl ▸ (f n hn).neg
theorem asc_fit {ns ls : List Str} (f : ∀ z ∈ ns, Fit z) : ∀ l ∈ asc ns ls, Fit l := fun l h => lits_fit f l ((List.mem_filter.mp h).1)
section
variable {P : Program} {w : World} {K : PySem.W.Frag} {mg : Str → Option Value} {base : Heap} {f fU : Addr} {fd fdU : FuncData}
theorem get_map {α β : Type} {g : α → β} {xs : List α} {i : Nat} {y : β} (h : (xs.map g)[i]? = some y) : ∃ x, xs[i]? = some x ∧ y = g x := by
  rw [List.getElem?_map] at h
  cases e : xs[i]? with
  | none => rw [e] at h; cases h
  | some x => rw [e] at h; exact ⟨x, rfl, (Option.some.inj h).symm⟩
theorem paired_get {α β : Type} {R : α → β → Prop} : ∀ {xs : List α} {ys : List β}, Paired R xs ys → ∀ (i : Nat) (x : α), xs[i]? = some x → ∃ y, ys[i]? = some y ∧ R x y
  | _, _, .nil, i, x, h => by simp at h
  | _, _, .cons a _, 0, x, h => ⟨_, rfl, by simp at h; exact h ▸ a⟩
  | _, _, .cons _ q, i + 1, x, h => by simpa using paired_get q i x (by simpa using h)
end
end K6
namespace K6
open PySem PySem.Spec PyProof.Rows L2 LamX NdefX EV
/-- a row of a code: the ascending literals of a clause over these names -/
def RowOf (ns r : List Str) : Prop := ∃ qs, Lits ns qs ∧ r = asc ns (qs.map lit)
section
variable {P : Program} {w : World} {K : PySem.W.Frag} {mg : Str → Option Value} {base : Heap} {f fD fN fC fO : Addr} {fd fdD fdN fdC fdO : FuncData}
end
end K6
namespace K6
open PySem PySem.Spec PyProof.Rows L2 LamX NdefX EV
/-! ### the program: names and literals -/
theorem in_letters {ch : Nat} (h : 97 ≤ ch ∧ ch ≤ 122) : ch ∈ letters.cps.toList := by
  have z := letter_at (ch - 97) (by omega)
  have e : 97 + (ch - 97) = ch := by omega
  rw [e] at z
  exact List.mem_of_getElem? z
def spIsName : Sp := fun vs H Q _ => ∃ z : Str, vs = [.str z] ∧ Name1 z ∧ ∀ H', Same H H' → Q (.bl true) H'
section
variable {P : Program} {w : World} {K : PySem.W.Frag} {mg : Str → Option Value} {base : Heap} {f fI : Addr} {fd fdI : FuncData}
abbrev nIsName : List Str := ["thing", "letter"]
theorem scIsName : FnScope nIsName ["thing"] (defScope sIsName) := ⟨rfl, rfl, rfl, by decide +kernel, rfl, by decide +kernel, by decide +kernel⟩
theorem ok_isName (F : Fun K "is_name" "is_name" sIsName f fd) (mi : mg "isinstance" = none) (ms : mg "str" = none) (ml : mg "len" = none) (ma : mg "all" = none) (mL : ∃ t, mg "LETTERS" = some (.str letters t)) (mM : ∃ t, mg "MOST_LETTERS" = some (.int 8 t)) :
    FnOk P w K mg base CX0 1 f fd ["thing"] spIsName := by
  obtain ⟨tL, mL⟩ := mL
  obtain ⟨tM, mM⟩ := mM
  refine F.ok scIsName (fun vs H Q E h => ?_) (fun cdv A outer s H vs Q E hr h => ?_)
  · obtain ⟨z, rfl, _⟩ := h
    rfl
  · obtain ⟨z, rfl, good, k⟩ := h
    refine ⟨_, pss_cons (ps_if (PW.pt (pw_or (pt_not (pt_val (pe_callB call_isi (by rfl) mi (by decide +kernel) (pa_cons (pv 0) (pa_cons (pe_bltn (v := .ty "str") (by rfl) ms (by decide +kernel) rfl) pa_nil))))) (pw_or1 (pt_not (pt_chain op_le op_le pe_int (pe_callB call_len (by rfl) ml PySem.boot_len (pa_cons (pv 0) pa_nil)) (pe_glob (v := .int 8) (by rfl) mM ⟨_, rfl⟩))))))
        (pss_one (ps_ret pe_bl)) pss_nil)
      (pss_one (ps_ret (pe_callB (cr_all rfl) (by rfl) ma (by decide +kernel) (pa_cons (pe_lc (own := [("letter", 1)]) (g := gName 1) (tt := tYes) rfl scIsName.nd (pi_str (pv 0)) (blkOk_by (N := nIsName) (sc := defScope sIsName) (by decide +kernel))
          (fun _ _ _ _ _ => pg_name (i := 1) scIsName.nd rfl (.inl rfl)) (fun _ _ _ _ _ => pts_nil) (fun _ _ _ _ _ => pe_cmpR op_in_sign (pv 1) (pe_glob (v := .str letters) (by rfl) mL ⟨_, rfl⟩) rfl)) pa_nil)))), ?_⟩
    have g1 := good.1
    have g2 := good.2.1
    have lz : z.length ≤ sizeLine := by rw [sizeLine_eq]; omega
    refine ⟨_, rfl, _, _, _, _, true, rfl, .ty "str", .base (.str z), kit_ty (by decide +kernel), _, rfl, ?_⟩
    refine iteF ⟨_, rfl, _, z.length, rfl, ⟨lz, rfl⟩, ?_⟩
    refine ⟨_, _, rfl, rfl, _, rfl, ?_⟩
    have d1 : decide ((1 : Int) ≤ ((z.length : Nat) : Int)) = true := decide_eq_true (by omega)
    have d2 : decide (((z.length : Nat) : Int) ≤ 8) = true := decide_eq_true (by omega)
    rw [d1]
    refine iteT ⟨_, _, rfl, rfl, _, rfl, ?_⟩
    rw [d2]
    refine iteF ⟨_, rfl, z, rfl, fun D hD => lc_it walk_str (fun i H2 => Same H H2 ∧ H2 D = some (.lst ((List.replicate i true).map V.bl))) ⟨same_new hD, upd_same⟩ (fun _ _ _ _ => trivial) ?_ ?_⟩
    · rintro i x H2 H3 hi ⟨sm, hD2⟩ ⟨rfl, ch, hch, rfl⟩
      have mem : ch ∈ z.cps.toList := List.mem_of_getElem? (by rw [Array.getElem?_toList]; exact hch)
      have zl : z.cps.size = z.length := rfl
      refine ⟨rfl, _, rfl, ch, letters, rfl, rfl, _, hD2, by rw [List.length_map, List.length_replicate, sizeLine_eq]; omega, fun b o e => (upd_ne (ne_of_none e hD)).trans (sm b o e), ?_⟩
      rw [upd_same, decide_eq_true (in_letters (good.2.2 ch mem)), List.replicate_succ', List.map_append]
      rfl
    · rintro H2 ⟨sm, hD2⟩
      refine ⟨D, _, rfl, SqL.of hD2, ?_⟩
      have e : (List.replicate z.cps.size true).all id = true := List.all_eq_true.mpr fun x hx => (List.mem_replicate.mp hx).2
      rw [e]
      exact k H2 sm
end
end K6
namespace K6
open PySem PySem.Spec PyProof.Rows L2 LamX NdefX EV
/-- a comprehension of two fors over any walks: the outer one, and the inner one within a turn of it -/
theorem lc2_it {J : It} {n : Nat} {G : Hp → Prop} {Y : Nat → Hp → V → Hp → Prop} (w : Walk J n G Y) {D : Addr} {H1 : Hp} {Qd : Hp → Prop} {T : (Hp → Prop) → V → Hp → Prop} (Pv : Nat → Hp → Prop) (start : Pv 0 (upd H1 D (.lst []))) (stay : ∀ i H, i ≤ n → Pv i H → G H)
    (turn : ∀ i x H H', i < n → Pv i H → Y i H x H' → T (Pv (i + 1)) x H') (fin : ∀ H, Pv n H → Qd H) :
    ∃ W : Nat → Nat → Hp → Prop, (∃ m, W 0 m (upd H1 D (.lst []))) ∧ ∀ i m H, W i m H → (J.stop i H ∧ Qd H) ∨ (J.go i H ∧ ∃ Nx : Hp → Prop, (∀ H', Nx H' → ∃ m', m' < m ∧ W (i + 1) m' H') ∧ ∀ x H', J.yld i H x H' → T Nx x H') := by
  refine ⟨fun i m H => i + m = n ∧ Pv i H, ⟨n, Nat.zero_add n, start⟩, fun i m H st => ?_⟩
  obtain ⟨sum, pv⟩ := st
  have g := stay i H (by omega) pv
  match m, sum with
  | 0, sum =>
    obtain rfl : i = n := sum
    exact .inl ⟨w.stops H g, fin H pv⟩
  | m + 1, sum => exact .inr ⟨w.goes i H (by omega) g, Pv (i + 1), fun H3 p3 => ⟨m, Nat.lt_succ_self m, by omega, p3⟩, fun x H3 y => turn i x H H3 (by omega) pv (w.yields i H x H3 (by omega) g y)⟩
theorem in_it {J : It} {n : Nat} {G : Hp → Prop} {Y : Nat → Hp → V → Hp → Prop} (w : Walk J n G Y) {H1 : Hp} {Nx : Hp → Prop} {T : (Hp → Prop) → V → Hp → Prop} (Pv : Nat → Hp → Prop) (start : Pv 0 H1) (stay : ∀ i H, i ≤ n → Pv i H → G H)
    (turn : ∀ i x H H', i < n → Pv i H → Y i H x H' → T (Pv (i + 1)) x H') (fin : ∀ H, Pv n H → Nx H) :
    ∃ W : Nat → Nat → Hp → Prop, (∃ m, W 0 m H1) ∧ ∀ i m H, W i m H → (J.stop i H ∧ Nx H) ∨ (J.go i H ∧ ∃ Nx1 : Hp → Prop, (∀ H', Nx1 H' → ∃ m', m' < m ∧ W (i + 1) m' H') ∧ ∀ x H', J.yld i H x H' → T Nx1 x H') := by
  refine ⟨fun i m H => i + m = n ∧ Pv i H, ⟨n, Nat.zero_add n, start⟩, fun i m H st => ?_⟩
  obtain ⟨sum, pv⟩ := st
  have g := stay i H (by omega) pv
  match m, sum with
  | 0, sum =>
    obtain rfl : i = n := sum
    exact .inl ⟨w.stops H g, fin H pv⟩
  | m + 1, sum => exact .inr ⟨w.goes i H (by omega) g, Pv (i + 1), fun H3 p3 => ⟨m, Nat.lt_succ_self m, by omega, p3⟩, fun x H3 y => turn i x H H3 (by omega) pv (w.yields i H x H3 (by omega) g y)⟩
/-! ### a literal's name -/
theorem starts_iff (x y : Str) : Txt.startswith x y = true ↔ StrLaws.At x y x.length 0 := by
  unfold Txt.startswith StrLaws.At
  simp
theorem starts_neg (n : Str) : Txt.startswith (neg n) (Str.ofString "-") = true := by
  refine (starts_iff _ _).mpr ((TL.at_iff (y := Str.ofString "-") (fun h => nomatch h) 0).mpr ?_)
  show TL.pre [45] ((neg n).cps.toList.drop 0) = true
  rw [neg_list]
  rfl
theorem starts_name {n : Str} (h : Name1 n) : Txt.startswith n (Str.ofString "-") = false := by
  cases e : Txt.startswith n (Str.ofString "-") with
  | false => rfl
  | true =>
    have z := (TL.at_iff (y := Str.ofString "-") (fun h => nomatch h) 0).mp ((starts_iff _ _).mp e)
    replace z : TL.pre [45] (n.cps.toList.drop 0) = true := z
    rw [List.drop_zero] at z
    cases q : n.cps.toList with
    | nil => rw [q] at z; cases z
    | cons c r =>
      rw [q] at z
      have hc := h.2.2 c (by rw [q]; exact List.mem_cons_self)
      have e45 : c = 45 := by simpa [TL.pre] using z
      omega
theorem cut_neg (n : Str) : cutS (neg n) (some 1) none = n := by
  obtain ⟨cs⟩ := n
  unfold cutS
  rw [HT.sIx_none, show HT.sIx (neg ⟨cs⟩).length 0 (some 1) = min 1 (neg ⟨cs⟩).length from HT.sIx_nat _ _ 1, neg_list, neg_len, Nat.min_eq_left (by omega)]
  show Str.mk ((cs.toList.take _).toArray) = _
  rw [List.take_of_length_le (by rw [Array.length_toList]; exact Nat.le_of_eq rfl), Array.toArray_toList]
def spNameOf : Sp := fun vs H Q _ => ∃ q : Bool × Str, vs = [.str (lit q)] ∧ Name1 q.2 ∧ Q (.str q.2) H
def spLits (K : PySem.W.Frag) : Sp := fun vs H Q _ => ∃ (T : Addr) (b : Bool) (ns : List Str), vs = [.ref T] ∧ Sq K b H T (ns.map V.str) ∧ (∀ H', Same H H' → Sq K b H' T (ns.map V.str)) ∧ ns.length ≤ 60 ∧ (∀ z ∈ ns, z.length ≤ 8) ∧
  ∀ (p : Addr) (H' : Hp), H p = none → H' p = some (.lst ((lits ns).map V.str)) → Same H H' → Q (.ref p) H'
section
variable {P : Program} {w : World} {K : PySem.W.Frag} {mg : Str → Option Value} {base : Heap} {f fI : Addr} {fd fdI : FuncData}
theorem scNameOf : FnScope ["literal"] ["literal"] (defScope sNameOf) := ⟨rfl, rfl, rfl, by decide +kernel, rfl, by decide +kernel, by decide +kernel⟩
theorem ok_nameOf (F : Fun K "name_of" "name_of" sNameOf f fd) : FnOk P w K mg base CX0 1 f fd ["literal"] spNameOf := by
  refine F.ok scNameOf (fun vs H Q E h => ?_) (fun cdv A outer s H vs Q E hr h => ?_)
  · obtain ⟨q, rfl, _⟩ := h
    rfl
  · obtain ⟨⟨b, n⟩, rfl, good, k⟩ := h
    have n8 := good.2.1
    replace n8 : n.length ≤ 8 := n8
    refine ⟨_, pss_cons (ps_if (pt_val (pe_m1 PySem.F.slot_str_startswith PySem.F.type_str_startswith mt_startswith (pv 0) pe_str)) (pss_one (ps_ret (pe_slice sl_str (pv 0) (po_some pe_int) po_none))) pss_nil) (pss_one (ps_ret (pv 0))), ?_⟩
    refine ⟨_, rfl, ⟨_, rfl⟩, _, _, rfl, rfl, _, rfl, ?_⟩
    cases b
    · rw [show Txt.startswith (lit (false, n)) (Str.ofString "-") = false from starts_name good]
      exact iteF ⟨_, rfl, k⟩
    · rw [show Txt.startswith (lit (true, n)) (Str.ofString "-") = true from starts_neg n]
      refine iteT ⟨_, rfl, _, rfl, lit (true, n), rfl, ?_, ?_⟩
      · show (neg n).length ≤ sizeLine
        rw [neg_len, sizeLine_eq]
        omega
      · rw [show cutS (lit (true, n)) (some 1) none = n from cut_neg n]
        exact k
abbrev nLits : List Str := ["names", "name", "literal"]
theorem scLits : FnScope nLits ["names"] (defScope sLits) := ⟨rfl, rfl, rfl, by decide +kernel, rfl, by decide +kernel, by decide +kernel⟩
theorem ok_lits (F : Fun K "literals_of" "literals_of" sLits f fd) : FnOk P w K mg base CX0 1 f fd ["names"] (spLits K) := by
  refine F.ok scLits (fun vs H Q E h => ?_) (fun cdv A outer s H vs Q E hr h => ?_)
  · obtain ⟨T, b, ns, rfl, _⟩ := h
    rfl
  · obtain ⟨T, b, ns, rfl, hT, hT', hn, h8, k⟩ := h
    refine ⟨_, pss_one (ps_ret (pe_lc2 (own := [("name", 1), ("literal", 2)]) (vs1 := [2]) (g := gName 1) (tt := tYes) (g1 := gName 2) (tt1 := tYes) rfl scLits.nd (pi_seq (pv 0)) (blkOk_by (N := nLits) (sc := defScope sLits) (by decide +kernel)) (by decide)
          (fun _ _ _ _ _ => pg_name (i := 1) scLits.nd rfl (.inl rfl)) (fun _ _ _ _ _ => pts_nil) (fun _ _ _ _ _ => show PI _ _ _ (iTup K _) from pi_tup (pe_tup (pa_cons (pv 1) (pa_cons (pe_op op_add_str pe_str (pv 1)) pa_nil)))) (fun _ _ _ _ _ => pg_name (i := 2) scLits.nd rfl (.inl rfl)) (fun _ _ _ _ _ => pts_nil) (fun _ _ _ _ _ => pv 2))), ?_⟩
    refine ⟨_, rfl, b, T, _, rfl, hT, fun D hD => lc2_it walk_sq (fun i H2 => Same H H2 ∧ H2 D = some (.lst ((lits (ns.take i)).map V.str))) ⟨same_new hD, upd_same⟩ (fun i H2 _ hh => hT' _ hh.1) ?_ ?_⟩
    · rintro i x H2 H3 hi ⟨sm, hD2⟩ ⟨rfl, hx⟩
      obtain ⟨n, hn', rfl⟩ := get_map hx
      have n8 := h8 n (List.mem_of_getElem? hn')
      have e : ns.take (i + 1) = ns.take i ++ [n] := by rw [List.take_succ, hn']; rfl
      have lt : (lits (ns.take i)).length ≤ 120 := by
        rw [lits_len]
        have := List.length_take_le i ns
        have := List.length_take_le' i ns
        omega
      refine ⟨rfl, _, rfl, _, rfl, _, _, rfl, rfl, by show 1 + n.length ≤ sizeLine; rw [sizeLine_eq]; omega, by show 2 ≤ sizeLine; decide, fun t ht => ⟨t, rfl, ⟨_, SqT.of upd_same⟩, in_it (walk_tup (xs := [V.str n, V.str (neg n)])) (fun j H4 => Same H H4 ∧ H4 t = some (.tup [.str n, .str (neg n)]) ∧ H4 D = some (.lst ((lits (ns.take i) ++ [n, neg n].take j).map V.str))) ?_ (fun j H4 _ hh => ?_) ?_ ?_⟩⟩
      · refine ⟨sm.trans (same_new ht), upd_same, ?_⟩
        rw [List.take_zero, List.append_nil]
        exact (upd_ne (ne_of_none hD2 ht)).trans hD2
      · exact SqT.of hh.2.1
      · rintro j y H4 H5 hj ⟨sm4, ht4, hD4⟩ ⟨rfl, hy⟩
        obtain ⟨l, hl, rfl⟩ := get_map (g := V.str) (xs := [n, neg n]) hy
        have e2 : [n, neg n].take (j + 1) = [n, neg n].take j ++ [l] := by rw [List.take_succ, hl]; rfl
        refine ⟨rfl, _, rfl, _, hD4, ?_, fun b o h => (upd_ne (ne_of_none h hD)).trans (sm4 b o h), (upd_ne (ne_of ht4 hD4 fun z => nomatch z)).trans ht4, ?_⟩
        · rw [List.length_map, List.length_append, sizeLine_eq]
          have := List.length_take_le' j [n, neg n]
          have l5 : [n, neg n].length = 2 := rfl
          omega
        · rw [upd_same, e2, ← List.append_assoc, List.map_append (l₁ := _ ++ _)]
          rfl
      · rintro H4 ⟨sm4, _, hD4⟩
        refine ⟨sm4, ?_⟩
        rw [hD4, e]
        unfold lits
        rw [List.flatMap_append]
        rfl
    · rintro H2 ⟨sm, hD2⟩
      rw [List.length_map, List.take_length] at hD2
      exact k D H2 hD hD2 sm
end
end K6
namespace K6
open PySem PySem.Spec PyProof.Rows L2 LamX NdefX EV
/-! ### places -/
theorem neg_inj {m n : Str} (h : neg m = neg n) : m = n := by
  have z := congrArg (fun s : Str => s.cps.toList) h
  replace z : (neg m).cps.toList = (neg n).cps.toList := z
  rw [neg_list, neg_list] at z
  injection z with _ z
  obtain ⟨a⟩ := m
  obtain ⟨b⟩ := n
  rw [show a = b from Array.toList_inj.mp z]
theorem name_neg {m n : Str} (h : Name1 m) (e : m = neg n) : False := by
  have z := h.2.2 45 (by rw [e, neg_list]; exact List.mem_cons_self)
  omega
theorem lits_nodup : ∀ ns : List Str, ns.Nodup → (∀ z ∈ ns, Name1 z) → (lits ns).Nodup
  | [], _, _ => List.nodup_nil
  | n :: r, nd, good => by
    have nd' := List.nodup_cons.mp nd
    have gn := good n List.mem_cons_self
    have gr : ∀ z ∈ r, Name1 z := fun z h => good z (List.mem_cons_of_mem _ h)
    have ih := lits_nodup r nd'.2 gr
    have h1 : n ∉ lits r := fun h => by
      obtain ⟨m, hm, hl⟩ := List.mem_flatMap.mp h
      rcases List.mem_cons.mp hl with q | q
      · exact nd'.1 (q ▸ hm)
      · exact name_neg gn (List.mem_singleton.mp q)
    have h2 : neg n ∉ lits r := fun h => by
      obtain ⟨m, hm, hl⟩ := List.mem_flatMap.mp h
      rcases List.mem_cons.mp hl with q | q
      · exact name_neg (gr m hm) q.symm
      · exact nd'.1 (neg_inj (List.mem_singleton.mp q) ▸ hm)
    show (n :: neg n :: lits r).Nodup
    refine List.nodup_cons.mpr ⟨fun h => ?_, List.nodup_cons.mpr ⟨h2, ih⟩⟩
    rcases List.mem_cons.mp h with q | q
    · exact name_neg gn q
    · exact h1 q
/-- each text with its place, from k on -/
def plcF : Nat → List Str → List (Key × V)
  | _, [] => []
  | k, l :: r => (Sum.inr l, .int (k : Int)) :: plcF (k + 1) r
theorem plcF_snoc (l : Str) : ∀ (xs : List Str) (k : Nat), plcF k (xs ++ [l]) = plcF k xs ++ [(Sum.inr l, .int ((k + xs.length : Nat) : Int))]
  | [], k => rfl
  | x :: r, k => by
    show (Sum.inr x, V.int k) :: plcF (k + 1) (r ++ [l]) = _
    rw [plcF_snoc l r (k + 1), show k + 1 + r.length = k + (x :: r).length by rw [List.length_cons]; omega]
    rfl
theorem plcF_len : ∀ (xs : List Str) (k : Nat), (plcF k xs).length = xs.length
  | [], _ => rfl
  | x :: r, k => congrArg (· + 1) (plcF_len r (k + 1))
theorem plcF_at {l : Str} : ∀ (xs : List Str) (k i : Nat), xs.Nodup → xs[i]? = some l → valV (plcF k xs) (Sum.inr l) = some (.int ((k + i : Nat) : Int))
  | [], _, i, _, h => by simp at h
  | x :: r, k, 0, _, h => by
    obtain rfl : x = l := by simpa using h
    exact valV_pos rfl
  | x :: r, k, i + 1, nd, h => by
    have nd' := List.nodup_cons.mp nd
    have h' : r[i]? = some l := by simpa using h
    have ne : ¬ (Sum.inr x : Key) = Sum.inr l := fun e => by
      injection e with e
      exact nd'.1 (e ▸ List.mem_of_getElem? h')
    show valV ((Sum.inr x, V.int k) :: plcF (k + 1) r) _ = _
    rw [valV_neg ne, plcF_at r (k + 1) i nd'.2 h', show k + 1 + i = k + (i + 1) by omega]
theorem plcF_none {l : Str} : ∀ (xs : List Str) (k : Nat), l ∉ xs → valV (plcF k xs) (Sum.inr l) = none
  | [], _, _ => rfl
  | x :: r, k, h => by
    have ne : ¬ (Sum.inr x : Key) = Sum.inr l := fun e => by
      injection e with e
      exact h (e ▸ List.mem_cons_self)
    show valV ((Sum.inr x, V.int k) :: plcF (k + 1) r) _ = _
    rw [valV_neg ne]
    exact plcF_none r (k + 1) fun q => h (List.mem_cons_of_mem _ q)
theorem putK_new {κ : Type} [DecidableEq κ] {kvs : List (κ × V)} {k : κ} {v : V} (h : valV kvs k = none) : putK kvs k v = kvs ++ [(k, v)] := by
  unfold putK
  rw [valV_any, h]
  rfl
abbrev plc (ns : List Str) : List (Key × V) := plcF 0 (lits ns)
def spPlaces (K : PySem.W.Frag) : Sp := fun vs H Q _ => ∃ (T : Addr) (b : Bool) (ns : List Str), vs = [.ref T] ∧ Sq K b H T (ns.map V.str) ∧ (∀ H', Same H H' → Sq K b H' T (ns.map V.str)) ∧ ns.length ≤ 60 ∧ ns.Nodup ∧ (∀ z ∈ ns, Name1 z) ∧
  ∀ (p : Addr) (H' : Hp), H p = none → H' p = some (.dK (plc ns)) → Same H H' → Q (.ref p) H'
section
variable {P : Program} {w : World} {K : PySem.W.Frag} {mg : Str → Option Value} {base : Heap} {f fL : Addr} {fd fdL : FuncData}
abbrev nPlaces : List Str := ["names", "place", "literal"]
theorem scPlaces : FnScope nPlaces ["names"] (defScope sPlaces) := ⟨rfl, rfl, rfl, by decide +kernel, rfl, by decide +kernel, by decide +kernel⟩
theorem ok_places (F : Fun K "places_of" "places_of" sPlaces f fd) (GL : FnOk P w K mg base CX0 1 fL fdL ["names"] (spLits K)) (mL : mg "literals_of" = some (.ref fL)) (kL : PySem.W.keepIn K (.ref fL) = true) (bL : L2.Binds K fdL ["names"] []) (me : mg "enumerate" = none) :
    FnOk P w K mg base CX0 2 f fd ["names"] (spPlaces K) := by
  refine F.ok scPlaces (fun vs H Q E h => ?_) (fun cdv A outer s H vs Q E hr h => ?_)
  · obtain ⟨T, b, ns, rfl, _⟩ := h
    rfl
  · obtain ⟨T, b, ns, rfl, hT, hT', hn, nd, good, k⟩ := h
    have hu := hu_of hr
    refine ⟨_, pss_one (ps_ret (pe_dcP (own := [("place", 1), ("literal", 2)]) .k rfl hu scPlaces.nd (pi_enumB (by rfl) me (pa_cons (pe_call GL hr (by rfl) mL kL bL .nil pass0 (pa_cons (pv 0) pa_nil)) pa_nil)) (blkOk_by (N := nPlaces) (sc := defScope sPlaces) (by decide +kernel))
          (fun _ _ _ _ _ => show PG _ _ (gTup K 2 _) from pg_tup rfl (pgs_cons (pg_name (i := 1) scPlaces.nd rfl (.inl rfl)) (pgs_cons (pg_name (i := 2) scPlaces.nd rfl (.inl rfl)) pgs_nil))) (fun _ _ _ _ _ => pts_nil) (fun _ _ _ _ _ => pv 2) (fun _ _ _ _ _ => pv 1))), ?_⟩
    refine ⟨_, rfl, T, b, ns, rfl, hT, hT', hn, (fun z hz => (good z hz).2.1), fun p H1 hp hp1 sm1 => ⟨true, p, _, rfl, Sq.lst hp1, fun D hD => dc_it walk_enumB (fun i H2 => Same H1 H2 ∧ H2 D = some (.dK (plcF 0 ((lits ns).take i)))) ⟨same_new hD, upd_same⟩ (fun i H2 _ hh => Sq.lst (hh.1 _ _ hp1)) ?_ ?_⟩⟩
    · rintro i x H2 H3 hi ⟨sm, hD2⟩ ⟨t, v1, v2, rfl, ht, rfl, hv1, hv2⟩
      obtain ⟨l, hl, rfl⟩ := get_map hv2
      obtain rfl := Option.some.inj hv1
      have ilt : i < (lits ns).length := (List.getElem?_eq_some_iff.mp hl).1
      have l120 := lits_len ns
      have fresh : l ∉ (lits ns).take i := fun h => by
        obtain ⟨j, hj, hj2⟩ := List.getElem_of_mem h
        have jlt : j < i := by rw [List.length_take] at hj; omega
        have z : (lits ns)[j]? = some l := by
          rw [List.getElem_take] at hj2
          rw [← hj2]
          exact List.getElem?_eq_getElem _
        exact absurd ((List.getElem?_inj (by omega) (lits_nodup ns nd good)).mp (z.trans hl.symm)) (by omega)
      have hD3 := (upd_ne (o := .tup [.int (i : Nat), .str l]) (ne_of_none hD2 ht)).trans hD2
      refine ⟨t, _, rfl, SqT.of upd_same, rfl, _, _, rfl, _, _, rfl, rfl, rfl, _, rfl, _, rfl, _, DPut.k (k := Sum.inr l) hD3 (by rw [plcF_len, List.length_take, sizeLine_eq]; omega), fun b o h => (upd_ne (ne_of_none h hD)).trans ((same_new ht) _ _ (sm b o h)), ?_⟩
      rw [upd_same, putK_new (plcF_none _ 0 fresh), List.take_succ, hl]
      show _ = some (HO.dK (plcF 0 ((lits ns).take i ++ [l])))
      rw [plcF_snoc, List.length_take, Nat.min_eq_left (Nat.le_of_lt ilt), Nat.zero_add]
    · rintro H2 ⟨sm, hD2⟩
      rw [List.length_map, List.take_length] at hD2
      exact k D H2 (sm1.free hD) hD2 (sm1.trans sm)
end
end K6
namespace K6
open PySem PySem.Spec PyProof.Rows L2 LamX NdefX EV
/-! ### rising lists -/
theorem rise_eq : ∀ (a b : List Int), a.Pairwise (· < ·) → b.Pairwise (· < ·) → (∀ x, x ∈ a ↔ x ∈ b) → a = b
  | [], [], _, _, _ => rfl
  | [], y :: b, _, _, h => absurd ((h y).mpr List.mem_cons_self) (fun z => nomatch z)
  | x :: a, [], _, _, h => absurd ((h x).mp List.mem_cons_self) (fun z => nomatch z)
  | x :: a, y :: b, pa, pb, h => by
    have pa' := List.pairwise_cons.mp pa
    have pb' := List.pairwise_cons.mp pb
    have exy : x = y := by
      rcases List.mem_cons.mp ((h x).mp List.mem_cons_self) with q | q
      · exact q
      · rcases List.mem_cons.mp ((h y).mpr List.mem_cons_self) with q' | q'
        · exact q'.symm
        · have z1 := pb'.1 x q
          have z2 := pa'.1 y q'
          omega
    subst exy
    rw [rise_eq a b pa'.2 pb'.2 fun z => ?_]
    constructor
    · intro hz
      rcases List.mem_cons.mp ((h z).mp (List.mem_cons_of_mem _ hz)) with q | q
      · have := pa'.1 z hz
        omega
      · exact q
    · intro hz
      rcases List.mem_cons.mp ((h z).mpr (List.mem_cons_of_mem _ hz)) with q | q
      · have := pb'.1 z hz
        omega
      · exact q
theorem rise_strict : ∀ {a : List Int}, a.Pairwise (· ≤ ·) → a.Nodup → a.Pairwise (· < ·)
  | [], _, _ => .nil
  | x :: r, h, nd => by
    have h' := List.pairwise_cons.mp h
    have nd' := List.nodup_cons.mp nd
    exact List.pairwise_cons.mpr ⟨fun y hy => by
      have z := h'.1 y hy
      have ne : x ≠ y := fun e => nd'.1 (e ▸ hy)
      omega, rise_strict h'.2 nd'.2⟩
def txt (xs : List Str) (j : Nat) : Str := xs.getD j (Str.ofString "")
theorem txt_at {xs : List Str} {j : Nat} {l : Str} (h : xs[j]? = some l) : txt xs j = l := by
  unfold txt
  rw [List.getD_eq_getElem?_getD, h]
  rfl
theorem map_txt (xs : List Str) : (List.range xs.length).map (txt xs) = xs := by
  refine List.ext_getElem (by rw [List.length_map, List.length_range]) fun i h1 h2 => ?_
  rw [List.getElem_map, List.getElem_range]
  exact txt_at (List.getElem?_eq_getElem h2)
/-- the places of what is wanted, rising: their texts are the wanted ones of all, in order -/
theorem rise_filter {xs ls : List Str} {js : List Int} {is : List Nat} (hp : js.Perm (is.map fun j : Nat => (j : Int))) (hs : js.Pairwise (· ≤ ·)) (nd : is.Nodup) (mem : ∀ j, j ∈ is ↔ j < xs.length ∧ txt xs j ∈ ls) :
    js.map (fun j => txt xs j.toNat) = xs.filter fun l => decide (l ∈ ls) := by
  have inj : ∀ a b : Nat, a ≠ b → (a : Int) ≠ (b : Int) := fun a b h e => h (by omega)
  have ndj : js.Nodup := hp.nodup_iff.mpr (List.Pairwise.map _ (fun a b h => inj a b h) nd)
  have e : js = ((List.range xs.length).filter fun j => decide (txt xs j ∈ ls)).map fun j : Nat => (j : Int) := by
    refine rise_eq _ _ (rise_strict hs ndj) (List.Pairwise.map _ (fun a b h => by omega) (List.Pairwise.filter _ List.pairwise_lt_range)) fun x => ?_
    rw [hp.mem_iff, List.mem_map, List.mem_map]
    constructor
    · rintro ⟨j, hj, rfl⟩
      have z := (mem j).mp hj
      exact ⟨j, List.mem_filter.mpr ⟨List.mem_range.mpr z.1, decide_eq_true z.2⟩, rfl⟩
    · rintro ⟨j, hj, rfl⟩
      have z := List.mem_filter.mp hj
      exact ⟨j, (mem j).mpr ⟨List.mem_range.mp z.1, of_decide_eq_true z.2⟩, rfl⟩
  rw [e, List.map_map]
  have e2 : ((fun j : Int => txt xs j.toNat) ∘ fun j : Nat => (j : Int)) = txt xs := by
    funext j
    show txt xs (j : Int).toNat = _
    rw [Int.toNat_natCast]
  rw [e2]
  have z := List.filter_map (f := txt xs) (p := fun l => decide (l ∈ ls)) (l := List.range xs.length)
  rw [map_txt] at z
  exact z.symm
def entry (xs : List Str) (j : Nat) : Key × V := (Sum.inl (j : Int), .str (txt xs j))
theorem entry_val {xs : List Str} {j : Nat} : ∀ is : List Nat, j ∈ is → valV (is.map (entry xs)) (Sum.inl (j : Int)) = some (.str (txt xs j))
  | [], h => nomatch h
  | i :: r, h => by
    by_cases e : i = j
    · subst e
      exact valV_pos rfl
    · have ne : ¬ (entry xs i).1 = Sum.inl (j : Int) := fun q => by
        have q : (Sum.inl (i : Int) : Key) = Sum.inl (j : Int) := q
        injection q with q
        omega
      rw [List.map_cons, valV_neg ne]
      exact entry_val r ((List.mem_cons.mp h).resolve_left fun q => e q.symm)
theorem entry_none {xs : List Str} {j : Nat} : ∀ is : List Nat, j ∉ is → valV (is.map (entry xs)) (Sum.inl (j : Int)) = none
  | [], _ => rfl
  | i :: r, h => by
    have ne : ¬ (entry xs i).1 = Sum.inl (j : Int) := fun q => by
      have q : (Sum.inl (i : Int) : Key) = Sum.inl (j : Int) := q
      injection q with q
      exact h (by rw [show j = i by omega]; exact List.mem_cons_self)
    rw [List.map_cons, valV_neg ne]
    exact entry_none r fun q => h (List.mem_cons_of_mem _ q)
theorem entry_put {xs : List Str} {is : List Nat} {j : Nat} : putK (is.map (entry xs)) (Sum.inl (j : Int)) (.str (txt xs j)) = (if j ∈ is then is else is ++ [j]).map (entry xs) := by
  by_cases h : j ∈ is
  · rw [if_pos h]
    unfold putK
    rw [valV_any, entry_val is h]
    show List.map (fun kv => if kv.1 = Sum.inl (j : Int) then (kv.1, V.str (txt xs j)) else kv) (List.map (entry xs) is) = _
    rw [List.map_map]
    refine List.map_congr_left fun i _ => ?_
    show (if (entry xs i).1 = _ then _ else _) = _
    by_cases e : i = j
    · subst e
      exact (if_pos rfl).trans rfl
    · refine if_neg fun q => ?_
      have q : (Sum.inl (i : Int) : Key) = Sum.inl (j : Int) := q
      injection q with q
      omega
  · rw [if_neg h, putK_new (entry_none is h), List.map_append]
    rfl
def spInOrder (K : PySem.W.Frag) : Sp := fun vs H Q _ => ∃ (PL A : Addr) (b : Bool) (ns ls : List Str), vs = [.ref PL, .ref A] ∧ H PL = some (.dK (plc ns)) ∧ Sq K b H A (ls.map V.str) ∧ (∀ H', Same H H' → Sq K b H' A (ls.map V.str)) ∧ ns.length ≤ 60 ∧ ns.Nodup ∧ (∀ z ∈ ns, Name1 z) ∧ (∀ l ∈ ls, l ∈ lits ns) ∧
  ∀ (p : Addr) (H' : Hp), H p = none → H' p = some (.tup ((asc ns ls).map V.str)) → Same H H' → Q (.ref p) H'
section
variable {P : Program} {w : World} {K : PySem.W.Frag} {mg : Str → Option Value} {base : Heap} {f : Addr} {fd : FuncData}
abbrev nInOrder : List Str := ["places", "literals", "by_place", "literal", "place"]
theorem scInOrder : FnScope nInOrder ["places", "literals"] (defScope sInOrder) := ⟨rfl, rfl, rfl, by decide +kernel, rfl, by decide +kernel, by decide +kernel⟩
theorem ok_inOrder (F : Fun K "in_order" "in_order" sInOrder f fd) (mt : mg "tuple" = none) (ms : mg "sorted" = none) (mi : mg "int" = none) : FnOk P w K mg base CX0 1 f fd ["places", "literals"] (spInOrder K) := by
  refine F.ok scInOrder (fun vs H Q E h => ?_) (fun cdv A outer s H vs Q E hr h => ?_)
  · obtain ⟨PL, A, b, ns, ls, rfl, _⟩ := h
    rfl
  · obtain ⟨PL, A, b, ns, ls, rfl, hPL, hA, hA', hn, nd, good, sub, k⟩ := h
    have hu := hu_of hr
    refine ⟨_, pss_cons (ps_set (i := 2) scInOrder.nd rfl (.inr rfl) (pe_dcP (own := [("literal", 3)]) .k rfl hu scInOrder.nd (pi_seq (pv 1)) (blkOk_by (N := nInOrder) (sc := defScope sInOrder) (by decide +kernel))
          (fun _ _ _ _ _ => pg_name (i := 3) scInOrder.nd rfl (.inl rfl)) (fun _ _ _ _ _ => pts_nil) (fun _ _ _ _ _ => pe_dget hu (pv 0) (pv 3) (fun _ _ => rfl)) (fun _ _ _ _ _ => pv 3)))
      (pss_one (ps_ret (pe_tupleOf (by rfl) mt (pe_lc (own := [("place", 4)]) (g := gName 4) (tt := tYes) rfl scInOrder.nd
          (pi_list (pe_callB cr_sortedI (by rfl) ms (by decide +kernel) (pa_cons (pe_lock (pe_lc (own := [("place", 4)]) (g := gName 4) (tt := tYes) rfl scInOrder.nd (pi_keys (pv 2)) (blkOk_by (N := nInOrder) (sc := defScope sInOrder) (by decide +kernel))
            (fun _ _ _ _ _ => pg_name (i := 4) scInOrder.nd rfl (.inl rfl)) (fun _ _ _ _ _ => pts_nil) (fun _ _ _ _ _ => pe_callTy call_int1 (by rfl) mi (by decide +kernel) (pa_cons (pv 4) pa_nil)))) pa_nil)))
          (blkOk_by (N := nInOrder) (sc := defScope sInOrder) (by decide +kernel))
          (fun _ _ _ _ _ => pg_name (i := 4) scInOrder.nd rfl (.inl rfl)) (fun _ _ _ _ _ => pts_nil) (fun _ _ _ _ _ => pe_dget hu (pv 2) (pv 4) (fun _ _ => rfl)))))), ?_⟩
    have ndl := lits_nodup ns nd good
    have l120 := lits_len ns
    refine ⟨_, rfl, b, A, _, rfl, hA, fun D hD => dc_it walk_sq (fun i H2 => Same H H2 ∧ ∃ is : List Nat, H2 D = some (.dK (is.map (entry (lits ns)))) ∧ is.Nodup ∧ ∀ j, j ∈ is ↔ j < (lits ns).length ∧ txt (lits ns) j ∈ ls.take i) ⟨same_new hD, [], upd_same, List.nodup_nil, fun j => ⟨fun h => (nomatch h), fun h => by simp at h⟩⟩ (fun i H2 _ hh => hA' _ hh.1) ?_ ?_⟩
    · rintro i x H2 H3 hi ⟨sm, is, hD2, ndi, mem⟩ ⟨rfl, hx⟩
      obtain ⟨l, hl, rfl⟩ := get_map hx
      obtain ⟨j, hj, ej⟩ := List.getElem_of_mem (sub l (List.mem_of_getElem? hl))
      have hj' : (lits ns)[j]? = some l := by rw [← ej]; exact List.getElem?_eq_getElem hj
      have tj := txt_at hj'
      have g : DGet H3 PL (.str l) (some (.int (j : Int))) := by
        have z := DGet.k (k := Sum.inr l) (sm _ _ hPL)
        rw [plcF_at _ 0 j ndl hj', Nat.zero_add] at z
        exact z
      have few : is.length ≤ (lits ns).length := by
        have z := nodup_le is (List.range (lits ns).length) ndi fun a ha => List.mem_range.mpr ((mem a).mp ha).1
        rwa [List.length_range] at z
      refine ⟨rfl, _, rfl, _, rfl, PL, _, rfl, g, _, rfl, _, DPut.k (k := Sum.inl (j : Int)) hD2 (by rw [List.length_map, sizeLine_eq]; omega), fun c o h => (upd_ne (ne_of_none h hD)).trans (sm c o h), if j ∈ is then is else is ++ [j], ?_, ?_, ?_⟩
      · rw [upd_same, ← tj, entry_put]
      · split
        · exact ndi
        · rename_i q
          exact List.nodup_append.mpr ⟨ndi, List.nodup_cons.mpr ⟨fun h => (nomatch h), List.nodup_nil⟩, fun a ha c hc e => q (by rw [← List.mem_singleton.mp hc, ← e]; exact ha)⟩
      · intro m
        rw [List.take_succ, hl]
        have uniq : ∀ m, m < (lits ns).length → (txt (lits ns) m = l ↔ m = j) := fun m hm => by
          constructor
          · intro e
            have z : (lits ns)[m]? = some l := by rw [← e]; exact (List.getElem?_eq_getElem hm).trans (congrArg some (txt_at (List.getElem?_eq_getElem hm)).symm)
            exact (List.getElem?_inj hm ndl).mp (z.trans hj'.symm)
          · rintro rfl
            exact tj
        have old := mem m
        by_cases q : j ∈ is
        · rw [if_pos q, old]
          constructor
          · exact fun h => ⟨h.1, List.mem_append.mpr (.inl h.2)⟩
          · rintro ⟨h1, h2⟩
            rcases List.mem_append.mp h2 with z | z
            · exact ⟨h1, z⟩
            · obtain rfl := (uniq m h1).mp (List.mem_singleton.mp z)
              exact old.mp q
        · rw [if_neg q, List.mem_append, old]
          constructor
          · rintro (h | h)
            · exact ⟨h.1, List.mem_append.mpr (.inl h.2)⟩
            · obtain rfl := List.mem_singleton.mp h
              exact ⟨hj, List.mem_append.mpr (.inr (List.mem_singleton.mpr tj))⟩
          · rintro ⟨h1, h2⟩
            rcases List.mem_append.mp h2 with z | z
            · exact .inl ⟨h1, z⟩
            · exact .inr (List.mem_singleton.mpr ((uniq m h1).mp (List.mem_singleton.mp z)))
    · rintro H2 ⟨sm, is, hD2, ndi, mem⟩
      rw [List.length_map, List.take_length] at mem
      have few : is.length ≤ (lits ns).length := by
        have z := nodup_le is (List.range (lits ns).length) ndi fun a ha => List.mem_range.mpr ((mem a).mp ha).1
        rwa [List.length_range] at z
      refine ⟨D, _, hD2, trivial, fun od => ⟨_, rfl, D, od, rfl, .inl ⟨_, upd_same, fun L hL => lc_it walk_keys (fun i H3 => H3 D = some (.frz od (.dK (is.map (entry (lits ns))))) ∧ H3 L = some (.lst ((is.take i).map fun j : Nat => V.int (j : Int))) ∧ ∀ c o, c ≠ D → H2 c = some o → H3 c = some o) ?_ (fun i H3 _ hh => hh.1) ?_ ?_⟩⟩⟩
      · have nDL : D ≠ L := ne_of_none (show upd H2 D (.frz od _) D = some _ from upd_same) hL
        exact ⟨(upd_ne nDL).trans upd_same, upd_same, fun c o nc h => (upd_ne (ne_of_none ((upd_ne nc).trans h) hL)).trans ((upd_ne nc).trans h)⟩
      · rintro i x H3 H4 hi ⟨hD3, hL3, keep⟩ ⟨rfl, kk, vv, hkv, rfl⟩
        obtain ⟨j, hj, ej⟩ := get_map hkv
        injection ej with e1 e2
        subst e1
        have ilt : i < is.length := (List.getElem?_eq_some_iff.mp hj).1
        have nDL : D ≠ L := ne_of_none (show upd H2 D (.frz od (.dK (is.map (entry (lits ns))))) D = some _ from upd_same) hL
        refine ⟨rfl, _, rfl, .inl ⟨_, rfl, _, hL3, by rw [List.length_map, List.length_take, sizeLine_eq]; omega, (upd_ne nDL).trans hD3, ?_, fun c o nc h => (upd_ne (ne_of_none ((upd_ne nc).trans h) hL)).trans (keep c o nc h)⟩⟩
        rw [upd_same, List.take_succ, hj, List.map_append]
        rfl
      · rintro H3 ⟨hD3, hL3, keep⟩
        rw [List.length_map, List.take_length] at hL3
        refine ⟨hD3, ?_⟩
        have nDL : L ≠ D := (ne_of_none (show upd H2 D (.frz od (.dK (is.map (entry (lits ns))))) D = some _ from upd_same) hL).symm
        have hL2 : H2 L = none := by
          have z := hL
          rwa [upd_ne nDL] at z
        generalize eH : upd H3 D (.dK (is.map (entry (lits ns)))) = H4
        have hD4 : H4 D = some (.dK (is.map (entry (lits ns)))) := eH ▸ upd_same
        have hL4 : H4 L = some (.lst (is.map fun j : Nat => V.int (j : Int))) := eH ▸ (upd_ne nDL).trans hL3
        have sm4 : Same H2 H4 := fun c o h => by
          by_cases e : c = D
          · subst e
            rw [hD2] at h
            rw [hD4, ← h]
          · rw [← eH]
            exact (upd_ne e).trans (keep c o e h)
        have eL : (is.map fun j : Nat => V.int (j : Int)) = (is.map fun j : Nat => (j : Int)).map V.int := by rw [List.map_map]; rfl
        refine ⟨L, is.map fun j : Nat => (j : Int), rfl, SqL.of (eL ▸ hL4), fun js p perm rise hp => ⟨p, rfl, ⟨_, SqL.of upd_same⟩, fun D2 hD2' => lc_list (K := K) (a := p) (xs := js.map V.int) (fun i H5 => Same (upd H4 p (.lst (js.map V.int))) H5 ∧ H5 D2 = some (.lst ((js.take i).map fun j => V.str (txt (lits ns) j.toNat)))) ⟨same_new hD2', upd_same⟩ (fun i H5 _ hh => SqL.of (hh.1 _ _ upd_same)) ?_ ?_⟩⟩
        · rintro i x H5 hx ⟨sm5, hD5⟩
          obtain ⟨jz, hjz, rfl⟩ := get_map hx
          obtain ⟨j, hj, rfl⟩ := List.mem_map.mp (perm.mem_iff.mp (List.mem_of_getElem? hjz))
          have lj : js.length = is.length := by
            have z := perm.length_eq
            rwa [List.length_map] at z
          have hDD : H5 D = some (.dK (is.map (entry (lits ns)))) := sm5 _ _ ((same_new hp) _ _ hD4)
          have g : DGet H5 D (.int (j : Int)) (some (.str (txt (lits ns) j))) := by
            have z := DGet.k (k := Sum.inl (j : Int)) hDD
            rw [entry_val is hj] at z
            exact z
          refine ⟨rfl, _, rfl, _, rfl, D, _, rfl, g, _, hD5, by rw [List.length_map, List.length_take, sizeLine_eq]; omega, fun c o h => (upd_ne (ne_of_none h hD2')).trans (sm5 c o h), ?_⟩
          rw [upd_same, List.take_succ, hjz, List.map_append]
          show _ = some (HO.lst (_ ++ [V.str (txt (lits ns) ((j : Int)).toNat)]))
          rw [Int.toNat_natCast]
        · rintro H5 ⟨sm5, hD5⟩
          rw [List.length_map, List.take_length] at hD5
          have e6 := rise_filter (xs := lits ns) (ls := ls) perm rise ndi mem
          have smF : Same H H5 := (sm.trans sm4).trans ((same_new hp).trans sm5)
          refine .inl ⟨D2, _, rfl, SqL.of hD5, fun q hq => k q _ (smF.free hq) ?_ (smF.trans (same_new hq))⟩
          rw [upd_same]
          have e7 : (js.map fun j => V.str (txt (lits ns) j.toNat)) = (js.map fun j => txt (lits ns) j.toNat).map V.str := by rw [List.map_map]; rfl
          rw [e7, e6]
          rfl
end
end K6
/-! A def whose one default is an empty tuple. -/
namespace EV
open PySem PySem.Spec PyProof.Rows L2
/-- the empty tuple at A0, in the part that stays -/
def NilT (K : PySem.W.Frag) (A0 : Addr) : Prop := ∃ (o : Obj) (n : Nat), K.lookup A0 = some o ∧ o.cls = .type "tuple" ∧ o.data = .seq #[] n
theorem NilT.sq {K : PySem.W.Frag} {A0 : Addr} (h : NilT K A0) (H : Hp) : SqT K H A0 [] := by
  obtain ⟨o, n, h1, h2, h3⟩ := h
  exact .inr ⟨o, #[], n, h1, h2, h3, Nat.zero_le _, .nil⟩
structure FunE (K : PySem.W.Frag) (x qual : Str) (st : Stmt) (f : Addr) (fd : FuncData) (A0 : Addr) : Prop where
  fn : FunD K x qual (defArgs st) (defBody st) (defScope st) [.ref A0] [] f fd
  e0 : NilT K A0
section
variable {P : Program} {w : World} {K : PySem.W.Frag} {mg : Str → Option Value} {base : Heap} {x qual : Str} {st : Stmt} {f A0 : Addr} {fd : FuncData}
theorem FunE.ok {N ps : List Str} {k : Nat} {sp : Sp} (F : FunE K x qual st f fd A0) (S : FnScope N ps (defScope st)) (len : ∀ vs H Q E, sp vs H Q E → vs.length = ps.length)
    (body : ∀ (cdv : Value) (A : Around) (outer : List Env) (s : Shared) (H : Hp) (vs : List V) (Q : VK) (E : XK), Room k (A.deeper (envOfC qual (defScope st) s.heap.objs.size f cdv)) → sp vs H Q E →
      ∃ t, PSs (cxOf CX0 P w K mg base N qual (defScope st) f cdv A outer s H E).nox (defBody st) t ∧ t { nx := fun _ H' => Q .non H', rt := Q } (start N vs) H) : FnOk P w K mg base CX0 (k + 1) f fd ps sp :=
  F.fn.ok S len fun cdv A outer s H vs Q E hr h => by
    obtain ⟨t, p, q⟩ := body cdv A outer s H vs Q E hr h
    exact ⟨t, p.nox, q⟩
theorem funE_mk {oc : Value} {od an : Option Addr} {osl : Array (Option Value)} {kV doc pm cdv ct : Value} {T : Addr} {o o2 : Obj} {n n2 : Nat}
    (l : K.lookup f = some ⟨oc, od, .func (PySem.W.fnOf x qual (defArgs st) (defBody st) (defScope st) (.ref T) kV doc pm an cdv ct), osl⟩) (c : PySem.W.codeIn K cdv qual = true) (k : PySem.W.keepIn K (.ref f) = true)
    (lT : K.lookup T = some o) (dT : o.data = .seq #[.ref A0] n) (lA : K.lookup A0 = some o2) (cA : o2.cls = .type "tuple") (dA : o2.data = .seq #[] n2) :
    FunE K x qual st f (PySem.W.fnOf x qual (defArgs st) (defBody st) (defScope st) (.ref T) kV doc pm an cdv ct) A0 :=
  ⟨⟨⟨oc, od, .ref T, kV, doc, pm, an, cdv, ct, osl, rfl, l, c, .inr ⟨by simp, T, o, [.ref A0], n, rfl, lT, dT, .cons rfl .nil⟩, .inl rfl⟩, k⟩, ⟨o2, n2, lA, cA, dA⟩⟩
/-- the default fills up -/
theorem FunE.short {ps : List Str} (F : FunE K x qual st f fd A0) (n : Nat) (hn : n + 1 = ps.length)
    (h : ∀ (T : Addr) (kV doc pm : Value) (an : Option Addr) (cdv ct : Value) (us its : List Value), us.length = n → its.length = 1 →
      ∃ k, bindArgs (PySem.W.fnOf x qual (defArgs st) (defBody st) (defScope st) (.ref T) kV doc pm an cdv ct) ⟨us, []⟩ = seqItems? (.ref T) >>= k ∧ k (some its.toArray) = pure (ps.zip (us ++ its))) : ∃ ds, Vals [.ref A0] ds ∧ Binds K fd ps ds :=
  F.fn.binds1 n 0 (by simp) hn fun T kV doc pm an cdv ct us its h1 h2 => h T kV doc pm an cdv ct us its h1 h2
/-- all is given -/
theorem FunE.full {ps : List Str} (F : FunE K x qual st f fd A0)
    (h : ∀ (T : Addr) (kV doc pm : Value) (an : Option Addr) (cdv ct : Value) (us its : List Value), us.length = ps.length → its.length = 1 →
      ∃ k, bindArgs (PySem.W.fnOf x qual (defArgs st) (defBody st) (defScope st) (.ref T) kV doc pm an cdv ct) ⟨us, []⟩ = seqItems? (.ref T) >>= k ∧ k (some its.toArray) = pure (ps.zip us)) : Binds K fd ps [] := by
  obtain ⟨ds, r, b⟩ := F.fn.binds1 (ps := ps) ps.length 1 (by simp) (by simp) fun T kV doc pm an cdv ct us its h1 h2 => by
    obtain ⟨k, e1, e2⟩ := h T kV doc pm an cdv ct us its h1 h2
    refine ⟨k, e1, ?_⟩
    have z : its.drop 1 = [] := List.drop_eq_nil_of_le (by rw [h2]; exact Nat.le_refl 1)
    rw [z, List.append_nil]
    exact e2
  cases r
  exact b
end
end EV
namespace K6
open PySem PySem.Spec PyProof.Rows L2 LamX NdefX EV
/-- a row that is never reached -/
theorem ps_none {X : Cx} {st : Stmt} : PS X st (fun _ _ _ => False) := ⟨fun pins s σ H D I h => h.elim⟩
def spIsList (K : PySem.W.Frag) : Sp := fun vs H Q _ => ∃ (x : V) (t : Value) (b : Bool), vs = [x] ∧ (∀ H', Same H H' → TyX K H' x t) ∧ PySem.W.kitAny K t [.type "list", .type "tuple"] = some b ∧ ∀ H', Same H H' → Q (.bl b) H'
/-- names that are checked; others that are taken -/
def spChkNames (K : PySem.W.Frag) : Sp := fun vs H Q _ => ∃ (T U : Addr) (b c : Bool) (ns tk : List Str), vs = [.ref T, .ref U] ∧ (∀ H', Same H H' → Sq K b H' T (ns.map V.str)) ∧ (∀ H', Same H H' → Sq K c H' U (tk.map V.str)) ∧ ns.length ≤ 60 ∧ tk.length ≤ 60 ∧ (tk ++ ns).Nodup ∧ (∀ z ∈ ns, Name1 z) ∧ ∀ H', Same H H' → Q .non H'
section
variable {P : Program} {w : World} {K : PySem.W.Frag} {mg : Str → Option Value} {base : Heap} {f fI fL fW : Addr} {fd fdI fdL fdW : FuncData}
theorem scIsList : FnScope ["thing"] ["thing"] (defScope sIsList) := ⟨rfl, rfl, rfl, by decide +kernel, rfl, by decide +kernel, by decide +kernel⟩
theorem ok_isList (F : Fun K "is_list" "is_list" sIsList f fd) (mi : mg "isinstance" = none) (ml : mg "list" = none) (mt : mg "tuple" = none) : FnOk P w K mg base CX0 1 f fd ["thing"] (spIsList K) := by
  refine F.ok scIsList (fun vs H Q E h => ?_) (fun cdv A outer s H vs Q E hr h => ?_)
  · obtain ⟨x, t, b, rfl, _⟩ := h
    rfl
  · obtain ⟨x, t, b, rfl, ty, kit, k⟩ := h
    refine ⟨_, pss_one (ps_ret (pe_callB call_isiT (by rfl) mi (by decide +kernel) (pa_cons (pv 0) (pa_cons (pe_tup (pa_cons (pe_bltn (v := .ty "list") (by rfl) ml (by decide +kernel) rfl) (pa_cons (pe_bltn (v := .ty "tuple") (by rfl) mt (by decide +kernel) rfl) pa_nil))) pa_nil)))), ?_⟩
    refine ⟨_, rfl, by show 2 ≤ sizeLine; decide, fun tp htp => ⟨x, tp, _, t, _, b, rfl, upd_same, .cons (.ty "list") (.cons (.ty "tuple") .nil), ty _ (same_new htp), kit, k _ (same_new htp)⟩⟩
abbrev nChk : List Str := ["things", "taken", "seen", "name", "index", "thing"]
theorem scChk : FnScope nChk ["things", "taken"] (defScope sChkNames) := ⟨rfl, rfl, rfl, by decide +kernel, rfl, by decide +kernel, by decide +kernel⟩
def seenKv (n : Str) : Key × V := (Sum.inr n, .bl true)
theorem seen_none {n : Str} : ∀ ns : List Str, n ∉ ns → valV (ns.map seenKv) (Sum.inr n) = none
  | [], _ => rfl
  | m :: r, h => by
    have ne : ¬ (seenKv m).1 = Sum.inr n := fun q => by
      have q : (Sum.inr m : Key) = Sum.inr n := q
      injection q with q
      exact h (q ▸ List.mem_cons_self)
    rw [List.map_cons, valV_neg ne]
    exact seen_none r fun q => h (List.mem_cons_of_mem _ q)
theorem seen_some {n : Str} : ∀ ns : List Str, n ∈ ns → valV (ns.map seenKv) (Sum.inr n) = some (.bl true)
  | [], h => nomatch h
  | m :: r, h => by
    by_cases e : m = n
    · subst e
      exact valV_pos rfl
    · have ne : ¬ (seenKv m).1 = Sum.inr n := fun q => by
        have q : (Sum.inr m : Key) = Sum.inr n := q
        injection q with q
        exact e q
      rw [List.map_cons, valV_neg ne]
      exact seen_some r ((List.mem_cons.mp h).resolve_left fun q => e q.symm)
theorem not_before {α : Type} {xs : List α} {i : Nat} {x : α} (nd : xs.Nodup) (h : xs[i]? = some x) : x ∉ xs.take i := fun m => by
  obtain ⟨j, hj, hj2⟩ := List.getElem_of_mem m
  have ilt := (List.getElem?_eq_some_iff.mp h).1
  have jlt : j < i := by rw [List.length_take] at hj; omega
  have z : xs[j]? = some x := by
    rw [List.getElem_take] at hj2
    rw [← hj2]
    exact List.getElem?_eq_getElem _
  exact absurd ((List.getElem?_inj (by omega) nd).mp (z.trans h.symm)) (by omega)
theorem nodup_right {α : Type} {xs ys : List α} (h : (xs ++ ys).Nodup) : ys.Nodup := (List.nodup_append.mp h).2.1
theorem ok_chkNames {A0 : Addr} (F : FunE K "check_names" "check_names" sChkNames f fd A0) (GI : FnOk P w K mg base CX0 1 fI fdI ["thing"] spIsName) (mI : mg "is_name" = some (.ref fI)) (kI : PySem.W.keepIn K (.ref fI) = true) (bI : L2.Binds K fdI ["thing"] []) (me : mg "enumerate" = none) :
    FnOk P w K mg base CX0 2 f fd ["things", "taken"] (spChkNames K) := by
  refine F.ok scChk (fun vs H Q E h => ?_) (fun cdv A outer s H vs Q E hr h => ?_)
  · obtain ⟨T, U, b, c, ns, tk, rfl, _⟩ := h
    rfl
  · obtain ⟨T, U, b, c, ns, tk, rfl, hT', hU', hn, hm, nd, good, k⟩ := h
    have hu := hu_of hr
    refine ⟨_, pss_cons (ps_set (i := 2) scChk.nd rfl (.inl rfl) pe_dnewK)
      (pss_cons (ps_for PassesOwn.never rfl (pi_seq (pv 1)) (pg_name (i := 3) scChk.nd rfl (.inl rfl)) (pss_one (ps_dput hu (pv 2) (pv 3) pe_bl rfl)))
      (pss_one (ps_for PassesOwn.never rfl (pi_enumB (by rfl) me (pa_cons (pv 0) pa_nil)) (pg_tup rfl (pgs_cons (pg_name (i := 4) scChk.nd rfl (.inl rfl)) (pgs_cons (pg_name (i := 5) scChk.nd rfl (.inl rfl)) pgs_nil)))
        (pss_cons (ps_if (PW.pt (pw_or (pt_not (pt_val (pe_call GI hr (by rfl) mI kI bI .nil pass0 (pa_cons (pv 5) pa_nil)))) (pw_or1 (pt_cmp (pc_din hu (pv 5) (pv 2)))))) (pss_one ps_none) pss_nil)
        (pss_one (ps_dput hu (pv 2) (pv 5) pe_bl rfl)))))), ?_⟩
    refine fun d hd => ⟨_, rfl, c, U, _, rfl, hU' _ (same_new hd), for_it walk_sq (fun i σ H2 => ∃ o3 o4 o5, σ = [some (.ref T), some (.ref U), some (.ref d), o3, o4, o5] ∧ Same H H2 ∧ H2 d = some (.dK ((tk.take i).map seenKv))) ⟨_, _, _, rfl, same_new hd, upd_same⟩ (fun i σ H2 _ ⟨_, _, _, _, sm, _⟩ => hU' _ sm) ?_ ?_⟩
    · rintro i x σ H2 H3 hi ⟨o3, o4, o5, rfl, sm, hd2⟩ ⟨rfl, hv⟩
      obtain ⟨n, hn', rfl⟩ := get_map hv
      have fresh := not_before (List.nodup_append.mp nd).1 hn'
      refine ⟨_, rfl, _, rfl, d, _, rfl, DPut.k (k := Sum.inr n) hd2 (by rw [List.length_map, List.length_take, sizeLine_eq]; omega), _, _, _, rfl, fun c o h => (upd_ne (ne_of_none h hd)).trans (sm c o h), ?_⟩
      rw [upd_same, putK_new (seen_none _ fresh), List.take_succ, hn', List.map_append]
      rfl
    rintro σ H2 ⟨o3, o4, o5, rfl, sm, hd2⟩
    rw [List.length_map, List.take_length] at hd2
    refine ⟨_, rfl, b, T, _, rfl, hT' _ sm, for_it walk_enumB (fun i σ H3 => ∃ o3 o4 o5, σ = [some (.ref T), some (.ref U), some (.ref d), o3, o4, o5] ∧ Same H H3 ∧ H3 d = some (.dK ((tk ++ ns.take i).map seenKv))) ⟨_, _, _, rfl, sm, by rw [List.take_zero, List.append_nil]; exact hd2⟩ (fun i σ H2 _ ⟨_, _, _, _, sm, _⟩ => hT' _ sm) ?_ ?_⟩
    · rintro i x σ H2 H3 hi ⟨o3, o4, o5, rfl, sm, hd2⟩ ⟨t, v1, v2, rfl, ht, rfl, hv1, hv2⟩
      obtain ⟨n, hn', rfl⟩ := get_map hv2
      obtain rfl := Option.some.inj hv1
      have fresh : n ∉ tk ++ ns.take i := fun q => by
        rcases List.mem_append.mp q with q | q
        · exact (List.nodup_append.mp nd).2.2 n q n (List.mem_of_getElem? hn') rfl
        · exact not_before (nodup_right nd) hn' q
      have hd3 := (upd_ne (o := .tup [.int (i : Nat), .str n]) (ne_of_none hd2 ht)).trans hd2
      refine ⟨t, _, rfl, SqT.of upd_same, rfl, _, _, rfl, _, _, rfl, rfl, _, rfl, n, rfl, good n (List.mem_of_getElem? hn'), fun H4 sm4 => ?_⟩
      have hd4 := sm4 _ _ hd3
      have g : DGet H4 d (.str n) none := by
        have z := DGet.k (k := Sum.inr n) hd4
        rwa [seen_none _ fresh] at z
      refine ⟨_, rfl, iteF ⟨_, rfl, _, rfl, d, _, rfl, g, _, rfl, iteF ?_⟩⟩
      refine ⟨_, rfl, _, rfl, d, _, rfl, DPut.k (k := Sum.inr n) hd4 (by rw [List.length_map, List.length_append, List.length_take, sizeLine_eq]; omega), _, _, _, rfl, fun c o h => (upd_ne (ne_of_none h hd)).trans (sm4 _ _ ((same_new ht) _ _ (sm c o h))), ?_⟩
      rw [upd_same, putK_new (seen_none _ fresh), List.take_succ, hn', ← List.append_assoc, List.map_append (l₁ := tk ++ ns.take i)]
      rfl
    · rintro σ H2 ⟨o3, o4, o5, rfl, sm, hd2⟩
      exact k H2 sm
end
end K6
namespace K6
open PySem PySem.Spec PyProof.Rows L2 LamX NdefX EV
theorem lit_mem {ns : List Str} {q : Bool × Str} (h : q.2 ∈ ns) : lit q ∈ lits ns := by
  refine List.mem_flatMap.mpr ⟨q.2, h, ?_⟩
  unfold lit
  split
  · exact List.mem_cons_of_mem _ List.mem_cons_self
  · exact List.mem_cons_self
theorem plc_some {ns : List Str} {l : Str} (nd : ns.Nodup) (good : ∀ z ∈ ns, Name1 z) (h : l ∈ lits ns) : ∃ v, valV (plc ns) (Sum.inr l) = some v := by
  obtain ⟨j, hj, ej⟩ := List.getElem_of_mem h
  exact ⟨_, plcF_at _ 0 j (lits_nodup ns nd good) (by rw [← ej]; exact List.getElem?_eq_getElem hj)⟩
/-- a thing that may not stand behind these literals in a clause -/
inductive BadV (K : PySem.W.Frag) (H : Hp) (ns : List Str) (qs : List (Bool × Str)) : V → Prop
  | odd {x : V} (t : Value) (ty : ∀ H', Same H H' → TyX K H' x t) (kit : PySem.W.kitOne K t (.type "str") = some false) : BadV K H ns qs x
  | far {z : Str} (h : z ∉ lits ns) : BadV K H ns qs (.str z)
  | twice {q : Bool × Str} (h : q.2 ∈ ns) (h2 : q.2 ∈ qs.map Prod.snd) : BadV K H ns qs (.str (lit q))
/-- things as a clause of the names ns: all right, or wrong behind some literals -/
inductive Seen (K : PySem.W.Frag) (H : Hp) (ns : List Str) : Bool → List V → Prop
  | ok {qs : List (Bool × Str)} (h : Lits ns qs) : Seen K H ns true ((qs.map lit).map V.str)
  | bad {qs : List (Bool × Str)} {x : V} {rest : List V} (h : Lits ns qs) (b : BadV K H ns qs x) : Seen K H ns false ((qs.map lit).map V.str ++ x :: rest)
def spWrong (K : PySem.W.Frag) : Sp := fun vs H Q _ => ∃ (PL A : Addr) (b : Bool) (ns : List Str) (xs : List V) (r : Bool), vs = [.ref PL, .ref A] ∧ H PL = some (.dK (plc ns)) ∧ Sq K b H A xs ∧ (∀ H', Same H H' → Sq K b H' A xs) ∧ ns.length ≤ 60 ∧ ns.Nodup ∧ (∀ z ∈ ns, Name1 z) ∧ Seen K H ns r xs ∧
  ∀ H', Same H H' → if r = true then Q .non H' else ∀ i : Int, Q (.int i) H'
section
variable {P : Program} {w : World} {K : PySem.W.Frag} {mg : Str → Option Value} {base : Heap} {f fN : Addr} {fd fdN : FuncData}
abbrev nWrong : List Str := ["places", "things", "seen", "index", "thing"]
theorem scWrong : FnScope nWrong ["places", "things"] (defScope sWrong) := ⟨rfl, rfl, rfl, by decide +kernel, rfl, by decide +kernel, by decide +kernel⟩
theorem ok_wrong (F : Fun K "first_wrong" "first_wrong" sWrong f fd) (GN : FnOk P w K mg base CX0 1 fN fdN ["literal"] spNameOf) (mN : mg "name_of" = some (.ref fN)) (kN : PySem.W.keepIn K (.ref fN) = true) (bN : L2.Binds K fdN ["literal"] []) (me : mg "enumerate" = none) (mi : mg "isinstance" = none) (ms : mg "str" = none) :
    FnOk P w K mg base CX0 2 f fd ["places", "things"] (spWrong K) := by
  refine F.ok scWrong (fun vs H Q E h => ?_) (fun cdv A' outer s H vs Q E hr h => ?_)
  · obtain ⟨PL, A, b, ns, xs, r, rfl, _⟩ := h
    rfl
  · obtain ⟨PL, A, b, ns, xs, r, rfl, hPL, hA, hA', hn, nd, good, see, k⟩ := h
    have hu := hu_of hr
    refine ⟨_, pss_cons (ps_set (i := 2) scWrong.nd rfl (.inl rfl) pe_dnewK)
      (pss_cons (ps_for PassesOwn.never rfl (pi_enumB (by rfl) me (pa_cons (pv 1) pa_nil)) (pg_tup rfl (pgs_cons (pg_name (i := 3) scWrong.nd rfl (.inl rfl)) (pgs_cons (pg_name (i := 4) scWrong.nd rfl (.inl rfl)) pgs_nil)))
        (pss_cons (ps_if (PW.pt (pw_or (pt_not (pt_val (pe_callB call_isi (by rfl) mi (by decide +kernel) (pa_cons (pv 4) (pa_cons (pe_bltn (v := .ty "str") (by rfl) ms (by decide +kernel) rfl) pa_nil))))) (pw_or (pt_cmp (pc_dnotin hu (pv 4) (pv 0))) (pw_or1 (pt_cmp (pc_din hu (pe_call GN hr (by rfl) mN kN bN .nil pass0 (pa_cons (pv 4) pa_nil)) (pv 2))))))) (pss_one (ps_ret (pv 3))) pss_nil)
        (pss_one (ps_dput hu (pv 2) (pe_call GN hr (by rfl) mN kN bN .nil pass0 (pa_cons (pv 4) pa_nil)) pe_bl rfl))))
      (pss_one (ps_ret pe_non))), ?_⟩
    obtain ⟨qs, tail, hq, rfl, h1, h2⟩ : ∃ qs tail, Lits ns qs ∧ xs = (qs.map lit).map V.str ++ tail ∧ (tail = [] → r = true) ∧ (∀ x rest, tail = x :: rest → r = false ∧ BadV K H ns qs x) := by
      cases see with
      | @ok qs h => exact ⟨qs, [], h, (List.append_nil _).symm, fun _ => rfl, fun x rest e => (nomatch e)⟩
      | @bad qs x rest h b =>
        refine ⟨qs, x :: rest, h, rfl, (fun e => (nomatch e)), fun y s e => ⟨rfl, ?_⟩⟩
        injection e with e1 _
        exact e1 ▸ b
    have few : qs.length ≤ ns.length := by
      have z := nodup_le (qs.map Prod.snd) ns hq.nd fun n hn => by
        obtain ⟨q, hq', rfl⟩ := List.mem_map.mp hn
        exact hq.sub q hq'
      rwa [List.length_map] at z
    have ll : ((qs.map lit).map V.str).length = qs.length := by rw [List.length_map, List.length_map]
    refine fun d hd => ⟨_, rfl, b, A, _, rfl, hA' _ (same_new hd), for_it walk_enumB (fun i σ H2 => ∃ o3 o4, σ = [some (.ref PL), some (.ref A), some (.ref d), o3, o4] ∧ i ≤ qs.length ∧ Same H H2 ∧ H2 d = some (.dK (((qs.map Prod.snd).take i).map seenKv))) ⟨_, _, rfl, Nat.zero_le _, same_new hd, upd_same⟩ (fun i σ H2 _ ⟨_, _, _, _, sm, _⟩ => hA' _ sm) ?_ ?_⟩
    · rintro i x σ H2 H3 hi ⟨o3, o4, rfl, ile, sm, hd2⟩ ⟨t, v1, v2, rfl, ht, rfl, hv1, hv2⟩
      obtain rfl := Option.some.inj hv1
      replace hv2 : ((qs.map lit).map V.str ++ tail)[i]? = some v2 := hv2
      have hd3 := (upd_ne (o := .tup [.int (i : Nat), v2]) (ne_of_none hd2 ht)).trans hd2
      have sm3 : Same H (upd H2 t (.tup [.int (i : Nat), v2])) := sm.trans (same_new ht)
      have hPL3 := sm3 _ _ hPL
      refine ⟨t, _, rfl, SqT.of upd_same, rfl, _, _, rfl, _, _, rfl, rfl, _, rfl, ?_⟩
      by_cases ilt : i < qs.length
      · -- a literal that may stand here
        obtain ⟨q, hqi⟩ : ∃ q, qs[i]? = some q := ⟨_, List.getElem?_eq_getElem ilt⟩
        have ev : v2 = .str (lit q) := by
          rw [List.getElem?_append_left (by rw [ll]; exact ilt), List.getElem?_map, List.getElem?_map, hqi] at hv2
          exact (Option.some.inj hv2).symm
        subst ev
        have mem := List.mem_of_getElem? hqi
        have qn : (qs.map Prod.snd)[i]? = some q.2 := by rw [List.getElem?_map, hqi]; rfl
        have fresh := not_before hq.nd qn
        obtain ⟨v, hv⟩ := plc_some nd good (lit_mem (hq.sub q mem))
        have g1 : DGet (upd H2 t (.tup [.int (i : Nat), .str (lit q)])) PL (.str (lit q)) (some v) := by
          have z := DGet.k (k := Sum.inr (lit q)) hPL3
          rwa [hv] at z
        have g2 : DGet (upd H2 t (.tup [.int (i : Nat), .str (lit q)])) d (.str q.2) none := by
          have z := DGet.k (k := Sum.inr q.2) hd3
          rwa [seen_none _ fresh] at z
        refine ⟨_, _, _, _, true, rfl, .ty "str", .base (.str _), kit_ty (by decide +kernel), _, rfl, iteF ⟨_, rfl, _, rfl, PL, _, rfl, g1, _, rfl, iteF ⟨_, rfl, q, rfl, good _ (hq.sub q mem), _, rfl, d, _, rfl, g2, _, rfl, iteF ?_⟩⟩⟩
        refine ⟨_, rfl, _, rfl, q, rfl, good _ (hq.sub q mem), d, _, rfl, DPut.k (k := Sum.inr q.2) hd3 (by rw [List.length_map, List.length_take, sizeLine_eq]; omega), _, _, rfl, ilt, fun c o h => (upd_ne (ne_of_none h hd)).trans (sm3 c o h), ?_⟩
        rw [upd_same, putK_new (seen_none _ fresh), List.take_succ, qn, List.map_append]
        rfl
      · -- the thing that may not
        have ie : i = qs.length := by omega
        obtain ⟨rest, et⟩ : ∃ rest, tail = v2 :: rest := by
          rw [List.getElem?_append_right (by rw [ll]; omega), ll, ie, Nat.sub_self] at hv2
          cases tail with
          | nil => cases hv2
          | cons y s => exact ⟨s, by rw [← Option.some.inj hv2]⟩
        obtain ⟨er, bad⟩ := h2 v2 rest et
        have fin : ∀ H', Same H H' → Q (.int (i : Int)) H' := fun H' s' => by
          have z := k H' s'
          rw [er] at z
          exact z i
        have hd3' := hd3
        rw [ie, List.take_of_length_le (by rw [List.length_map]; exact Nat.le_refl _)] at hd3'
        cases bad with
        | odd ty0 ty kit => exact ⟨_, _, _, _, false, rfl, .ty "str", ty _ sm3, kit, _, rfl, iteT ⟨_, rfl, fin _ sm3⟩⟩
        | @far z h =>
          have g1 : DGet (upd H2 t (.tup [.int (i : Nat), .str z])) PL (.str z) none := by
            have y := DGet.k (k := Sum.inr z) hPL3
            rwa [plcF_none _ 0 h] at y
          exact ⟨_, _, _, _, true, rfl, .ty "str", .base (.str _), kit_ty (by decide +kernel), _, rfl, iteF ⟨_, rfl, _, rfl, PL, _, rfl, g1, _, rfl, iteT ⟨_, rfl, fin _ sm3⟩⟩⟩
        | @twice q hq1 hq2 =>
          obtain ⟨v, hv⟩ := plc_some nd good (lit_mem hq1)
          have g1 : DGet (upd H2 t (.tup [.int (i : Nat), .str (lit q)])) PL (.str (lit q)) (some v) := by
            have z := DGet.k (k := Sum.inr (lit q)) hPL3
            rwa [hv] at z
          have g2 : DGet (upd H2 t (.tup [.int (i : Nat), .str (lit q)])) d (.str q.2) (some (.bl true)) := by
            have z := DGet.k (k := Sum.inr q.2) hd3'
            rw [seen_some _ hq2] at z
            rw [ie] at *
            exact z
          exact ⟨_, _, _, _, true, rfl, .ty "str", .base (.str _), kit_ty (by decide +kernel), _, rfl, iteF ⟨_, rfl, _, rfl, PL, _, rfl, g1, _, rfl, iteF ⟨_, rfl, q, rfl, good _ hq1, _, rfl, d, _, rfl, g2, _, rfl, iteT ⟨_, rfl, fin _ sm3⟩⟩⟩⟩
    · rintro σ H2 ⟨o3, o4, rfl, ile, sm, hd2⟩
      rw [List.length_append, ll] at ile
      have et : tail = [] := List.eq_nil_of_length_eq_zero (by omega)
      have z := k H2 sm
      rw [h1 et] at z
      exact z
end
end K6
namespace K6
open PySem PySem.Spec PyProof.Rows L2 LamX NdefX EV
/-- what the program asks of a thing: is it a clause of these names -/
inductive Ask (K : PySem.W.Frag) (H : Hp) (ns : List Str) : Bool → V → Prop
  | seq {b : Bool} {A : Addr} {xs : List V} {r : Bool} (t : Value) (ty : ∀ H', Same H H' → TyX K H' (.ref A) t) (kit : PySem.W.kitAny K t [.type "list", .type "tuple"] = some true) (sq : ∀ H', Same H H' → Sq K b H' A xs) (see : ∀ H', Same H H' → Seen K H' ns r xs) : Ask K H ns r (.ref A)
  | odd {x : V} (t : Value) (ty : ∀ H', Same H H' → TyX K H' x t) (kit : PySem.W.kitAny K t [.type "list", .type "tuple"] = some false) : Ask K H ns false x
theorem Ask.same {K : PySem.W.Frag} {H H' : Hp} {ns : List Str} {r : Bool} {x : V} (sm : Same H H') (a : Ask K H ns r x) : Ask K H' ns r x := by
  cases a with
  | seq t ty kit sq see => exact .seq t (fun H2 s2 => ty H2 (sm.trans s2)) kit (fun H2 s2 => sq H2 (sm.trans s2)) fun H2 s2 => see H2 (sm.trans s2)
  | odd t ty kit => exact .odd t (fun H2 s2 => ty H2 (sm.trans s2)) kit
def spIsClause (K : PySem.W.Frag) : Sp := fun vs H Q _ => ∃ (PL : Addr) (x : V) (ns : List Str) (r : Bool), vs = [.ref PL, x] ∧ H PL = some (.dK (plc ns)) ∧ ns.length ≤ 60 ∧ ns.Nodup ∧ (∀ z ∈ ns, Name1 z) ∧ Ask K H ns r x ∧ ∀ H', Same H H' → Q (.bl r) H'
section
variable {P : Program} {w : World} {K : PySem.W.Frag} {mg : Str → Option Value} {base : Heap} {f fL fW fC : Addr} {fd fdL fdW fdC : FuncData}
theorem scIsClause : FnScope ["places", "thing"] ["places", "thing"] (defScope sIsClause) := ⟨rfl, rfl, rfl, by decide +kernel, rfl, by decide +kernel, by decide +kernel⟩
theorem ok_isClause (F : Fun K "is_clause" "is_clause" sIsClause f fd) (GL : FnOk P w K mg base CX0 1 fL fdL ["thing"] (spIsList K)) (mL : mg "is_list" = some (.ref fL)) (kL : PySem.W.keepIn K (.ref fL) = true) (bL : L2.Binds K fdL ["thing"] [])
    (GW : FnOk P w K mg base CX0 2 fW fdW ["places", "things"] (spWrong K)) (mW : mg "first_wrong" = some (.ref fW)) (kW : PySem.W.keepIn K (.ref fW) = true) (bW : L2.Binds K fdW ["places", "things"] []) :
    FnOk P w K mg base CX0 3 f fd ["places", "thing"] (spIsClause K) := by
  refine F.ok scIsClause (fun vs H Q E h => ?_) (fun cdv A' outer s H vs Q E hr h => ?_)
  · obtain ⟨PL, x, ns, r, rfl, _⟩ := h
    rfl
  · obtain ⟨PL, x, ns, r, rfl, hPL, hn, nd, good, ask, k⟩ := h
    have hr1 : Room 1 _ := hr.mono (by decide)
    refine ⟨_, pss_one (ps_ret (pe_and (pe_call GL hr1 (by rfl) mL kL bL .nil pass0 (pa_cons (pv 1) pa_nil)) (pe_one (pe_cmpR op_isN (pe_call GW hr (by rfl) mW kW bW .nil pass0 (pa_cons (pv 0) (pa_cons (pv 1) pa_nil))) pe_non rfl)))), ?_⟩
    cases ask with
    | @seq b A xs _ t ty kit sq see =>
      refine ⟨_, rfl, .ref A, t, true, rfl, ty, kit, fun H1 sm1 => ⟨_, rfl, iteT ⟨_, rfl, _, rfl, PL, A, b, ns, xs, r, rfl, sm1 _ _ hPL, sq H1 sm1, (fun H2 s2 => sq H2 (sm1.trans s2)), hn, nd, good, see H1 sm1, fun H2 sm2 => ?_⟩⟩⟩
      cases r with
      | true => exact ⟨rfl, k H2 (sm1.trans sm2)⟩
      | false => exact fun i => ⟨rfl, k H2 (sm1.trans sm2)⟩
    | odd t ty kit => exact ⟨_, rfl, x, t, false, rfl, ty, kit, fun H1 sm1 => ⟨_, rfl, iteF (k H1 sm1)⟩⟩
end
end K6
/-! set(xs) of a tuple or list of distinct keys; set == set. -/
namespace EV
open PySem PySem.Spec PyProof.Rows L2
section
variable {prog : Program} {w : World} {K : Type} [DecidableEq K] [BEq K] [LawfulBEq K] {knd : KeyKind prog w K} {A : Around}
/-- the loop that fills a set from a walk: each key is new -/
theorem fill_loop {R : Result → Shared → Prop} {I : Addr} {fp wr : List Addr} {G : Array GenState → Array GenState → Prop} {n : Nat} {Pv : Nat → Value → Prop} {St : Nat → Shared → Prop}
    (W : WalksS prog w A.in1 I fp wr G n Pv St) (D : Addr) (off : D ∉ fp) (ks : List K) (len : ks.length = n) (few : n < 4000) (nd : ks.Nodup)
    (val : ∀ i v, Pv i v → ∃ k, ks[i]? = some k ∧ knd.is k v = true ∧ v.scannable = true) : ∀ (m i : Nat) (s : Shared), i + m = n → St i s → s.heap.SetOf knd D (fun j => decide (j ∈ ks.take i)) i →
      (∀ s', Moved (D :: wr) G s s' → s'.heap.SetOf knd D (fun j => decide (j ∈ ks)) n → R (.ok (.ret .none)) s') →
      codeAny (model prog w) A (.builtin "set.update.loop" ⟨[.ref D, .ref I], []⟩) R s := by
  have offw : D ∉ wr := fun h => off (W.sub _ h)
  have wide : ∀ b ∈ wr, b ∈ D :: wr := fun b hb => List.mem_cons_of_mem _ hb
  have stays : ∀ {h h' : Heap} {S : K → Bool} {c : Nat}, h.SetOf knd D S c → (∀ o, h.get? D = some o → h'.get? D = some o) → h'.SetOf knd D S c := fun x k => by
    obtain ⟨o, es, ep, t, ho, rest⟩ := x
    exact ⟨o, es, ep, t, k o ho, rest⟩
  intro m
  induction m with
  | zero =>
    intro i s sum st hS fin
    obtain rfl : i = n := sum
    refine codeAny_builtin PyProof.Rows.F.entry_set_update_loop ?_
    rw [Around.under_plainId PyProof.Rows.F.plain_set_update_loop _]
    show wpAny _ A.in1 (pyNext (.ref I) >>= _) _ _ s
    refine wpAny_bind (W.done s _ _ st fun s' mv => ?_)
    show wpAny _ A.in1 (ret Value.none) _ _ s'
    rw [← len, List.take_length] at hS
    exact wpAny_pure (fin s' (mv.mono wide) (len ▸ stays hS fun o e => mv.heap D _ offw e))
  | succ m ih =>
    intro i s sum st hS fin
    have lt : i < n := by omega
    refine codeAny_builtin PyProof.Rows.F.entry_set_update_loop ?_
    rw [Around.under_plainId PyProof.Rows.F.plain_set_update_loop _]
    show wpAny _ A.in1 (pyNext (.ref I) >>= _) _ _ s
    refine wpAny_bind (W.item i s _ _ lt st fun v s' hv st' mv => ?_)
    obtain ⟨k, hk, isk, sc⟩ := val i v hv
    have hS' : s'.heap.SetOf knd D (fun j => decide (j ∈ ks.take i)) i := stays hS fun o e => mv.heap D _ offw e
    show wpAny _ A.in1 (holding [v] (setAdd D v) >>= _) _ _ s'
    refine wpAny_bind (wpAny_holding ?_)
    unfold setAdd
    refine wpAny_holding (wpAny_bind (knd.pyHash (k := k) isk ?_))
    refine wpAny_setAddHashed_of (knd := knd) (s := { s' with toks := s'.toks + 1 }) isk sc hS' (by unfold scanBound; omega) fun h' sb hS2 => ?_
    have new : k ∉ ks.take i := fun q => by
      obtain ⟨j, hj, e⟩ := List.getElem_of_mem q
      have il := (List.getElem?_eq_some_iff.mp hk).1
      have jl : j < i := by rw [List.length_take] at hj; omega
      rw [List.getElem_take] at e
      have z : ks[j]? = some k := by rw [← e]; exact List.getElem?_eq_getElem _
      exact absurd ((List.getElem?_inj (by omega) nd).mp (z.trans hk.symm)) (by omega)
    have hS3 : h'.SetOf knd D (fun j => decide (j ∈ ks.take (i + 1))) (i + 1) := by
      refine SetOf_congr hS2 (fun j => ?_) (by rw [decide_eq_false new]; rfl)
      rw [List.take_succ, hk]
      show (decide (j ∈ ks.take i) || decide (j = k)) = decide (j ∈ ks.take i ++ [k])
      rw [← Bool.decide_or]
      exact decide_eq_decide.mpr (by rw [List.mem_append, List.mem_singleton])
    refine wpAny_pure ⟨plainId_quiet PyProof.Rows.F.plain_set_update_loop _, ih (i + 1) _ (by omega) (W.frame _ s' _ _ st' (Nat.le_succ _) fun b hb o e => ?_) hS3 fun s2 mv2 hS4 => ?_⟩
    · exact (sb.2 b fun q => off (q ▸ hb)).trans e
    · refine fin s2 (Moved.trans W.gtrans ((mv.mono wide).then_heap (Nat.le_succ _) fun b o hb e => ?_) mv2) hS4
      exact (sb.2 b fun q => hb (q ▸ List.mem_cons_self)).trans e
end
section
variable {prog : Program} {w : World} {K : Type} [DecidableEq K] [BEq K] [LawfulBEq K] {knd : KeyKind prog w K} {A : Around} {E : Value → Shared → Prop} {s : Shared}
/-- set(t), t a tuple of distinct keys -/
theorem call_setOf {l : Addr} {items : Array Value} {ks : List K} {Q : Value → Shared → Prop} (hh : A.handled = none) (hl : s.heap.IsTuple l items) (len : ks.length = items.size) (few : items.size < 4000) (nd : ks.Nodup)
    (val : ∀ (i : Nat) (v : Value), items[i]? = some v → ∃ k, ks[i]? = some k ∧ knd.is k v = true ∧ v.scannable = true)
    (h : ∀ (h' : Heap) (tk : Nat), h'.SetOf knd s.heap.objs.size (fun j => decide (j ∈ ks)) items.size → (∀ b o, b < s.heap.objs.size → s.heap.get? b = some o → h'.get? b = some o) → Q (.ref s.heap.objs.size) { s with heap := h', toks := tk }) :
    wpAny (model prog w) A (call (.type "set") [.ref l]) Q E s := by
  have made := PySem.F.called_set.made
  have subs := PySem.F.called_set.sub
  have nt := PySem.F.called_set.notType
  have cc := PySem.F.called_set.canCreate
  have tc := PySem.F.typeCall_set_1 (.ref l)
  obtain ⟨c, tl, mro⟩ := PySem.F.called_set.mro
  refine wpAny_call (codeAny_of_tree ?_)
  show wpAny _ _ (callAny (.type "set") _) _ _ _
  refine wpAny_pure ⟨Code.quiet_builtin _ (by decide +kernel), codeAny_builtin PySem.F.entry_type_call ?_⟩
  rw [Around.under_plain (weight_type_call_type "set" [.ref l] []) rfl]
  repeat (any_goals (first | assumption | wp_step))
  refine codeAny_mono (code_set_new_1 (.ref l) (E := E) (Q₁ := fun obj s₁ => ∃ led : Bool, obj = .ref s.heap.objs.size ∧ s₁ = { s with heap := s.heap.push { cls := .type "set", dict := none, data := .set #[] 0 (.fresh 0 0 led) } }) fun led => ⟨led, rfl, rfl⟩) fun res s₁ got => ?_
  match res, got with
  | .error _, got => exact got
  | .ok .next, got => exact got.elim
  | .ok .brk, got => exact got.elim
  | .ok .cont, got => exact got.elim
  | .ok (.ret _), ⟨led, e1, e2⟩ =>
  subst e1 e2
  have hS : (s.heap.push { cls := .type "set", dict := none, data := .set #[] 0 (.fresh 0 0 led) }).get? s.heap.objs.size = some { cls := .type "set", dict := none, data := .set #[] 0 (.fresh 0 0 led) } := Heap.get?_push_size _ rfl
  have hT : Shared.TypeIs { s with heap := s.heap.push { cls := .type "set", dict := none, data := .set #[] 0 (.fresh 0 0 led) } } (.ref s.heap.objs.size) "set" := ⟨_, hS, rfl⟩
  have il := PySem.F.called_set.init.lookup
  have ib := PySem.F.called_set.init.bind (.ref s.heap.objs.size)
  repeat (any_goals (first | assumption | wp_step))
  refine codeAny_mono (codeAny_call_builtin (R := wants (fun r s₂ => r = .none ∧ Q (.ref s.heap.objs.size) s₂) E) PySem.F.called_set.init.plain PySem.F.entry_set_init (check_set_init_1 hT ?_)) fun res s₂ got => ?_
  rotate_left
  · match res, got with
    | .error _, got => exact got
    | .ok .next, got => exact got.elim
    | .ok .brk, got => exact got.elim
    | .ok .cont, got => exact got.elim
    | .ok (.ret _), ⟨e1, q⟩ =>
      subst e1
      repeat (any_goals (first | assumption | wp_step))
  obtain ⟨⟨oc, od, dt, osl⟩, at0, hc, n, hd⟩ := hl
  obtain rfl : oc = .type "tuple" := hc
  obtain rfl : dt = .seq items n := hd
  have at1 : (s.heap.push { cls := .type "set", dict := none, data := .set #[] 0 (.fresh 0 0 led) }).get? l = some { cls := .type "tuple", dict := od, data := .seq items n, slots := osl } := Heap.get?_push_of_some _ at0
  have s1 := PySem.F.sub_tuple_set
  have s2 := PySem.F.sub_tuple_frozenset
  have nd1 : (Value.type "tuple" == Value.type "dict") = false := by decide
  have tup : (s.heap.push { cls := .type "set", dict := none, data := .set #[] 0 (.fresh 0 0 led) }).IsTuple l items := ⟨_, at1, rfl, n, rfl⟩
  unfold Builtin.«set.__init__» noKeywords Builtin.Frozenset.updateFrom
  generalize hPI : pyIter = PI
  wp_walk
  subst hPI
  refine wpAny_pyIter_tuple tup ?_
  refine wpAny_bind (wpAny_runValue ?_)
  have ll : l < s.heap.objs.size := Heap.lt_size at0
  have hh3 : A.in1.in1.in1.handled = none := by simp [hh]
  have up : (s.heap.push { cls := .type "set", dict := none, data := .set #[] 0 (.fresh 0 0 led) }).objs.size = s.heap.objs.size + 1 := Heap.size_push ..
  have ne : l ≠ (s.heap.push { cls := .type "set", dict := none, data := .set #[] 0 (.fresh 0 0 led) }).objs.size := by
    rw [up]
    exact Nat.ne_of_lt (Nat.lt_succ_of_lt ll)
  have off : s.heap.objs.size ∉ [(s.heap.push { cls := .type "set", dict := none, data := .set #[] 0 (.fresh 0 0 led) }).objs.size, l] := fun q => by
    rcases List.mem_cons.mp q with q | q
    · rw [up] at q
      exact Nat.ne_of_lt (Nat.lt_succ_self _) q
    · exact Nat.ne_of_gt ll (List.mem_singleton.mp q)
  refine fill_loop (knd := knd) ((Walks.tuple hh3 _ l ne items).toS) s.heap.objs.size off ks len few nd val items.size 0 _ (Nat.zero_add _) ⟨⟨_, Heap.get?_push_size _ rfl, rfl, rfl⟩, tup.push _⟩ ?_ fun s' mv hS' => ?_
  · exact SetOf_congr ((PyProof.Rows.setObjOf_fresh (knd := knd) led).setOf (Heap.get?_push_of_some _ hS) (by unfold scanBound; omega)) (fun j => (decide_eq_false (by rw [List.take_zero]; exact List.not_mem_nil)).symm) rfl
  · obtain ⟨h', g', d', tk', os'⟩ := s'
    obtain rfl : g' = s.gens := mv.gens
    obtain rfl : d' = s.drawn := mv.drawn
    obtain rfl : os' = s.os := mv.os
    show wpAny _ _ _ _ _ _
    refine wpAny_pure ?_
    show wpAny _ _ (ret Value.none) _ _ _
    refine wpAny_pure ⟨rfl, h h' tk' hS' fun b o hb e => ?_⟩
    refine mv.heap b o (fun q => ?_) (Heap.get?_push_of_some _ (Heap.get?_push_of_some _ e))
    rcases List.mem_cons.mp q with q | q
    · exact Nat.ne_of_lt hb q
    · have z := List.mem_singleton.mp q
      rw [up] at z
      exact Nat.ne_of_lt (Nat.lt_succ_of_lt hb) z
end
theorem entry_setEq : entryFor table "set.__eq__" = some Builtin.«frozenset.__eq__» :=
  entryFor_alias (id' := "frozenset.__eq__") (by kernel_rfl) rfl (by decide +kernel) (by kernel_rfl)
section
variable {prog : Program} {w : World} {K : Type} [DecidableEq K] [BEq K] [LawfulBEq K] {knd : KeyKind prog w K} {A : Around} {E : Value → Shared → Prop} {s : Shared}
theorem quiet_of {M : Model} {x : Value} {Q : Bool → Shared → Prop} (h : x.scannable = true) (k : Q true s) : wpAny M A (Builtin.Frozenset.quietEq x) Q E s := by
  cases x <;> first | exact wpAny_pure k | exact Bool.noConfusion h
/-- is one set part of the other -/
theorem sub_sets {nm : String} {a b : Addr} {S T : K → Bool} {n m : Nat} {r : Bool} {Q : Bool → Shared → Prop} (ha : s.heap.SetOf knd a S n) (hb : s.heap.SetOf knd b T m) (le : n ≤ m) (hr : r = true ↔ ∀ k, S k = true → T k = true) (h : Q r s) :
    wpAny (model prog w) A (Builtin.Frozenset.subsetOf nm a b) Q E s := by
  obtain ⟨oa, es, ep, ta, hoa, hxa, hda, hka, hma, hba, hfa, rfl⟩ := id ha
  obtain ⟨ob, es', ep', tb, hob, hxb, hdb, hkb, hmb, hbb, hfb, rfl⟩ := id hb
  unfold Builtin.Frozenset.subsetOf Builtin.Frozenset.sizeOf
  refine wpAny_bind (wpAny_bind (wpAny_setEntries_of hoa hda hfa (wpAny_pure ?_)))
  refine wpAny_bind (wpAny_bind (wpAny_setEntries_of hob hdb hfb (wpAny_pure ?_)))
  rw [if_neg (Nat.not_lt.mpr le)]
  refine wpAny_bind (wpAny_setEpoch_of hoa hda hfa ?_)
  refine wpAny_bind ?_
  unfold Builtin.Frozenset.walkUnseen
  refine wpAny_bind (wpAny_setEntries_of hoa hda hfa ?_)
  refine wpAny_bind (wpAny_setEntries_of hob hdb hfb ?_)
  refine wpAny_bind (wpAny_forIn_list _ (fun rest q s' => s' = s ∧ q = (none, ()) ∧ ∀ e ∈ rest, e.2.scannable = true) _ ?_ ?_ _ _ ⟨rfl, rfl, fun e he => (List.mem_append.mp he).elim (fun z => (hka e z).2) fun z => (hkb e z).2⟩)
  · rintro ⟨hx, x⟩ rest q s1 ⟨rfl, rfl, sc⟩
    refine wpAny_bind (quiet_of (sc _ List.mem_cons_self) ?_)
    rw [if_neg (by decide)]
    exact wpAny_pure ⟨rfl, rfl, fun e he => sc e (List.mem_cons_of_mem _ he)⟩
  · rintro q s1 ⟨rfl, rfl, _⟩
    refine wpAny_pure ?_
    refine wpAny_bind (wpAny_forIn_list _ (fun rest q s' => s' = s1 ∧ q = (none, ()) ∧ (∀ e ∈ rest, e ∈ es.toList) ∧ ((∀ e ∈ rest, ∀ k, knd.is k e.2 = true → T k = true) → r = true)) _ ?_ ?_ _ _ ⟨rfl, rfl, fun e he => he, fun z => hr.2 fun k hk => ?_⟩)
    · rintro ⟨hx, x⟩ rest q s2 ⟨rfl, rfl, sub, up⟩
      obtain ⟨⟨k, isk, rfl⟩, sc⟩ := hka _ (sub _ List.mem_cons_self)
      refine wpAny_bind (wpAny_holding (wpAny_setFind_of isk sc hb fun i hi => ?_))
      have inS : S k = true := (hma k).2 ⟨_, sub _ List.mem_cons_self, isk⟩
      cases hT : T k with
      | true =>
        rw [hT] at hi
        obtain ⟨j, rfl⟩ := Option.isSome_iff_exists.mp hi
        rw [if_neg (by simp)]
        unfold Builtin.Frozenset.unchanged
        refine wpAny_bind (wpAny_bind (wpAny_setEpoch_of hoa hda hfa ?_))
        rw [if_neg (by simp)]
        refine wpAny_pure (wpAny_pure ⟨rfl, rfl, fun e he => sub e (List.mem_cons_of_mem _ he), fun z => up fun e he => ?_⟩)
        rcases List.mem_cons.mp he with rfl | he
        · intro k' hk'
          obtain rfl := knd.inj _ _ _ hk' isk
          exact hT
        · exact z e he
      | false =>
        rw [hT] at hi
        obtain rfl : i = none := by simpa using hi
        rw [if_pos (show (none : Option Nat).isNone = true from rfl)]
        have rf : r = false := by
          cases r with
          | false => rfl
          | true => exact absurd (hr.1 rfl k inS) (by rw [hT]; decide)
        rw [rf] at h
        exact wpAny_pure (wpAny_pure h)
    · rintro q s2 ⟨rfl, rfl, _, up⟩
      have rt : r = true := up fun e he => nomatch he
      rw [rt] at h
      exact wpAny_pure h
    · obtain ⟨e, he, q⟩ := (hma k).1 hk
      exact z e he k q
end
end EV
/-! set == set. -/
namespace EV
open PySem PySem.Spec PyProof.Rows L2
section
variable {prog : Program} {w : World} {K : Type} [DecidableEq K] [BEq K] [LawfulBEq K] {knd : KeyKind prog w K} {A : Around} {E : Value → Shared → Prop} {s : Shared}
/-- set == set -/
theorem eq_sets {a b : Addr} {S T : K → Bool} {n m : Nat} {r : Bool} {Q : Value → Shared → Prop} (hu : A.units < cLine) (ha : s.heap.SetOf knd a S n) (hb : s.heap.SetOf knd b T m) (hr : r = true ↔ n = m ∧ ∀ k, S k = true → T k = true) (h : Q (.bool r) s) :
    wpAny (model prog w) A (richCompare .Eq (.ref a) (.ref b)) Q E s := by
  refine wpAny_richCompare_same_room (op := .Eq) ha.typeIs hb.typeIs PySem.F.slot_set_eq (wpAny_call_entry PySem.F.slot_set_eq ha.typeIs entry_setEq ?_ (PySem.F.args_set_eq_2 _ _)) hu
  unfold Builtin.«frozenset.__eq__»
  wp_delta
  refine wpAny_bind ?_
  unfold Builtin.Frozenset.slot1 slotArgs
  simp only [List.isEmpty_nil, Bool.not_true, Bool.false_eq_true, ↓reduceIte, bind_assoc, List.length_cons, List.length_nil, bne_self_eq_false]
  refine wpAny_bind (wpAny_pure ?_)
  try dsimp only
  refine wpAny_pure ?_
  try dsimp only
  unfold Builtin.Frozenset.isAnySet
  refine wpAny_bind ?_
  unfold orM
  refine wpAny_bind (wpAny_isInstance (b := true) hb.typeIs PySem.F.sub_set_set ?_)
  refine wpAny_pure ?_
  rw [if_neg (by decide)]
  unfold Builtin.Frozenset.addrOf Builtin.Frozenset.sizeOf
  refine wpAny_bind (wpAny_pure ?_)
  refine wpAny_bind (wpAny_pure ?_)
  obtain ⟨oa, es, ep, ta, hoa, hxa, hda, hka, hma, hba, hfa, rfl⟩ := id ha
  obtain ⟨ob, es', ep', tb, hob, hxb, hdb, hkb, hmb, hbb, hfb, rfl⟩ := id hb
  refine wpAny_bind (wpAny_bind (wpAny_setEntries_of hoa hda hfa (wpAny_pure ?_)))
  refine wpAny_bind (wpAny_bind (wpAny_setEntries_of hob hdb hfb (wpAny_pure ?_)))
  refine wpAny_bind ?_
  by_cases e : es.size = es'.size
  · rw [if_neg (by rw [e]; simp)]
    refine wpAny_bind ?_
    unfold andM
    refine wpAny_bind (wpAny_isInstance (b := false) ha.typeIs PySem.F.sub_set_frozenset ?_)
    refine wpAny_pure ?_
    rw [if_neg (by decide)]
    refine sub_sets (r := r) ha hb (Nat.le_of_eq e) (hr.trans ⟨fun z => z.2, fun z => ⟨e, z⟩⟩) ?_
    exact wpAny_pure ⟨_, rfl, (fun z => nomatch z), h⟩
  · rw [if_pos (by simpa using e)]
    have rf : r = false := by
      cases r with
      | false => rfl
      | true => exact absurd (hr.1 rfl).1 e
    rw [rf] at h
    exact wpAny_pure (wpAny_pure ⟨_, rfl, (fun z => nomatch z), h⟩)
end
end EV
/-! set(t) of a tuple of distinct texts, == of such sets, as rules. -/
namespace EV
open PySem PySem.Spec PyProof.Rows L2
/-- the set of these texts, distinct -/
def SetX (P : Program) (w : World) (a : Addr) (xs : List Str) : HO := .ext fun h => h.SetOf (PySem.strKind P w) a (fun j => decide (j ∈ xs)) xs.length
theorem setX_new {P : Program} {w : World} {H : Hp} {h : Heap} {a : Addr} {xs : List Str} (R : h.SetOf (PySem.strKind P w) a (fun j => decide (j ∈ xs)) xs.length) : ObjOk P w H h a (SetX P w a xs) := by
  have ⟨o, _, _, _, ho, _⟩ := R
  exact ⟨R, ⟨o, ho⟩, fun h1 h2 p k => by
    obtain ⟨o, es, ep, t, ho, r⟩ := p
    exact ⟨o, es, ep, t, k o ho, r⟩⟩
theorem txt_at : ∀ {xs : List Str} {us : List Value}, Vals (xs.map V.str) us → ∀ (i : Nat) (v : Value), us[i]? = some v → ∃ k t, xs[i]? = some k ∧ v = .str k t
  | [], _, .nil, i, v, h => by simp at h
  | x :: xs, _, .cons ⟨t, e⟩ r, 0, v, h => ⟨x, t, rfl, (Option.some.inj h).symm.trans e⟩
  | x :: xs, _, .cons _ r, i + 1, v, h => txt_at r i v h
section
variable {X : Cx}
def rSetX (K : PySem.W.Frag) (P : Program) (w : World) : List V → Hp → VK → Prop := fun vs H Q => ∃ (l : Addr) (xs : List Str), vs = [V.ref l] ∧ SqT K H l (xs.map V.str) ∧ xs.Nodup ∧ xs.length < 4000 ∧ ∀ a, H a = none → Q (.ref a) (upd H a (SetX P w a xs))
theorem cr_setX (hc : X.calm = true) : CallR X (.type "set") (rSetX X.K X.prog X.w) := by
  intro pins s σ H vs us Q I r h
  obtain ⟨l, xs, rfl, hl, nd, few, q⟩ := h
  rw [Vals.ref1 r]
  obtain ⟨its, rv, p, hz⟩ := I.tuple hl
  have hp : s.heap.IsTuple l its.toArray := p
  have len : xs.length = its.length := by
    have z := rv.length
    rwa [List.length_map] at z
  refine call_setOf (knd := PySem.strKind X.prog X.w) (ks := xs) (I.ok.hd hc) hp (by simpa using len) (by simp; omega) nd (fun i v hv => ?_) fun h' tk R k => ?_
  · obtain ⟨k, t, h1, rfl⟩ := txt_at rv i v (by simpa using hv)
    exact ⟨k, h1, strKind_is _ _ _ _, rfl⟩
  · have R2 : h'.SetOf (PySem.strKind X.prog X.w) s.heap.objs.size (fun j => decide (j ∈ xs)) xs.length := by
      have e : its.toArray.size = xs.length := by simpa using len.symm
      rw [← e]
      exact R
    exact ⟨.ref s.heap.objs.size, upd H s.heap.objs.size (SetX X.prog X.w s.heap.objs.size xs), I.laid (t' := tk) (fun b u e => k b u (Heap.lt_size e) e) (Nat.le_refl _) (setX_new R2), rfl, q _ (I.hok.fresh (Nat.le_refl _))⟩
/-- do two lists of distinct texts have the same members -/
def sameMem (xs ys : List Str) : Bool := xs.length == ys.length && xs.all fun x => decide (x ∈ ys)
theorem sameMem_iff {xs ys : List Str} : sameMem xs ys = true ↔ xs.length = ys.length ∧ ∀ x ∈ xs, x ∈ ys := by
  unfold sameMem
  rw [Bool.and_eq_true, beq_iff_eq, List.all_eq_true]
  exact ⟨fun h => ⟨h.1, fun x hx => of_decide_eq_true (h.2 x hx)⟩, fun h => ⟨h.1, fun x hx => decide_eq_true (h.2 x hx)⟩⟩
def rEqX (P : Program) (w : World) : V → V → Hp → VK → Prop := fun x y H Q => ∃ (a b : Addr) (xs ys : List Str), x = .ref a ∧ y = .ref b ∧ H a = some (SetX P w a xs) ∧ H b = some (SetX P w b ys) ∧ Q (.bl (sameMem xs ys)) H
theorem op_eqX (hu : X.A.units < cLine) : OpR X (compareOp .Eq) (rEqX X.prog X.w) := by
  intro pins s σ H x y v u Q I rx ry h
  obtain ⟨a, b, xs, ys, rfl, rfl, ha, hb, q⟩ := h
  obtain rfl : v = Value.ref a := rx
  obtain rfl : u = Value.ref b := ry
  have ra : s.heap.SetOf (PySem.strKind X.prog X.w) a (fun j => decide (j ∈ xs)) xs.length := (I.hok a _ ha).1
  have rb : s.heap.SetOf (PySem.strKind X.prog X.w) b (fun j => decide (j ∈ ys)) ys.length := (I.hok b _ hb).1
  show wpAny (model X.prog X.w) X.A (richCompare .Eq (.ref a) (.ref b)) (EP X pins σ Q) X.xe s
  refine eq_sets (r := sameMem xs ys) hu ra rb (sameMem_iff.trans ?_) ⟨.bl (sameMem xs ys), H, I, rfl, q⟩
  refine ⟨fun h => ⟨h.1, fun k hk => decide_eq_true (h.2 k (of_decide_eq_true hk))⟩, fun h => ⟨h.1, fun x hx => of_decide_eq_true (h.2 x (decide_eq_true hx))⟩⟩
end
end EV
/-! len, in, == and != of instances with methods of their own for them: any answer. -/
namespace EV
open PySem PySem.Spec PyProof.Rows L2
section
variable {X : Cx} {CX : CXT} {n : Nat} {C f : Addr} {fd : FuncData} {ps : List Str} {sp : Sp} {E : XK}
/-- an own function, called by the machine with values that stand for these -/
theorem own_call {A : Around} {pins : List (Addr × Obj)} {σ : L2.St} {H : Hp} {s : Shared} {vs : List V} {us : List Value} {Q : VK} (sb : L2.Sub X n A) (I : Inv X pins σ H s) (F : FnOk X.prog X.w X.K X.mg X.base CX n f fd ps sp) (hb : L2.Binds X.K fd ps []) (hx : Passes CX X E) (r : Vals vs us) (hsp : sp vs H Q E) :
    wpAny (model X.prog X.w) A (call (.ref f) us) (fun v s' => ∃ z H', Inv X pins σ H' s' ∧ RelV z v ∧ Q z H') X.xe s := by
  have e0 : Env0 X.prog X.w X.K X.mg X.base A X.stack s H := by
    have e := I.env0
    exact ⟨by rw [sb.fr]; exact e.frames, e.mod, e.bs, e.bsz, e.funs, e.frf, e.hok, e.bare⟩
  have hl := F.len _ _ _ _ hsp
  have hl2 : us.length = ps.length := r.length.symm.trans hl
  refine wpAny_call (codeAny_mono (F.run A X.stack s H ⟨us, []⟩ us vs _ E sb.room e0 (by
    have z := hb s us I.kIn (by simpa using hl2)
    simpa using z) r hsp) fun r s' hq => ?_)
  cases r with
  | error e => exact hx pins σ H s e s' I hq
  | ok fl =>
    cases fl with
    | ret w =>
      obtain ⟨z, H', I', rz, q⟩ := I.after hq
      exact ⟨z, H', I', rz, q⟩
    | next => exact False.elim hq
    | brk => exact False.elim hq
    | cont => exact False.elim hq
/-- what an own method for a question asks: it answers with a truth value -/
def rOwn (C : Addr) (sp : Sp) (E : XK) (x y : V) (H : Hp) (Q : Bool → Hp → Prop) : Prop := ∃ a dx fs, x = .ref a ∧ H a = some (.ins C dx fs) ∧ sp [.ref a, y] H (fun v H' => ∃ b, v = .bl b ∧ Q b H') E
theorem op_inOwn (F : FnOk X.prog X.w X.K X.mg X.base CX n f fd ps sp) (hs : PySem.W.findIn X.K (.ref C) "__contains__" = some (some (.ref f))) (hf : PySem.W.isFn X.K (.ref f) = true) (hb : L2.Binds X.K fd ps []) (hx : Passes CX X E) (hr : Room n X.A) :
    OpR X (compareOp .In) fun x y H Q => rOwn C sp E y x H fun b H' => Q (.bl b) H' := by
  intro pins s σ H x y v u Q I rx ry h
  obtain ⟨a, dx, fs, rfl, ha, hsp⟩ := h
  obtain rfl : u = Value.ref a := ry
  obtain ⟨mA, J, _⟩ := ins_get I.hok ha
  obtain ⟨od, J, _⟩ := J.look
  obtain ⟨m, hF⟩ := I.fr
  refine PySem.W.in_K hF I.ok.mod.kin J hs hf (wpAny_mono (own_call (Q := fun v H' => ∃ b, v = .bl b ∧ Q (.bl b) H') ⟨hr, rfl⟩ I F hb hx (.cons (show RelV (.ref a) (.ref a) from rfl) (.cons rx .nil)) hsp) (fun w s' z => ?_) fun _ _ e => e)
  obtain ⟨z, H', I', rz, b, rfl, q⟩ := z
  obtain rfl : w = Value.bool b := rz
  exact wpAny_truthy_bool ⟨.bl b, H', I', rfl, q⟩
theorem call_lenOwn (F : FnOk X.prog X.w X.K X.mg X.base CX n f fd ps sp) (hs : PySem.W.findIn X.K (.ref C) "__len__" = some (some (.ref f))) (hf : PySem.W.isFn X.K (.ref f) = true) (hb : L2.Binds X.K fd ps []) (hx : Passes CX X E) (hr : Room (n + 1) X.A) :
    CallR X (.builtin "len") fun vs H Q => ∃ a dx fs, vs = [.ref a] ∧ H a = some (.ins C dx fs) ∧ sp [.ref a] H (fun v H' => ∃ k : Nat, v = .int (k : Int) ∧ k < 1000000 ∧ Q (.int (k : Int)) H') E := by
  intro pins s σ H xs us Q I r h
  obtain ⟨a, dx, fs, rfl, ha, hsp⟩ := h
  obtain ⟨u, rfl, ru⟩ := vals1 r
  obtain rfl : u = Value.ref a := ru
  obtain ⟨mA, J, _⟩ := ins_get I.hok ha
  obtain ⟨od, J, _⟩ := J.look
  obtain ⟨m, hF⟩ := I.fr
  have sb : L2.Sub X (n + 1) X.A := ⟨hr, rfl⟩
  refine PySem.W.len_K hF I.ok.mod.kin J hs hf (wpAny_mono (own_call (Q := fun v H' => ∃ k : Nat, v = .int (k : Int) ∧ k < 1000000 ∧ Q (.int (k : Int)) H') sb.in1 I F hb hx (.cons (show RelV (.ref a) (.ref a) from rfl) .nil) hsp) (fun w s' z => ?_) fun _ _ e => e)
  obtain ⟨z, H', I', rz, k, rfl, lt, q⟩ := z
  obtain ⟨t, rfl⟩ := rz
  exact ⟨⟨by omega, by omega⟩, .int (k : Int), H', I'.tok _, ⟨_, rfl⟩, q⟩
/-- ==, the left one an instance whose class has a method of its own for it; the other one of a class that does not come first -/
theorem op_eqOwn (F : FnOk X.prog X.w X.K X.mg X.base CX n f fd ps sp) (hs : PySem.W.findIn X.K (.ref C) "__eq__" = some (some (.ref f))) (hf : PySem.W.isFn X.K (.ref f) = true) (hb : L2.Binds X.K fd ps []) (hx : Passes CX X E) (hr : Room n X.A) :
    OpR X (compareOp .Eq) fun x y H Q => ∃ t, TyX X.K H y t ∧ PySem.W.notFirst X.K C t = true ∧ rOwn C sp E x y H fun b H' => Q (.bl b) H' := by
  intro pins s σ H x y v u Q I rx ry h
  obtain ⟨t, ty, nf, a, dx, fs, rfl, ha, hsp⟩ := h
  obtain rfl : v = Value.ref a := rx
  obtain ⟨mA, J, _⟩ := ins_get I.hok ha
  obtain ⟨od, J, _⟩ := J.look
  obtain ⟨m, hF⟩ := I.fr
  obtain ⟨P, Z, hP, _⟩ := kit_of I ry ty
  show wpAny (model X.prog X.w) X.A (richCompare .Eq (.ref a) u) (EP X pins σ Q) X.xe s
  refine PySem.W.cmp_K (op := .Eq) (tb := t) hr.units0 hF I.ok.mod.kin J (Z.ty _ _ I.kIn hP) nf hs hf (wpAny_mono (own_call (Q := fun v H' => ∃ b, v = .bl b ∧ Q (.bl b) H') ⟨hr, rfl⟩ I F hb hx (.cons (show RelV (.ref a) (.ref a) from rfl) (.cons ry .nil)) hsp) (fun w s' z => ?_) fun _ _ e => e)
  obtain ⟨z, H', I', rz, b, rfl, q⟩ := z
  obtain rfl : w = Value.bool b := rz
  exact ⟨.bl b, H', I', rfl, q⟩
end
end EV
/-! != of instances by object.__ne__ and an own __eq__; of things of built-in types and an instance. -/
namespace EV
open PySem PySem.Spec PyProof.Rows L2
open AutoSeq1 (wpAny_loadPart')
section
variable {M : Model} {prog : Program} {w : World} {A : Around} {E : Value → Shared → Prop} {s : Shared} {K : PySem.W.Frag} {x C dx : Addr} {od : Option Obj}
theorem not_inst {T : String} {Q : Bool → Shared → Prop} (X : K.In s.heap) (at0 : s.heap.get? x = some (PySem.W.instObj C dx)) (e : PySem.W.subIn K (.ref C) (.type T) = some false) (h : Q false s) : wpAny M A (isInstance (.ref x) (.type T)) Q E s := by
  unfold isInstance
  exact wpAny_bind (wpAny_typeOf_ref at0 ((PySem.W.looks_subIn X e).here h))
theorem no_str {Q : Option Str → Shared → Prop} (at0 : s.heap.get? x = some (PySem.W.instObj C dx)) (h : Q none s) : wpAny M A (asStr? (.ref x)) Q E s := by
  unfold asStr?
  exact wpAny_bind (wpAny_load at0 (wpAny_pure h))
theorem no_int {Q : Option Int → Shared → Prop} (at0 : s.heap.get? x = some (PySem.W.instObj C dx)) (h : Q none s) : wpAny M A (asInt? (.ref x)) Q E s := by
  unfold asInt?
  exact wpAny_bind (wpAny_load at0 (wpAny_pure h))
theorem ne_none {Q : Value → Shared → Prop} (h : Q .notImplemented s) : wpAny (model prog w) A (call (.builtin "NoneType.__ne__") [.none, .ref x]) Q E s :=
  call_gives F.slot_NoneType_ne rfl F.entry_NoneType_ne (F.args_NoneType_ne_2 _ _) (PySem.SeqAt.NoneType___ne___none_ref_0 x) h
theorem ne_int {i : Int} {t : Tok} {Q : Value → Shared → Prop} (at0 : s.heap.get? x = some (PySem.W.instObj C dx)) (h : Q .notImplemented s) : wpAny (model prog w) A (call (.builtin "int.__ne__") [.int i t, .ref x]) Q E s := by
  refine wpAny_call_entry F.slot_int_ne (show s.TypeIs (.int i t) "int" from typeIs_int s i t) F.entry_int_ne ?_ (F.args_int_ne_2 _ _)
  obtain ⟨hp, g, d, tk, os⟩ := s
  wp_walk using wpAny_load at0
  exact ⟨_, rfl, h⟩
theorem ne_str {y : Str} {t : Tok} {Q : Value → Shared → Prop} (at0 : s.heap.get? x = some (PySem.W.instObj C dx)) (h : Q .notImplemented s) : wpAny (model prog w) A (call (.builtin "str.__ne__") [.str y t, .ref x]) Q E s := by
  refine wpAny_call_entry F.slot_str_ne (show s.TypeIs (.str y t) "str" from typeIs_str s y t) F.entry_str_ne ?_ (F.args_str_ne_2 _ _)
  obtain ⟨hp, g, d, tk, os⟩ := s
  wp_walk using wpAny_load at0
  exact ⟨_, rfl, h⟩
theorem ne_list {l : Addr} {Q : Value → Shared → Prop} (X : K.In s.heap) (at0 : s.heap.get? x = some (PySem.W.instObj C dx)) (e : PySem.W.subIn K (.ref C) (.type "list") = some false) (hl : s.TypeIs (.ref l) "list") (h : Q .notImplemented s) :
    wpAny (model prog w) A (call (.builtin "list.__ne__") [.ref l, .ref x]) Q E s := by
  refine wpAny_call_entry F.slot_list_ne hl F.entry_list_ne ?_ (F.args_list_ne_2 _ _)
  wp_walk using not_inst X at0 e
  exact ⟨_, rfl, h⟩
theorem ne_tuple {l : Addr} {Q : Value → Shared → Prop} (X : K.In s.heap) (at0 : s.heap.get? x = some (PySem.W.instObj C dx)) (e : PySem.W.subIn K (.ref C) (.type "tuple") = some false) (hl : s.TypeIs (.ref l) "tuple") (h : Q .notImplemented s) :
    wpAny (model prog w) A (call (.builtin "tuple.__ne__") [.ref l, .ref x]) Q E s := by
  refine wpAny_call_entry F.slot_tuple_ne hl F.entry_tuple_ne ?_ (F.args_tuple_ne_2 _ _)
  wp_walk using not_inst X at0 e
  exact ⟨_, rfl, h⟩
theorem ne_dict {l : Addr} {Q : Value → Shared → Prop} (X : K.In s.heap) (at0 : s.heap.get? x = some (PySem.W.instObj C dx)) (e : PySem.W.subIn K (.ref C) (.type "dict") = some false) (hl : s.TypeIs (.ref l) "dict") (h : Q .notImplemented s) :
    wpAny (model prog w) A (call (.builtin "dict.__ne__") [.ref l, .ref x]) Q E s := by
  refine wpAny_call_entry F.slot_dict_ne hl F.entry_dict_ne ?_ (F.args_dict_ne_2 _ _)
  show wpAny _ _ (Builtin.Dict.dictSlotArgs "__ne__" ⟨[.ref l, .ref x], []⟩ >>= _) _ _ s
  refine wpAny_bind ?_
  unfold Builtin.Dict.dictSlotArgs
  refine wpAny_bind (wpAny_notOrdered_dict hl ?_)
  show wpAny _ _ (pure (Value.ref l, Value.ref x)) _ _ s
  refine wpAny_pure ?_
  refine wpAny_bind (not_inst X at0 e ?_)
  rw [if_pos (by decide)]
  exact wpAny_bind (wpAny_rule (wpAny_pure ⟨_, rfl, h⟩))
/-- object.__ne__ of an instance asks its own __eq__ -/
theorem call_objNe {f : Addr} {b : Value} {ox : Obj} {Q : Value → Shared → Prop} (hu : A.units + 1 < cLine) (X : K.In s.heap) (I : PySem.W.InstAt s.heap x ox C od) (hm : PySem.W.mroIn K C (.type "object") = some true) (hs : PySem.W.findIn K (.ref C) "__eq__" = some (some (.ref f))) (hf : PySem.W.isFn K (.ref f) = true)
    (h : wpAny (model prog w) A.in1 (call (.ref f) [.ref x, b]) (fun v s' => ∃ r, v = .bool r ∧ Q (.bool (!r)) s') E s) : wpAny (model prog w) A (call (.builtin "object.__ne__") [.ref x, b]) Q E s := by
  refine wpAny_call (codeAny_call_builtin F.cmp_object.ne.plain F.cmpEntry_ne (PySem.W.check_slot F.cmpKind_ne F.cmpSplit_ne (I.type.andThen (PySem.W.looks_mroIn X hm)) (F.cmpArgs_ne _ _) ?_))
  unfold Builtin.«object.__ne__»
  refine wpAny_bind (m := slotArgs "__ne__" 1 ⟨[.ref x, b], []⟩) (wpAny_pure ?_)
  dsimp only
  refine wpAny_bind (wpAny_cRoomFor hu ?_)
  refine wpAny_bind (PySem.W.ifBound_K X I hs hf (wpAny_mono h (fun v s' hv => ?_) fun _ _ e => e))
  obtain ⟨r, rfl, q⟩ := hv
  show wpAny _ _ (truthy (Value.bool r) >>= _) _ _ _
  refine wpAny_bind (wpAny_truthy_bool ?_)
  exact wpAny_pure q
theorem bound_ne {args : List Value} {ox : Obj} {Q : Option Value → Shared → Prop} (X : K.In s.heap) (I : PySem.W.InstAt s.heap x ox C od) (hs : PySem.W.findIn K (.ref C) "__ne__" = some (some (.builtin "object.__ne__")))
    (h : wpAny M A (call (.builtin "object.__ne__") (.ref x :: args)) (fun v => Q (some v)) E s) : wpAny M A (callSpecialIfBound? (.ref x) "__ne__" args) Q E s := by
  simp only [callSpecialIfBound?, bindSpecialIfBound?]
  refine wpAny_holding (wpAny_bind (wpAny_bind (wpAny_bind (I.type.here ((PySem.W.looks_findIn X hs).here ?_)))))
  have last : wpAny M A (call (.builtin "object.__ne__") ([.ref x] ++ args) >>= fun v => pure (some v)) Q E s := wpAny_bind (wpAny_mono h (fun v s' q => wpAny_pure q) fun _ _ q => q)
  refine wpAny_bind (wpAny_askSetting (wpAny_ite ?_))
  split
  · exact wpAny_bind (wpAny_of_eq (F.cmp_object.ne.bind _) (wpAny_pure (by exact last)))
  · exact wpAny_tryCatch (wpAny_bind (wpAny_of_eq (F.cmp_object.ne.bind _) (wpAny_pure (by exact last))))
/-- x.__ne__(b), x an instance -/
theorem try_ne {f : Addr} {b : Value} {ox : Obj} {Q : Value → Shared → Prop} (hu : A.units + 1 < cLine) (X : K.In s.heap) (I : PySem.W.InstAt s.heap x ox C od) (hm : PySem.W.mroIn K C (.type "object") = some true) (hs : PySem.W.findIn K (.ref C) "__eq__" = some (some (.ref f))) (hf : PySem.W.isFn K (.ref f) = true) (hn : PySem.W.findIn K (.ref C) "__ne__" = some (some (.builtin "object.__ne__")))
    (h : wpAny (model prog w) A.in1 (call (.ref f) [.ref x, b]) (fun v s' => ∃ r, v = .bool r ∧ Q (.bool (!r)) s') E s) : wpAny (model prog w) A (tryCompare (.ref x) "__ne__" b) (fun r s' => ∃ v, r = some v ∧ Q v s') E s := by
  unfold tryCompare
  refine wpAny_bind (bound_ne X I hn (call_objNe hu X I hm hs hf (wpAny_mono h (fun v s' hv => ?_) fun _ _ e => e)))
  obtain ⟨r, rfl, q⟩ := hv
  exact ⟨r, rfl, wpAny_pure ⟨_, rfl, q⟩⟩
/-- x != b, x an instance -/
theorem rc_neL {f : Addr} {b tb : Value} {ox : Obj} {Q : Value → Shared → Prop} (hu : A.units + 1 < cLine) (X : K.In s.heap) (I : PySem.W.InstAt s.heap x ox C od) (hb : PySem.W.Looks (model prog w) s.heap (typeOf b) tb) (nf : PySem.W.notFirst K C tb = true) (hm : PySem.W.mroIn K C (.type "object") = some true) (hs : PySem.W.findIn K (.ref C) "__eq__" = some (some (.ref f))) (hf : PySem.W.isFn K (.ref f) = true) (hn : PySem.W.findIn K (.ref C) "__ne__" = some (some (.builtin "object.__ne__")))
    (h : wpAny (model prog w) A.in1 (call (.ref f) [.ref x, b]) (fun v s' => ∃ r, v = .bool r ∧ Q (.bool (!r)) s') E s) : wpAny (model prog w) A (richCompare .NotEq (.ref x) b) Q E s := by
  have one := try_ne hu X I hm hs hf hn h
  unfold richCompare
  simp only [oneThing_ref]
  refine wpAny_holding (wpAny_bind (wpAny_cRoomFor (Nat.lt_of_succ_lt hu) ?_))
  rw [cmpInfo_NotEq]
  dsimp only
  refine wpAny_bind (I.type.here (wpAny_bind (hb.here ?_)))
  split
  · rename_i q
    have e : PySem.W.subIn K tb (.ref C) = some false := by
      rcases Bool.or_eq_true_iff.mp nf with e | e
      · rw [beq_iff_eq.mp e] at q
        simp at q
      · exact beq_iff_eq.mp e
    refine wpAny_bind ((PySem.W.looks_subIn X e).here ?_)
    simp only [Bool.false_eq_true, if_false]
    refine wpAny_bind (wpAny_mono one (fun r s' z => ?_) fun _ _ e => e)
    obtain ⟨v, rfl, hq⟩ := z
    exact wpAny_pure hq
  · refine wpAny_bind (wpAny_pure ?_)
    simp only [Bool.false_eq_true, if_false]
    refine wpAny_bind (wpAny_mono one (fun r s' z => ?_) fun _ _ e => e)
    obtain ⟨v, rfl, hq⟩ := z
    exact wpAny_pure hq
/-- a != x, a of a built-in type whose __ne__ declines -/
theorem rc_neR {f : Addr} {a : Value} {T id : String} {ox : Obj} {Q : Value → Shared → Prop} (hu : A.units + 1 < cLine) (X : K.In s.heap) (I : PySem.W.InstAt s.heap x ox C od) (ha : s.TypeIs a T) (one : oneThing? .NotEq a (.ref x) = none) (ns : PySem.W.subIn K (.ref C) (.type T) = some false) (sl : Slot T "__ne__" id) (dec : ∀ (Q : Value → Shared → Prop), Q .notImplemented s → wpAny (model prog w) A (call (.builtin id) [a, .ref x]) Q E s)
    (hm : PySem.W.mroIn K C (.type "object") = some true) (hs : PySem.W.findIn K (.ref C) "__eq__" = some (some (.ref f))) (hf : PySem.W.isFn K (.ref f) = true) (hn : PySem.W.findIn K (.ref C) "__ne__" = some (some (.builtin "object.__ne__")))
    (h : wpAny (model prog w) A.in1 (call (.ref f) [.ref x, a]) (fun v s' => ∃ r, v = .bool r ∧ Q (.bool (!r)) s') E s) : wpAny (model prog w) A (richCompare .NotEq a (.ref x)) Q E s := by
  have two := try_ne hu X I hm hs hf hn h
  unfold richCompare
  simp only [one]
  refine wpAny_holding (wpAny_bind (wpAny_cRoomFor (Nat.lt_of_succ_lt hu) ?_))
  rw [cmpInfo_NotEq]
  dsimp only
  refine wpAny_bind (wpAny_typeOf ha (wpAny_bind (I.type.here ?_)))
  have rest : wpAny (model prog w) A (do
      if let some v ← tryCompare a "__ne__" (.ref x) then return v
      if let some v ← tryCompare (.ref x) "__ne__" a then return v
      rule "compare.ne-identity"; return .bool (!(← isSame a (.ref x)))) Q E s := by
    refine wpAny_bind (wpAny_tryCompare_declines ha sl (dec _ ⟨rfl, ?_⟩))
    refine wpAny_bind (wpAny_mono two (fun r s' z => ?_) fun _ _ e => e)
    obtain ⟨v, rfl, hq⟩ := z
    exact wpAny_pure hq
  split
  · refine wpAny_bind ((PySem.W.looks_subIn X ns).here ?_)
    simp only [Bool.false_eq_true, if_false, Bool.not_false, if_true]
    exact rest
  · refine wpAny_bind (wpAny_pure ?_)
    simp only [Bool.false_eq_true, if_false, Bool.not_false, if_true]
    exact rest
end
end EV
/-! != of an instance with an own __eq__ and any other thing, as a rule. -/
namespace EV
open PySem PySem.Spec PyProof.Rows L2
def oddTypes : List String := ["NoneType", "int", "str", "list", "tuple", "dict"]
structure NeTxt (K : PySem.W.Frag) (C f : Addr) : Prop where
  eq : PySem.W.findIn K (.ref C) "__eq__" = some (some (.ref f))
  fn : PySem.W.isFn K (.ref f) = true
  ne : PySem.W.findIn K (.ref C) "__ne__" = some (some (.builtin "object.__ne__"))
  obj : PySem.W.mroIn K C (.type "object") = some true
  sub : ∀ T ∈ oddTypes, PySem.W.subIn K (.ref C) (.type T) = some false
/-- things of built-in types, as left ones -/
inductive OddL (K : PySem.W.Frag) (H : Hp) : V → Prop
  | non : OddL K H .non
  | int (i : Int) : OddL K H (.int i)
  | str (z : Str) : OddL K H (.str z)
  | lst {a : Addr} {xs : List V} (h : SqL K H a xs) : OddL K H (.ref a)
  | tup {a : Addr} {xs : List V} (h : SqT K H a xs) : OddL K H (.ref a)
  | dct {a : Addr} {kvs : List (Key × V)} (h : H a = some (.dK kvs)) : OddL K H (.ref a)
section
variable {X : Cx} {CX : CXT} {n : Nat} {C f : Addr} {fd : FuncData} {ps : List Str} {sp : Sp} {E : XK}
def rNeL (K : PySem.W.Frag) (C : Addr) (sp : Sp) (E : XK) (x y : V) (H : Hp) (Q : VK) : Prop := ∃ a dx fs t, x = .ref a ∧ H a = some (.ins C dx fs) ∧ TyX K H y t ∧ PySem.W.notFirst K C t = true ∧ sp [.ref a, y] H (fun v H' => ∃ b, v = .bl b ∧ Q (.bl !b) H') E
def rNeR (K : PySem.W.Frag) (C : Addr) (sp : Sp) (E : XK) (x y : V) (H : Hp) (Q : VK) : Prop := ∃ a dx fs, y = .ref a ∧ H a = some (.ins C dx fs) ∧ OddL K H x ∧ sp [.ref a, x] H (fun v H' => ∃ b, v = .bl b ∧ Q (.bl !b) H') E
theorem op_neOwn (F : FnOk X.prog X.w X.K X.mg X.base CX n f fd ps sp) (T : NeTxt X.K C f) (hb : L2.Binds X.K fd ps []) (hx : Passes CX X E) (hr : Room (n + 1) X.A) :
    OpR X (compareOp .NotEq) fun x y H Q => rNeL X.K C sp E x y H Q ∨ rNeR X.K C sp E x y H Q := by
  intro pins s σ H x y v u Q I rx ry h
  have sb : L2.Sub X (n + 1) X.A := ⟨hr, rfl⟩
  have hu : X.A.units + 1 < cLine := hu_of hr
  show wpAny (model X.prog X.w) X.A (richCompare .NotEq v u) (EP X pins σ Q) X.xe s
  rcases h with ⟨a, dx, fs, t, rfl, ha, ty, nf, hsp⟩ | ⟨a, dx, fs, rfl, ha, odd, hsp⟩
  · obtain rfl : v = Value.ref a := rx
    obtain ⟨mA, J, _⟩ := ins_get I.hok ha
    obtain ⟨od, J, _⟩ := J.look
    obtain ⟨P, Z, hP, _⟩ := kit_of I ry ty
    refine rc_neL hu I.kIn J (Z.ty _ _ I.kIn hP) nf T.obj T.eq T.fn T.ne (wpAny_mono (own_call (Q := fun v H' => ∃ b, v = .bl b ∧ Q (.bl !b) H') sb.in1 I F hb hx (.cons (show RelV (.ref a) (.ref a) from rfl) (.cons ry .nil)) hsp) (fun w s' z => ?_) fun _ _ e => e)
    obtain ⟨z, H', I', rz, b, rfl, q⟩ := z
    obtain rfl : w = Value.bool b := rz
    exact ⟨b, rfl, .bl !b, H', I', rfl, q⟩
  · obtain rfl : u = Value.ref a := ry
    obtain ⟨mA, J0, _⟩ := ins_get I.hok ha
    have at0 := J0.obj
    obtain ⟨od, J, _⟩ := J0.look
    have inner : ∀ {w : Value}, RelV x w → wpAny (model X.prog X.w) X.A.in1 (call (.ref f) [.ref a, w]) (fun v s' => ∃ r, v = .bool r ∧ EP X pins σ Q (.bool (!r)) s') X.xe s := fun rw' => by
      refine wpAny_mono (own_call (Q := fun v H' => ∃ b, v = .bl b ∧ Q (.bl !b) H') sb.in1 I F hb hx (.cons (show RelV (.ref a) (.ref a) from rfl) (.cons rw' .nil)) hsp) (fun w s' z => ?_) fun _ _ e => e
      obtain ⟨z, H', I', rz, b, rfl, q⟩ := z
      obtain rfl : w = Value.bool b := rz
      exact ⟨b, rfl, .bl !b, H', I', rfl, q⟩
    have sub : ∀ T' ∈ oddTypes, PySem.W.subIn X.K (.ref C) (.type T') = some false := T.sub
    cases odd with
    | non =>
      obtain rfl : v = Value.none := rx
      exact rc_neR hu I.kIn J rfl rfl (sub "NoneType" (by decide)) PySem.F.slot_NoneType_ne (fun Q q => ne_none q) T.obj T.eq T.fn T.ne (inner rfl)
    | int i =>
      obtain ⟨t, rfl⟩ := rx
      exact rc_neR hu I.kIn J (typeIs_int s i t) rfl (sub "int" (by decide)) PySem.F.slot_int_ne (fun Q q => ne_int at0 q) T.obj T.eq T.fn T.ne (inner ⟨t, rfl⟩)
    | str z =>
      obtain ⟨t, rfl⟩ := rx
      exact rc_neR hu I.kIn J (typeIs_str s z t) rfl (sub "str" (by decide)) PySem.F.slot_str_ne (fun Q q => ne_str at0 q) T.obj T.eq T.fn T.ne (inner ⟨t, rfl⟩)
    | @lst l xs hl =>
      obtain rfl : v = Value.ref l := rx
      obtain ⟨its, _, p, _⟩ := I.list hl
      have tl : s.TypeIs (.ref l) "list" := p.isList.elim fun o q => ⟨o, q.1, q.2.1⟩
      exact rc_neR hu I.kIn J tl rfl (sub "list" (by decide)) PySem.F.slot_list_ne (fun Q q => ne_list I.kIn at0 (sub "list" (by decide)) tl q) T.obj T.eq T.fn T.ne (inner rfl)
    | @tup l xs hl =>
      obtain rfl : v = Value.ref l := rx
      obtain ⟨its, _, p, _⟩ := I.tuple hl
      have hp : s.heap.IsTuple l its.toArray := p
      have tl : s.TypeIs (.ref l) "tuple" := hp.elim fun o q => ⟨o, q.1, q.2.1⟩
      exact rc_neR hu I.kIn J tl rfl (sub "tuple" (by decide)) PySem.F.slot_tuple_ne (fun Q q => ne_tuple I.kIn at0 (sub "tuple" (by decide)) tl q) T.obj T.eq T.fn T.ne (inner rfl)
    | @dct l kvs hl =>
      obtain rfl : v = Value.ref l := rx
      obtain ⟨_, hd, vs, rel, dd⟩ := dk_of I.hok hl
      have tl : s.TypeIs (.ref l) "dict" := dd.typeIs
      exact rc_neR hu I.kIn J tl rfl (sub "dict" (by decide)) PySem.F.slot_dict_ne (fun Q q => ne_dict I.kIn at0 (sub "dict" (by decide)) tl q) T.obj T.eq T.fn T.ne (inner rfl)
end
end EV
namespace K6
open PySem PySem.Spec PyProof.Rows L2 LamX NdefX EV
/-! ### rows as literals of distinct names -/
theorem lit_inj {p q : Bool × Str} (hp : Name1 p.2) (hq : Name1 q.2) (e : lit p = lit q) : p = q := by
  obtain ⟨a, m⟩ := p
  obtain ⟨b, n⟩ := q
  unfold lit at e
  cases a <;> cases b <;> simp at e
  · rw [e]
  · exact (name_neg hp e).elim
  · exact (name_neg hq e.symm).elim
  · rw [neg_inj e]
def pairs (ns : List Str) : List (Bool × Str) := ns.flatMap fun n => [(false, n), (true, n)]
theorem pairs_lit : ∀ ns : List Str, (pairs ns).map lit = lits ns
  | [] => rfl
  | n :: r => by
    show lit (false, n) :: lit (true, n) :: (pairs r).map lit = n :: neg n :: lits r
    rw [pairs_lit r]
    rfl
theorem pairs_mem {ns : List Str} {q : Bool × Str} : q ∈ pairs ns ↔ q.2 ∈ ns := by
  unfold pairs
  rw [List.mem_flatMap]
  constructor
  · rintro ⟨n, hn, h⟩
    rcases List.mem_cons.mp h with h | h
    · rw [h]; exact hn
    · rw [List.mem_singleton.mp h]; exact hn
  · intro h
    refine ⟨q.2, h, ?_⟩
    obtain ⟨b, n⟩ := q
    cases b <;> simp
theorem pairs_nodup : ∀ (ns : List Str) (p : Bool × Str → Bool), ns.Nodup → (∀ n ∈ ns, ¬ (p (false, n) = true ∧ p (true, n) = true)) → (((pairs ns).filter p).map Prod.snd).Nodup
  | [], _, _, _ => List.nodup_nil
  | n :: r, p, nd, one => by
    obtain ⟨n1, n2⟩ := List.nodup_cons.mp nd
    have ih := pairs_nodup r p n2 fun m hm => one m (List.mem_cons_of_mem _ hm)
    have fresh : n ∉ ((pairs r).filter p).map Prod.snd := fun q => by
      obtain ⟨z, hz, e⟩ := List.mem_map.mp q
      have z2 := pairs_mem.mp (List.mem_filter.mp hz).1
      rw [e] at z2
      exact n1 z2
    have o := one n List.mem_cons_self
    show ((((false, n) :: (true, n) :: pairs r).filter p).map Prod.snd).Nodup
    cases h1 : p (false, n) with
    | true =>
      have h2 : p (true, n) = false := by
        cases h2 : p (true, n) with
        | false => rfl
        | true => exact absurd ⟨h1, h2⟩ o
      rw [List.filter_cons_of_pos h1, List.filter_cons_of_neg (by rw [h2]; decide), List.map_cons]
      exact List.nodup_cons.mpr ⟨fresh, ih⟩
    | false =>
      rw [List.filter_cons_of_neg (by rw [h1]; decide)]
      cases h2 : p (true, n) with
      | true =>
        rw [List.filter_cons_of_pos h2, List.map_cons]
        exact List.nodup_cons.mpr ⟨fresh, ih⟩
      | false =>
        rw [List.filter_cons_of_neg (by rw [h2]; decide)]
        exact ih
/-- a row is a clause again -/
theorem RowOf.lits {ns r : List Str} (nd : ns.Nodup) (good : ∀ z ∈ ns, Name1 z) (h : RowOf ns r) : ∃ qs, Lits ns qs ∧ r = qs.map lit := by
  obtain ⟨qs, hq, rfl⟩ := h
  refine ⟨(pairs ns).filter fun q => decide (lit q ∈ qs.map lit), ⟨pairs_nodup ns _ nd ?_, fun q h => pairs_mem.mp (List.mem_filter.mp h).1⟩, ?_⟩
  · rintro n hn ⟨h1, h2⟩
    obtain ⟨p, hp, e1⟩ := List.mem_map.mp (of_decide_eq_true h1)
    obtain ⟨q, hq', e2⟩ := List.mem_map.mp (of_decide_eq_true h2)
    have p1 := lit_inj (good _ (hq.sub p hp)) (good n hn) e1
    have q1 := lit_inj (good _ (hq.sub q hq')) (good n hn) e2
    subst p1 q1
    have same : ∀ {qs : List (Bool × Str)} {p q : Bool × Str}, (qs.map Prod.snd).Nodup → p ∈ qs → q ∈ qs → p.2 = q.2 → p = q := fun {qs} => by
      induction qs with
      | nil => intro p q _ h; cases h
      | cons z r ih =>
        intro p q nd hp hq e
        rw [List.map_cons] at nd
        obtain ⟨m1, m2⟩ := List.nodup_cons.mp nd
        rcases List.mem_cons.mp hp with h1 | h1
        · rcases List.mem_cons.mp hq with h2 | h2
          · exact h1.trans h2.symm
          · exact absurd (h1 ▸ e ▸ List.mem_map_of_mem h2 : z.2 ∈ r.map Prod.snd) m1
        · rcases List.mem_cons.mp hq with h2 | h2
          · exact absurd (h2 ▸ e ▸ List.mem_map_of_mem h1 : z.2 ∈ r.map Prod.snd) m1
          · exact ih m2 h1 h2 e
    have z := same hq.nd hp hq' rfl
    cases z
  · unfold asc
    rw [← pairs_lit, List.filter_map]
    rfl
theorem Lits.names {ns ns' : List Str} {qs : List (Bool × Str)} (h : Lits ns qs) (sub : ∀ z ∈ ns, z ∈ ns') : Lits ns' qs := ⟨h.nd, fun q hq => sub _ (h.sub q hq)⟩
theorem lits_mem {ns : List Str} {l : Str} : l ∈ lits ns ↔ ∃ n ∈ ns, l = n ∨ l = neg n := by
  unfold lits
  rw [List.mem_flatMap]
  constructor
  · rintro ⟨n, hn, h⟩
    rcases List.mem_cons.mp h with h | h
    · exact ⟨n, hn, .inl h⟩
    · exact ⟨n, hn, .inr (List.mem_singleton.mp h)⟩
  · rintro ⟨n, hn, h | h⟩
    · exact ⟨n, hn, by rw [h]; exact List.mem_cons_self⟩
    · exact ⟨n, hn, by rw [h]; exact List.mem_cons_of_mem _ (List.mem_singleton.mpr rfl)⟩
theorem asc_congr {ns a b : List Str} (h : ∀ l, l ∈ a ↔ l ∈ b) : asc ns a = asc ns b := by
  unfold asc
  refine List.filter_congr fun l _ => ?_
  exact decide_eq_decide.mpr (h l)
theorem asc_asc {ns ls : List Str} : asc ns (asc ns ls) = asc ns ls := by
  unfold asc
  refine List.filter_congr fun l hl => ?_
  exact decide_eq_decide.mpr ⟨fun h => of_decide_eq_true (List.mem_filter.mp h).2, fun h => List.mem_filter.mpr ⟨hl, decide_eq_true h⟩⟩
end K6
namespace K6
open PySem PySem.Spec PyProof.Rows L2 LamX NdefX EV
/-! ### rows, each once -/
def addRow (rs : List (List Str)) (r : List Str) : List (List Str) := if r ∈ rs then rs else rs ++ [r]
def rowKv (r : List Str) : List Key × V := (r.map Sum.inr, .bl true)
theorem inr_inj : ∀ {a b : List Str}, a.map (Sum.inr : Str → Key) = b.map Sum.inr → a = b
  | [], [], _ => rfl
  | [], _ :: _, h => nomatch h
  | _ :: _, [], h => nomatch h
  | x :: a, y :: b, h => by
    injection h with h1 h2
    injection h1 with h1
    rw [h1, inr_inj h2]
theorem row_some {r : List Str} : ∀ rs : List (List Str), r ∈ rs → valV (rs.map rowKv) (r.map Sum.inr) = some (.bl true)
  | [], h => nomatch h
  | m :: rs, h => by
    by_cases e : m = r
    · subst e
      exact valV_pos rfl
    · rw [List.map_cons, valV_neg (fun q => e (inr_inj q))]
      exact row_some rs ((List.mem_cons.mp h).resolve_left fun q => e q.symm)
theorem row_none {r : List Str} : ∀ rs : List (List Str), r ∉ rs → valV (rs.map rowKv) (r.map Sum.inr) = none
  | [], _ => rfl
  | m :: rs, h => by
    rw [List.map_cons, valV_neg (fun q => h (by rw [inr_inj q]; exact List.mem_cons_self))]
    exact row_none rs fun q => h (List.mem_cons_of_mem _ q)
theorem row_put {rs : List (List Str)} {r : List Str} : putK (rs.map rowKv) (r.map Sum.inr) (.bl true) = (addRow rs r).map rowKv := by
  unfold addRow
  by_cases h : r ∈ rs
  · rw [if_pos h]
    unfold putK
    rw [valV_any, row_some rs h]
    show List.map (fun kv => if kv.1 = r.map Sum.inr then (kv.1, V.bl true) else kv) (List.map rowKv rs) = _
    rw [List.map_map]
    refine List.map_congr_left fun m _ => ?_
    show (if (rowKv m).1 = _ then _ else _) = _
    split
    · rfl
    · rfl
  · rw [if_neg h, putK_new (row_none rs h), List.map_append]
    rfl
theorem addRow_len (rs : List (List Str)) (r : List Str) : (addRow rs r).length ≤ rs.length + 1 := by
  unfold addRow
  split
  · omega
  · rw [List.length_append]; exact Nat.le_refl _
theorem kV_strs (r : List Str) : (r.map (Sum.inr : Str → Key)).map kV = r.map V.str := by
  rw [List.map_map]
  rfl
/-- the rows of clauses, each once, in the order in which they come -/
def rowsOf (ns : List Str) (qss : List (List (Bool × Str))) : List (List Str) := (qss.map fun qs => asc ns (qs.map lit)).foldl addRow []
theorem rowsOf_snoc (ns : List Str) (qss : List (List (Bool × Str))) (qs : List (Bool × Str)) : rowsOf ns (qss ++ [qs]) = addRow (rowsOf ns qss) (asc ns (qs.map lit)) := by
  unfold rowsOf
  rw [List.map_append, List.foldl_append]
  rfl
theorem rowsOf_len (ns : List Str) : ∀ qss : List (List (Bool × Str)), (rowsOf ns qss).length ≤ qss.length := by
  have go : ∀ (xs acc : List (List Str)), (xs.foldl addRow acc).length ≤ acc.length + xs.length := by
    intro xs
    induction xs with
    | nil => intro acc; exact Nat.le_refl _
    | cons x r ih =>
      intro acc
      have z := ih (addRow acc x)
      have y := addRow_len acc x
      rw [List.foldl_cons, List.length_cons]
      omega
  intro qss
  have z := go (qss.map fun qs => asc ns (qs.map lit)) []
  rw [List.length_map] at z
  unfold rowsOf
  simpa using z
/-- all but x stays -/
def Grow (x : Addr) (H H' : Hp) : Prop := ∀ c o, c ≠ x → H c = some o → H' c = some o
theorem Grow.of {x : Addr} {H H' : Hp} (s : Same H H') : Grow x H H' := fun c o _ h => s c o h
theorem Grow.trans {x : Addr} {H H1 H2 : Hp} (a : Grow x H H1) (b : Grow x H1 H2) : Grow x H H2 := fun c o n h => b c o n (a c o n h)
theorem Grow.put {x : Addr} {H : Hp} {o : HO} : Grow x H (upd H x o) := fun _ _ n h => (upd_ne n).trans h
theorem tup_any {K : PySem.W.Frag} {H : Hp} {b : Bool} {a x : Addr} {xs : List V} {Q : VK} (hs : ∀ H', Grow x H H' → Sq K b H' a xs) {o : HO} (hx : H x = some o) (k : ∀ q H', Same H H' → (∀ H2, Grow x H' H2 → SqT K H2 q xs) → Q (.ref q) H') : kTup K (.ref a) H Q := by
  have h := hs H (Grow.of (Same.refl H))
  cases b with
  | false => exact .inr ⟨a, xs, rfl, h, k a H (Same.refl H) fun H2 g => hs H2 g⟩
  | true => exact .inl ⟨a, xs, rfl, h, fun q hq => k q _ (same_new hq) fun H2 g => SqT.of (g _ _ (ne_of_none hx hq).symm upd_same)⟩
/-- one clause handed over: a list or tuple of literals of distinct names -/
def Given (K : PySem.W.Frag) (s : Addr) (H : Hp) (ns : List Str) (x : V) (qs : List (Bool × Str)) : Prop := Lits ns qs ∧ ∃ (b : Bool) (A : Addr) (t : Value), x = .ref A ∧ (∀ H', Grow s H H' → TyX K H' (.ref A) t) ∧ PySem.W.kitAny K t [.type "list", .type "tuple"] = some true ∧ ∀ H', Grow s H H' → Sq K b H' A ((qs.map lit).map V.str)
theorem Given.ask {K : PySem.W.Frag} {s : Addr} {H : Hp} {ns : List Str} {x : V} {qs : List (Bool × Str)} (g : Given K s H ns x qs) : Ask K H ns true x := by
  obtain ⟨hq, b, A, t, rfl, ty, kit, sq⟩ := g
  exact .seq t (fun H' s' => ty H' (.of s')) kit (fun H' s' => sq H' (.of s')) fun _ _ => .ok hq
section
variable {P : Program} {w : World} {K : PySem.W.Frag} {mg : Str → Option Value} {base : Heap} {f fN fP fC fO C : Addr} {fd fdN fdP fdC fdO : FuncData}
end
end K6
namespace K6
open PySem PySem.Spec PyProof.Rows L2 LamX NdefX EV
/-! ### repr of data without dicts -/
mutual
theorem dp_free {K : PySem.W.Frag} {H : Hp} : ∀ {v : V} {d : PyData}, Dp K H v d → d.hasDict = false
  | _, _, .non => rfl
  | _, _, .bl _ => rfl
  | _, _, .int _ => rfl
  | _, _, .str _ => rfl
  | _, _, .lst _ h => by
    show PyData.hasDictAll _ = false
    exact dps_free h
  | _, _, .tup _ h => by
    show PyData.hasDictAll _ = false
    exact dps_free h
theorem dps_free {K : PySem.W.Frag} {H : Hp} : ∀ {vs : List V} {ds : List PyData}, DpAll K H vs ds → PyData.hasDictAll ds = false
  | _, _, .nil => rfl
  | _, _, .cons h t => by
    show (PyData.hasDict _ || PyData.hasDictAll _) = false
    rw [dp_free h, dps_free t]
    rfl
end
def rReprP (K : PySem.W.Frag) : List V → Hp → VK → Prop := fun xs H Q => ∃ (x : V) (d : PyData), xs = [x] ∧ Dp K H x d ∧ d.showable = true ∧ d.shown.length ≤ sizeLine ∧ d.depth ≤ 60 ∧ Q (.str d.shown) H
theorem call_reprP {X : Cx} (hg : X.A.guards = some []) (hu : X.A.units + 64 < cLine) : CallR X (.builtin "repr") (rReprP X.K) := by
  intro pins s σ H xs us Q I r h
  obtain ⟨x, d, rfl, hd, hs, hz, hdp, q⟩ := h
  obtain ⟨u, rfl, ru⟩ := r.one
  have hf := dp_free hd
  cases hd with
  | non =>
    cases ru
    exact PySem.P.repr_of_none ⟨.str _, H, I.tok _, ⟨_, rfl⟩, q⟩
  | bl b =>
    cases ru
    refine PySem.P.repr_of_bool ⟨.str _, H, I.tok _, ⟨_, rfl⟩, ?_⟩
    cases b <;> exact q
  | int i =>
    obtain ⟨t, rfl⟩ := ru
    exact PySem.P.repr_of_int (by simpa [PyData.showable] using hs) ⟨.str _, H, I.tok _, ⟨_, rfl⟩, q⟩
  | str y =>
    obtain ⟨t, rfl⟩ := ru
    exact PySem.P.repr_of_str ⟨.str _, H, I.tok _, ⟨_, rfl⟩, q⟩ hz
  | lst h2 h3 =>
    obtain ⟨as, hr⟩ := Dp.reads I _ _ _ (.lst h2 h3) ru
    cases ru
    exact repr_of_reads' hr hs (fun z => by rw [hf] at z; cases z) hg (by omega) (fun _ _ e => e) (fun h' u tk k => ⟨.str _, H, I.kept k, ⟨u, rfl⟩, q⟩) hz
  | tup h2 h3 =>
    obtain ⟨as, hr⟩ := Dp.reads I _ _ _ (.tup h2 h3) ru
    cases ru
    exact repr_of_reads' hr hs (fun z => by rw [hf] at z; cases z) hg (by omega) (fun _ _ e => e) (fun h' u tk k => ⟨.str _, H, I.kept k, ⟨u, rfl⟩, q⟩) hz
/-! ### what is shown is small -/
/-- texts of few signs, shown within few places -/
structure Small (d : PyData) (n : Nat) : Prop where
  ls : d.leavesShort 40 = true
  bk : d.bulk ≤ n
  sh : d.showable = true
  dp : d.depth ≤ 10
theorem Small.fits {d : PyData} {n : Nat} (h : Small d n) (hn : n ≤ 20000) : d.shown.length ≤ sizeLine := by
  have z := PyData.shown_le_bulk 40 (by decide) d h.ls
  have b := h.bk
  rw [sizeLine_eq]
  omega
structure SmallAll (ds : List PyData) (n m : Nat) : Prop where
  ls : PyData.leavesShortAll 40 ds = true
  bk : PyData.bulkAll ds ≤ n
  sh : PyData.showableAll ds = true
  dp : PyData.depthAll ds ≤ m
theorem SmallAll.nil {m : Nat} : SmallAll [] 0 m := ⟨rfl, Nat.le_refl 0, rfl, Nat.zero_le _⟩
theorem SmallAll.cons {d : PyData} {ds : List PyData} {a b m : Nat} (h : d.leavesShort 40 = true) (h2 : d.bulk ≤ a) (h3 : d.showable = true) (h4 : d.depth ≤ m) (t : SmallAll ds b m) : SmallAll (d :: ds) (a + 1 + b) m := by
  refine ⟨?_, ?_, ?_, ?_⟩
  · simp only [PyData.leavesShortAll, h, t.ls, Bool.and_self]
  · have := t.bk
    simp only [PyData.bulkAll]
    omega
  · simp only [PyData.showableAll, h3, t.sh, Bool.and_self]
  · have := t.dp
    simp only [PyData.depthAll]
    omega
theorem name_short {z : Str} (h : Fit z) : (z.cps.toList.all fun c => decide (c < 16 ^ 8)) = true := List.all_eq_true.mpr fun c hc => decide_eq_true (Nat.lt_trans (h c hc) (by decide))
/-- lists of short texts -/
theorem small_strs {n : Nat} : ∀ xs : List Str, (∀ z ∈ xs, Fit z ∧ z.length ≤ n) → SmallAll (xs.map PyData.str) ((n + 1) * xs.length) 2
  | [], _ => SmallAll.nil
  | x :: xs, h => by
    have z := SmallAll.cons (d := .str x) (a := n) (name_short (h x List.mem_cons_self).1) (h x List.mem_cons_self).2 rfl (Nat.zero_le _) (small_strs xs fun z hz => h z (List.mem_cons_of_mem _ hz))
    refine ⟨z.ls, ?_, z.sh, z.dp⟩
    have b := z.bk
    rw [List.length_cons, Nat.mul_succ]
    show PyData.bulkAll (.str x :: xs.map PyData.str) ≤ _
    omega
theorem small_list {ds : List PyData} {n m : Nat} (h : SmallAll ds n m) : (PyData.list ds).leavesShort 40 = true ∧ (PyData.list ds).bulk ≤ n ∧ (PyData.list ds).showable = true ∧ (PyData.list ds).depth ≤ m + 1 := by
  refine ⟨h.ls, h.bk, h.sh, ?_⟩
  have := h.dp
  simp only [PyData.depth]
  omega
theorem small_tup {ds : List PyData} {n m : Nat} (h : SmallAll ds n m) : (PyData.tuple ds).leavesShort 40 = true ∧ (PyData.tuple ds).bulk ≤ n ∧ (PyData.tuple ds).showable = true ∧ (PyData.tuple ds).depth ≤ m + 1 := by
  refine ⟨h.ls, h.bk, h.sh, ?_⟩
  have := h.dp
  simp only [PyData.depth]
  omega
theorem small_rows {n m : Nat} : ∀ rs : List (List Str), (∀ r ∈ rs, r.length ≤ m ∧ ∀ z ∈ r, Fit z ∧ z.length ≤ n) → SmallAll (rs.map fun r => PyData.tuple (r.map PyData.str)) (((n + 1) * m + 1) * rs.length) 3
  | [], _ => SmallAll.nil
  | r :: rs, h => by
    obtain ⟨h1, h2⟩ := h r List.mem_cons_self
    obtain ⟨a1, a2, a3, a4⟩ := small_tup (small_strs r h2)
    have z := SmallAll.cons a1 a2 a3 a4 (small_rows rs fun z hz => h z (List.mem_cons_of_mem _ hz))
    refine ⟨z.ls, ?_, z.sh, z.dp⟩
    have b := z.bk
    have c : (n + 1) * r.length ≤ (n + 1) * m := Nat.mul_le_mul_left _ h1
    rw [List.length_cons, Nat.mul_succ]
    show PyData.bulkAll (.tuple (r.map PyData.str) :: rs.map fun r => PyData.tuple (r.map PyData.str)) ≤ _
    omega
theorem dp_app {K : PySem.W.Frag} {H : Hp} : ∀ {vs ws : List V} {ds es : List PyData}, DpAll K H vs ds → DpAll K H ws es → DpAll K H (vs ++ ws) (ds ++ es)
  | _, _, _, _, .nil, h => h
  | _, _, _, _, .cons h t, h2 => .cons h (dp_app t h2)
theorem small_app {n k m : Nat} : ∀ {ds es : List PyData}, SmallAll ds n m → SmallAll es k m → SmallAll (ds ++ es) (n + k) m := fun {ds es} h1 h2 => by
  have go : ∀ ds : List PyData, (PyData.leavesShortAll 40 (ds ++ es) = (PyData.leavesShortAll 40 ds && PyData.leavesShortAll 40 es)) ∧ PyData.bulkAll (ds ++ es) = PyData.bulkAll ds + PyData.bulkAll es ∧ PyData.showableAll (ds ++ es) = (PyData.showableAll ds && PyData.showableAll es) ∧ PyData.depthAll (ds ++ es) ≤ max (PyData.depthAll ds) (PyData.depthAll es) := by
    intro ds
    induction ds with
    | nil => exact ⟨rfl, by simp [PyData.bulkAll], rfl, by simp [PyData.depthAll]⟩
    | cons d ds ih =>
      obtain ⟨i1, i2, i3, i4⟩ := ih
      refine ⟨?_, ?_, ?_, ?_⟩
      · simp only [List.cons_append, PyData.leavesShortAll, i1, Bool.and_assoc]
      · simp only [List.cons_append, PyData.bulkAll, i2]
        omega
      · simp only [List.cons_append, PyData.showableAll, i3, Bool.and_assoc]
      · simp only [List.cons_append, PyData.depthAll]
        omega
  obtain ⟨g1, g2, g3, g4⟩ := go ds
  have a1 := h1.bk
  have a2 := h2.bk
  have a3 := h1.dp
  have a4 := h2.dp
  exact ⟨by rw [g1, h1.ls, h2.ls]; rfl, by omega, by rw [g3, h1.sh, h2.sh]; rfl, by omega⟩
/-! ### _law_same over such data -/
def spSameP (K : PySem.W.Frag) : Sp := fun vs H Q _ => ∃ (x y : V) (d : PyData) (n : Nat), vs = [x, y] ∧ Dp K H x d ∧ Dp K H y d ∧ Small d n ∧ n ≤ 20000 ∧ Q (.bl true) H
section
variable {P : Program} {w : World} {K : PySem.W.Frag} {mg : Str → Option Value} {base : Heap} {f : Addr} {fd : FuncData}
theorem ok_sameP (F : Fun K "_law_same" "_law_same" sSame f fd) (mr : mg "repr" = none) : FnG P w K mg base 1 f fd ["_law_found", "_law_due_here"] (spSameP K) := by
  refine fng_of F scSame (fun vs H Q E h => ?_) (fun cdv A outer s H vs Q E hg hr h => ?_)
  · obtain ⟨x, y, d, n, rfl, _⟩ := h
    rfl
  · obtain ⟨x, y, d, n, rfl, hx, hy, sm, hn, k⟩ := h
    refine ⟨_, pss_one (ps_ret (pe_cmpR op_eq (pe_callB (call_reprP hg hr.units) (by rfl) mr (by decide +kernel) (pa_cons (pv 0) pa_nil)) (pe_callB (call_reprP hg hr.units) (by rfl) mr (by decide +kernel) (pa_cons (pv 1) pa_nil)) (nomark _))), ?_⟩
    have h3 : d.depth ≤ 60 := Nat.le_trans sm.dp (by decide)
    refine ⟨_, rfl, _, d, rfl, hx, sm.sh, sm.fits hn, h3, _, rfl, _, d, rfl, hy, sm.sh, sm.fits hn, h3, rfl, ?_⟩
    show Q (.bl (decide (V.str d.shown = V.str d.shown))) H
    rw [decide_eq_true rfl]
    exact k
end
end K6
namespace K6
open PySem PySem.Spec PyProof.Rows L2 LamX NdefX EV
/-- a tuple stands while a dict elsewhere is locked -/
theorem sqT_off {K : PySem.W.Frag} {H H' : Hp} {a d : Addr} {xs : List V} {ws : List (List Key × V)} (h : SqT K H a xs) (hd : H d = some (.dT ws)) (g : Grow d H H') : SqT K H' a xs := by
  rcases h with h | h
  · refine .inl ?_
    rcases h with h | ⟨o, h⟩
    · exact .inl (g _ _ (fun e => by rw [e, hd] at h; cases h) h)
    · exact .inr ⟨o, g _ _ (fun e => by rw [e, hd] at h; cases h) h⟩
  · exact .inr h
section
variable {P : Program} {w : World} {K : PySem.W.Frag} {mg : Str → Option Value} {base : Heap} {f C : Addr} {fd : FuncData}
end
end K6
namespace K6
open PySem PySem.Spec PyProof.Rows L2 LamX NdefX EV
structure CIs (K : PySem.W.Frag) (C : Addr) : Prop where
  cl : PySem.W.findIn K (.ref C) "__class__" = some (some (.builtin "object.__class__"))
  gt : PySem.W.specialIn K (.builtin "object.__class__") "__get__" = some (some (.builtin "getset_descriptor.__get__"))
  tk : PySem.W.takesIn K (.builtin "object.__class__") = some true
  ob : PySem.W.mroIn K C (.type "object") = some true
theorem mem_same {xs ys : List Str} (h : sameMem xs ys = true) : ∀ x ∈ xs, x ∈ ys := (sameMem_iff.mp h).2
theorem nodup_back : ∀ {xs ys : List Str}, xs.Nodup → xs.length = ys.length → (∀ x ∈ xs, x ∈ ys) → ∀ y ∈ ys, y ∈ xs := fun {xs ys} nd len sub y hy => by
  by_cases h : y ∈ xs
  · exact h
  · have z := nodup_le (y :: xs) ys (List.nodup_cons.mpr ⟨h, nd⟩) fun a ha => (List.mem_cons.mp ha).elim (fun e => e ▸ hy) (sub a)
    rw [List.length_cons] at z
    omega
section
variable {P : Program} {w : World} {K : PySem.W.Frag} {mg : Str → Option Value} {base : Heap} {f fS fI C : Addr} {fd fdS fdI : FuncData}
end
end K6
namespace K6
open PySem PySem.Spec PyProof.Rows L2 LamX NdefX EV
def more : Str := Str.ofString "more"
theorem more_fit : Fit more ∧ more.length ≤ 9 := ⟨by unfold Fit; decide +kernel, by decide +kernel⟩
theorem row_texts {ns r : List Str} (good : ∀ z ∈ ns, Name1 z) (h : RowOf ns r) : r.length ≤ 2 * ns.length ∧ ∀ z ∈ r, Fit z ∧ z.length ≤ 9 := by
  obtain ⟨qs, hq, rfl⟩ := h
  refine ⟨asc_len ns _, fun z hz => ?_⟩
  obtain ⟨n, hn, e⟩ := lits_mem.mp (List.mem_filter.mp hz).1
  have g := good n hn
  have l8 : n.length ≤ 8 := g.2.1
  rcases e with rfl | rfl
  · exact ⟨g.fit, by omega⟩
  · exact ⟨g.fit.neg, by rw [neg_len]; omega⟩
def ap (b : Bool) (xs : List V) : List V := if b = true then xs ++ [.str more] else xs
/-- what such a list shows -/
theorem small_more {xs : List Str} (h : ∀ z ∈ xs, Name1 z) (n4 : xs.length ≤ 10) : SmallAll ((xs ++ [more]).map PyData.str) 110 2 := by
  have z := small_strs (n := 9) (xs ++ [more]) fun z hz => by
    rcases List.mem_append.mp hz with q | q
    · have g := h z q
      have l8 : z.length ≤ 8 := g.2.1
      exact ⟨g.fit, by omega⟩
    · rw [List.mem_singleton.mp q]
      exact more_fit
  refine ⟨z.ls, Nat.le_trans z.bk ?_, z.sh, z.dp⟩
  rw [List.length_append, List.length_singleton]
  omega
theorem shown_int {n : Nat} (h : n ≤ 7) : (PyData.int (n : Int)).leavesShort 40 = true ∧ (PyData.int (n : Int)).showable = true := by
  match n, h with
  | 0, _ => decide +kernel
  | 1, _ => decide +kernel
  | 2, _ => decide +kernel
  | 3, _ => decide +kernel
  | 4, _ => decide +kernel
  | 5, _ => decide +kernel
  | 6, _ => decide +kernel
  | 7, _ => decide +kernel
section
variable {P : Program} {w : World} {K : PySem.W.Frag} {mg : Str → Option Value} {base : Heap} {f fS f1 f2 f3 f4 C : Addr} {fd fdS fd1 fd2 fd3 fd4 : FuncData}
end
end K6
namespace K6
open PySem PySem.Spec PyProof.Rows L2 LamX NdefX EV
/-! ### making a code -/
theorem TyOf.same {K : PySem.W.Frag} {H H' : Hp} {v : V} {t : Value} (h : TyOf K H v t) (sm : Same H H') : TyOf K H' v t := by
  cases h with
  | non => exact .non
  | bl b => exact .bl b
  | int i => exact .int i
  | str z => exact .str z
  | flt z => exact .flt z
  | lst e => exact .lst (sm _ _ e)
  | frz e => exact .frz (sm _ _ e)
  | tup e => exact .tup (sm _ _ e)
  | dK e => exact .dK (sm _ _ e)
  | dT e => exact .dT (sm _ _ e)
  | ins e a b c d f => exact .ins (sm _ _ e) a b c d f
theorem TyX.same {K : PySem.W.Frag} {H H' : Hp} {v : V} {t : Value} (h : TyX K H v t) (sm : Same H H') : TyX K H' v t := by
  cases h with
  | base h => exact .base (TyOf.same h sm)
  | byt b => exact .byt b
  | set e => exact .set (sm _ _ e)
  | kList a b => exact .kList a b
  | kTuple a b => exact .kTuple a b
  | kDict a b => exact .kDict a b
  | fTuple e => exact .fTuple (sm _ _ e)
  | fDict e => exact .fDict (sm _ _ e)
theorem Sq.same {K : PySem.W.Frag} {H H' : Hp} {b : Bool} {a : Addr} {xs : List V} (h : Sq K b H a xs) (sm : Same H H') : Sq K b H' a xs := by
  cases b
  · exact sqT_same sm h
  · exact Same.seq sm h
/-- a clause that is handed over -/
def Handed (K : PySem.W.Frag) (H : Hp) (ns : List Str) (x : V) (qs : List (Bool × Str)) : Prop := Lits ns qs ∧ ∃ (b : Bool) (A : Addr), x = .ref A ∧ Sq K b H A ((qs.map lit).map V.str)
theorem Sq.ty {K : PySem.W.Frag} {H : Hp} {b : Bool} {a : Addr} {xs : List V} (h : Sq K b H a xs) : TyX K H (.ref a) (.type (if b = true then "list" else "tuple")) := by
  cases b
  · rcases h with (h | ⟨o, h⟩) | ⟨o, its, n, h1, h2, _⟩
    · exact .base (.tup h)
    · exact .fTuple h
    · exact .kTuple h1 h2
  · rcases h with (h | ⟨o, h⟩) | ⟨o, its, n, h1, h2, _⟩
    · exact .base (.lst h)
    · exact .base (.frz h)
    · exact .kList h1 h2
theorem kit_seq {K : PySem.W.Frag} (b : Bool) : PySem.W.kitAny K (.type (if b = true then "list" else "tuple")) [.type "list", .type "tuple"] = some true := by
  cases b
  · exact kitAny_cons (b := false) (kit_ty (by decide +kernel)) (fun _ => kitAny_cons (b := true) (kit_ty (by decide +kernel)) (fun z => nomatch z) fun _ => rfl) (fun z => nomatch z)
  · exact kitAny_cons (b := true) (kit_ty (by decide +kernel)) (fun z => nomatch z) fun _ => rfl
theorem Handed.given {K : PySem.W.Frag} {H H1 : Hp} {s : Addr} {ns : List Str} {x : V} {qs : List (Bool × Str)} (h : Handed K H ns x qs) (g : ∀ H', Grow s H1 H' → Same H H') : Given K s H1 ns x qs := by
  obtain ⟨hq, b, A, rfl, sq⟩ := h
  exact ⟨hq, b, A, _, rfl, fun H' gg => Sq.ty (Sq.same sq (g H' gg)), kit_seq b, fun H' gg => Sq.same sq (g H' gg)⟩
theorem Handed.same {K : PySem.W.Frag} {H H' : Hp} {ns : List Str} {x : V} {qs : List (Bool × Str)} (h : Handed K H ns x qs) (sm : Same H H') : Handed K H' ns x qs := by
  obtain ⟨hq, b, A, rfl, sq⟩ := h
  exact ⟨hq, b, A, rfl, Sq.same sq sm⟩
/-! ### what a code is like -/
theorem addRow_mem {rs : List (List Str)} {r x : List Str} (h : x ∈ addRow rs r) : x ∈ rs ∨ x = r := by
  unfold addRow at h
  split at h
  · exact .inl h
  · rcases List.mem_append.mp h with q | q
    · exact .inl q
    · exact .inr (List.mem_singleton.mp q)
theorem fold_mem : ∀ (xs acc : List (List Str)) (x : List Str), x ∈ xs.foldl addRow acc → x ∈ acc ∨ x ∈ xs
  | [], _, _, h => .inl h
  | y :: xs, acc, x, h => by
    rcases fold_mem xs (addRow acc y) x h with q | q
    · rcases addRow_mem q with q | q
      · exact .inl q
      · exact .inr (by rw [q]; exact List.mem_cons_self)
    · exact .inr (List.mem_cons_of_mem _ q)
theorem rowsOf_row {ns : List Str} {qss : List (List (Bool × Str))} (h : ∀ qs ∈ qss, Lits ns qs) : ∀ r ∈ rowsOf ns qss, RowOf ns r := fun r hr => by
  rcases fold_mem _ _ r hr with q | q
  · cases q
  · obtain ⟨qs, hqs, rfl⟩ := List.mem_map.mp q
    exact ⟨qs, h qs hqs, rfl⟩
theorem fold_id : ∀ (xs acc : List (List Str)), (acc ++ xs).Nodup → xs.foldl addRow acc = acc ++ xs
  | [], acc, _ => (List.append_nil acc).symm
  | x :: xs, acc, nd => by
    have e : acc ++ x :: xs = (acc ++ [x]) ++ xs := by rw [List.append_assoc]; rfl
    have nx : x ∉ acc := fun q => (List.nodup_append.mp nd).2.2 x q x List.mem_cons_self rfl
    rw [List.foldl_cons]
    unfold addRow
    rw [if_neg nx, e]
    exact fold_id xs (acc ++ [x]) (e ▸ nd)
theorem fold_in : ∀ (xs acc : List (List Str)), (∀ x ∈ xs, x ∈ acc) → xs.foldl addRow acc = acc
  | [], _, _ => rfl
  | x :: xs, acc, h => by
    have e : addRow acc x = acc := if_pos (h x List.mem_cons_self)
    rw [List.foldl_cons, e]
    exact fold_in xs acc fun y hy => h y (List.mem_cons_of_mem _ hy)
end K6
namespace K6
open PySem PySem.Spec PyProof.Rows L2 LamX NdefX EV
/-! ### codes unlike a code -/
theorem sameMem_len {xs ys : List Str} (h : xs.length ≠ ys.length) : sameMem xs ys = false := by
  cases e : sameMem xs ys with
  | false => rfl
  | true => exact absurd (sameMem_iff.mp e).1 h
/-- two places that hold lists -/
def Two (H : Hp) (S L : Addr) : Prop := (∃ xs, H S = some (.lst xs)) ∧ ∃ xs, H L = some (.lst xs)
theorem StreamAt.two {H : Hp} {S L : Addr} {c : Nat} (h : StreamAt H S L c) : Two H S L := by
  obtain ⟨ns, x, m, h1, h2, _⟩ := h
  exact ⟨⟨_, h1⟩, ⟨_, h2⟩⟩
theorem sqT_kept {K : PySem.W.Frag} {H H' : Hp} {S L a : Addr} {xs : List V} (h : SqT K H a xs) (hS : Two H S L) (k : Kept S L H H') : SqT K H' a xs := by
  obtain ⟨⟨_, h1⟩, ⟨_, h2⟩⟩ := hS
  rcases h with h | h
  · refine .inl ?_
    rcases h with h | ⟨o, h⟩
    · exact .inl (k _ _ h (ne_of h h1 fun z => nomatch z) (ne_of h h2 fun z => nomatch z))
    · exact .inr ⟨o, k _ _ h (ne_of h h1 fun z => nomatch z) (ne_of h h2 fun z => nomatch z)⟩
  · exact .inr h
theorem RowsAt.kept {H H' : Hp} {S L : Addr} {ts : List Addr} {rs : List (List Str)} (h : RowsAt H ts rs) (hS : Two H S L) (k : Kept S L H H') : RowsAt H' ts rs := by
  obtain ⟨⟨_, g1⟩, ⟨_, g2⟩⟩ := hS
  exact Paired.mapP h fun t r z => k _ _ z (ne_of z g1 fun q => nomatch q) (ne_of z g2 fun q => nomatch q)
/-- rows as clauses that are handed over, for these names or more -/
theorem handed_rows {K : PySem.W.Frag} {H : Hp} {n0 ns : List Str} (nd : n0.Nodup) (good : ∀ z ∈ n0, Name1 z) (sub : ∀ z ∈ n0, z ∈ ns) : ∀ {ts : List Addr} {rs : List (List Str)}, RowsAt H ts rs → (∀ r ∈ rs, RowOf n0 r) →
    ∃ qss, Paired (Handed K H ns) (ts.map V.ref) qss ∧ rs = qss.map (fun qs => qs.map lit) ∧ ∀ qs ∈ qss, Lits n0 qs
  | [], [], _, _ => ⟨[], .nil, rfl, fun _ h => nomatch h⟩
  | t :: ts, r :: rs, .cons h tl, rows => by
    obtain ⟨qs, hq, rfl⟩ := (rows r List.mem_cons_self).lits nd good
    obtain ⟨qss, h1, h2, h3⟩ := handed_rows nd good sub tl fun x hx => rows x (List.mem_cons_of_mem _ hx)
    refine ⟨qs :: qss, .cons ⟨hq.names sub, false, t, rfl, Sq.tup h⟩ h1, by rw [List.map_cons, h2], fun x hx => ?_⟩
    rcases List.mem_cons.mp hx with rfl | hx
    · exact hq
    · exact h3 x hx
theorem row_id {ns r : List Str} (h : RowOf ns r) : asc ns r = r := by
  obtain ⟨qs, _, rfl⟩ := h
  exact asc_asc
theorem rows_id {ns : List Str} {rs : List (List Str)} {qss : List (List (Bool × Str))} (e : rs = qss.map (fun qs => qs.map lit)) (rows : ∀ r ∈ rs, RowOf ns r) (nd : rs.Nodup) : rowsOf ns qss = rs := by
  unfold rowsOf
  have z : (qss.map fun qs => asc ns (qs.map lit)) = rs := by
    rw [e]
    refine List.map_congr_left fun qs hq => ?_
    exact row_id (rows _ (by rw [e]; exact List.mem_map_of_mem hq))
  rw [z]
  exact fold_id rs [] (by simpa using nd)
section
variable {K : PySem.W.Frag} {C : Addr} {H0 H H' : Hp} {S L d ps ph pc N F : Addr} {sg hp : List Str} {ts : List Addr} {rs : List (List Str)} {vs : List V} {c : Nat}
end
theorem eqv_nilR : ∀ rs : List (List Str), PyData.eqv (.list (rs.map fun r => PyData.tuple (r.map PyData.str))) (.list []) = decide (rs = [])
  | [] => rfl
  | r :: rs => by simp [PyData.eqv, PyData.eqvAll]
theorem paired_right {α β : Type} {R : α → β → Prop} : ∀ {xs : List α} {ys : List β}, Paired R xs ys → ∀ y ∈ ys, ∃ x, R x y
  | [], [], .nil, y, h => nomatch h
  | x :: xs, z :: ys, .cons r t, y, h => by
    rcases List.mem_cons.mp h with e | h
    · exact ⟨x, by rw [e]; exact r⟩
    · exact paired_right t y h
theorem drop_row {K : PySem.W.Frag} {H : Hp} {ns : List Str} {xs : List V} {qss : List (List (Bool × Str))} (h : Paired (Handed K H ns) xs qss) : Paired (Handed K H ns) (xs.drop 1) (qss.drop 1) := by
  cases h with
  | nil => exact .nil
  | cons _ t => exact t
theorem paired_snoc {α β : Type} {R : α → β → Prop} {xs : List α} {ys : List β} {x : α} {y : β} (h : Paired R xs ys) (r : R x y) : Paired R (xs ++ [x]) (ys ++ [y]) := Paired.snoc h r
/-- a conditional expression whose two ways come to the same -/
theorem two_ways {c : Bool} {ta tb : TE} {σ : L2.St} {H : Hp} {Q : VK} (I : V → Hp → Prop) (hA : c = true → ∀ Q' : VK, (∀ v H', I v H' → Q' v H') → ta σ H Q') (hB : c = false → ∀ Q' : VK, (∀ v H', I v H' → Q' v H') → tb σ H Q') (rest : ∀ v H', I v H' → Q v H') : if c = true then ta σ H Q else tb σ H Q := by
  cases c with
  | true => exact iteT (hA rfl Q rest)
  | false => exact iteF (hB rfl Q rest)
end K6
namespace K6
open PySem PySem.Spec PyProof.Rows L2 LamX NdefX EV
/-! ### contracts by name -/
def Has (P : Program) (w : World) (K : PySem.W.Frag) (mg : Str → Option Value) (base : Heap) (k : Nat) (x : Str) (ps : List Str) (sp : Sp) : Prop := ∃ f fd, FnOk P w K mg base CX0 k f fd ps sp ∧ mg x = some (.ref f) ∧ PySem.W.keepIn K (.ref f) = true ∧ L2.Binds K fd ps []
def HasG (P : Program) (w : World) (K : PySem.W.Frag) (mg : Str → Option Value) (base : Heap) (k : Nat) (x : Str) (ps : List Str) (sp : Sp) : Prop := ∃ f fd, FnG P w K mg base k f fd ps sp ∧ mg x = some (.ref f) ∧ PySem.W.keepIn K (.ref f) = true ∧ L2.Binds K fd ps []
section
variable {X : Cx} {k : Nat} {x : Str} {ps : List Str} {sp : Sp} {p pos : Pos} {e : Expr} {es : List Expr} {t : TA}
theorem pe_callH (h : Has X.prog X.w X.K X.mg X.base k x ps sp) (hr : Room k X.A) (hg : Gl X x) (ha : PA X (e :: es) t) (hdb : (x == ("__debug__" : Str)) = false := by decide) (he : starEach (e :: es) X.env = (false, eval e X.env) :: starEach es X.env := by rfl) (hpl : (backTo pos (starEach es X.env)).any (·.1) = false := by rfl) :
    PE X (.Call (.Name x p) (e :: es) [] pos) (tCall sp [] E0 t) := by
  obtain ⟨f, fd, F, m, kp, b⟩ := h
  exact pe_call F hr hg m kp b .nil pass0 ha hdb he hpl
theorem pe_callHG (h : HasG X.prog X.w X.K X.mg X.base k x ps sp) (gd : X.A.guards = some []) (hr : Room k X.A) (hg : Gl X x) (ha : PA X (e :: es) t) (hdb : (x == ("__debug__" : Str)) = false := by decide) (he : starEach (e :: es) X.env = (false, eval e X.env) :: starEach es X.env := by rfl) (hpl : (backTo pos (starEach es X.env)).any (·.1) = false := by rfl) :
    PE X (.Call (.Name x p) (e :: es) [] pos) (tCall sp [] E0 t) := by
  obtain ⟨f, fd, F, m, kp, b⟩ := h
  exact pe_callG F gd hr hg m kp b ha hdb he hpl
end
theorem OddL.ty {K : PySem.W.Frag} {H : Hp} {v : V} (o : OddL K H v) : ∃ T ∈ oddTypes, TyX K H v (.type T) := by
  cases o with
  | non => exact ⟨"NoneType", by decide, .base .non⟩
  | int i => exact ⟨"int", by decide, .base (.int i)⟩
  | str z => exact ⟨"str", by decide, .base (.str z)⟩
  | lst h => exact ⟨"list", by decide, Sq.ty (b := true) h⟩
  | tup h => exact ⟨"tuple", by decide, Sq.ty (b := false) h⟩
  | dct h => exact ⟨"dict", by decide, .base (.dK h)⟩
theorem OddL.same {K : PySem.W.Frag} {H H' : Hp} {v : V} (o : OddL K H v) (sm : Same H H') : OddL K H' v := by
  cases o with
  | non => exact .non
  | int i => exact .int i
  | str z => exact .str z
  | lst h => exact .lst (Same.seq sm h)
  | tup h => exact .tup (sqT_same sm h)
  | dct h => exact .dct (sm _ _ h)
def forBody : Stmt → List Stmt
  | .For _ _ b _ _ => b
  | _ => []
end K6
namespace K6
open PySem PySem.Spec PyProof.Rows L2 LamX NdefX EV
/-! ### what stands in a turn, behind the making of the code -/
theorem StreamAt.same {H H' : Hp} {S L : Addr} {c : Nat} (h : StreamAt H S L c) (sm : Same H H') : StreamAt H' S L c := by
  obtain ⟨ns, x, m, h1, h2, r⟩ := h
  exact ⟨ns, x, m, sm _ _ h1, sm _ _ h2, r⟩
section
variable {K : PySem.W.Frag} {C : Addr} {H H' : Hp} {S L d ps ph pc N x r : Addr} {sg hp : List Str} {ts : List Addr} {rs : List (List Str)} {c : Nat}
end
section
variable {P : Program} {w : World} {K : PySem.W.Frag} {mg : Str → Option Value} {base : Heap} {C : Addr}
variable {f : Addr} {cdv : Value} {A : Around} {outer : List Env} {s0 : Shared} {HH : Hp} {E : XK}
end
end K6
namespace K6
open PySem PySem.Spec PyProof.Rows L2 LamX NdefX EV
/-! ### the same code in another order -/
theorem perm_unmap {α β : Type} {f : α → β} : ∀ {ms l : List β}, ms.Perm l → ∀ qs : List α, l = qs.map f → ∃ qs' : List α, qs'.Perm qs ∧ ms = qs'.map f := by
  intro ms l h
  induction h with
  | nil => intro qs e; exact ⟨qs, .refl _, e⟩
  | @cons x l1 l2 _ ih =>
    intro qs e
    cases qs with
    | nil => cases e
    | cons q r =>
      injection e with e1 e2
      obtain ⟨qs', p, e'⟩ := ih r e2
      exact ⟨q :: qs', p.cons q, by rw [List.map_cons, ← e1, ← e']⟩
  | @swap x y l1 =>
    intro qs e
    match qs, e with
    | a :: b :: r, e =>
      injection e with e1 e2
      injection e2 with e2 e3
      exact ⟨b :: a :: r, .swap a b r, by rw [List.map_cons, List.map_cons, ← e1, ← e2, ← e3]⟩
  | trans _ _ ih1 ih2 =>
    intro qs e
    obtain ⟨q2, p2, e2⟩ := ih2 qs e
    obtain ⟨q1, p1, e1⟩ := ih1 q2 e2
    exact ⟨q1, p1.trans p2, e1⟩
theorem Lits.perm {ns : List Str} {qs qs' : List (Bool × Str)} (h : Lits ns qs) (p : qs'.Perm qs) : Lits ns qs' := ⟨(p.map Prod.snd).nodup_iff.mpr h.nd, fun q hq => h.sub q (p.mem_iff.mp hq)⟩
theorem asc_perm {ns : List Str} {qs qs' : List (Bool × Str)} (p : qs'.Perm qs) : asc ns (qs'.map lit) = asc ns (qs.map lit) := asc_congr fun l => (p.map lit).mem_iff
theorem asc_mem {ns l : List Str} {x : Str} : x ∈ asc ns l ↔ x ∈ lits ns ∧ x ∈ l := by
  unfold asc
  rw [List.mem_filter]
  exact ⟨fun h => ⟨h.1, of_decide_eq_true h.2⟩, fun h => ⟨h.1, decide_eq_true h.2⟩⟩
/-- brought into another order of the same names, and back -/
theorem asc_back {ns ns2 r : List Str} (p : ∀ x, x ∈ ns2 ↔ x ∈ ns) (h : RowOf ns r) : asc ns (asc ns2 r) = r := by
  have e : asc ns (asc ns2 r) = asc ns r := asc_congr fun l => by
    rw [asc_mem]
    refine ⟨fun h => h.2, fun hl => ⟨?_, hl⟩⟩
    obtain ⟨qs, _, rfl⟩ := h
    obtain ⟨n, hn, q⟩ := lits_mem.mp (asc_mem.mp hl).1
    exact lits_mem.mpr ⟨n, (p n).mpr hn, q⟩
  rw [e]
  exact row_id h
theorem nodup_map_inj {α β : Type} {f : α → β} : ∀ {l : List α}, l.Nodup → (∀ a ∈ l, ∀ b ∈ l, f a = f b → a = b) → (l.map f).Nodup
  | [], _, _ => List.nodup_nil
  | a :: l, nd, inj => by
    obtain ⟨h1, h2⟩ := List.nodup_cons.mp nd
    rw [List.map_cons]
    refine List.nodup_cons.mpr ⟨fun q => ?_, nodup_map_inj h2 fun x hx y hy => inj x (List.mem_cons_of_mem _ hx) y (List.mem_cons_of_mem _ hy)⟩
    obtain ⟨b, hb, e⟩ := List.mem_map.mp q
    have z := inj b (List.mem_cons_of_mem _ hb) a List.mem_cons_self e
    exact h1 (z ▸ hb)
/-- rows in another order -/
theorem rows_perm {H : Hp} {ts : List Addr} {rs : List (List Str)} (h : RowsAt H ts rs) {ys : List V} (p : ys.Perm (ts.map V.ref)) : ∃ ts2 rs2, ys = ts2.map V.ref ∧ RowsAt H ts2 rs2 ∧ rs2.Perm rs := by
  obtain ⟨ts2, p2, e⟩ := perm_unmap p ts rfl
  refine ⟨ts2, ?_⟩
  clear p
  have go : ∀ {ts2 ts : List Addr}, ts2.Perm ts → ∀ {rs : List (List Str)}, RowsAt H ts rs → ∃ rs2, RowsAt H ts2 rs2 ∧ rs2.Perm rs := by
    intro ts2 ts p
    induction p with
    | nil => intro rs h; exact ⟨rs, h, .refl _⟩
    | cons x _ ih =>
      intro rs h
      cases h with
      | cons r t =>
        obtain ⟨rs2, h2, p2⟩ := ih t
        exact ⟨_ :: rs2, .cons r h2, p2.cons _⟩
    | swap x y l =>
      intro rs h
      cases h with
      | cons r t =>
        cases t with
        | cons r2 t2 => exact ⟨_ :: _ :: _, .cons r2 (.cons r t2), .swap ..⟩
    | trans _ _ ih1 ih2 =>
      intro rs h
      obtain ⟨r2, h2, p2⟩ := ih2 h
      obtain ⟨r1, h1, p1⟩ := ih1 h2
      exact ⟨r1, h1, p1.trans p2⟩
  obtain ⟨rs2, h2, p3⟩ := go p2 h
  exact ⟨rs2, e, h2, p3⟩
end K6
namespace K6
open PySem PySem.Spec PyProof.Rows L2 LamX NdefX EV
/-- lists that hold clauses, one for each row, in drawn orders -/
def Mixes (H : Hp) (ns : List Str) (rs : List (List Str)) (S L : Addr) (H0 : Hp) (cs : List Addr) (qss : List (List (Bool × Str))) : Prop :=
  Paired (fun a qs => H a = some (.lst ((qs.map lit).map V.str)) ∧ (a ≠ S ∧ a ≠ L) ∧ H0 a = none) cs qss ∧ (∀ qs ∈ qss, Lits ns qs) ∧ qss.map (fun qs => asc ns (qs.map lit)) = rs
theorem kept_upd {S L p : Addr} {H H' : Hp} {o : HO} (k : Kept S L H H') (hp : H p = none) : Kept S L H (upd H' p o) := fun b u e n1 n2 => (upd_ne (ne_of_none e hp)).trans (k b u e n1 n2)
end K6
namespace K6
open PySem PySem.Spec PyProof.Rows L2 LamX NdefX EV
/-! ### things that are no clauses -/
theorem kit_no {K : PySem.W.Frag} {T : String} (h1 : PySem.W.kitOne K (.type T) (.type "list") = some false) (h2 : PySem.W.kitOne K (.type T) (.type "tuple") = some false) : PySem.W.kitAny K (.type T) [.type "list", .type "tuple"] = some false :=
  kitAny_cons (b := false) h1 (fun _ => kitAny_cons (b := false) h2 (fun _ => rfl) fun z => nomatch z) (fun z => nomatch z)
theorem ask_list {K : PySem.W.Frag} {H : Hp} {ns : List Str} {A : Addr} {xs : List V} (hA : H A = some (.lst xs)) (see : ∀ H', Same H H' → Seen K H' ns false xs) : Ask K H ns false (.ref A) :=
  .seq (b := true) (.type "list") (fun H' sm => .base (.lst (sm _ _ hA))) (kit_seq true) (fun H' sm => SqL.of (sm _ _ hA)) see
theorem zz_far {ns : List Str} (good : ∀ z ∈ ns, Name1 z) : Str.ofString "Zz" ∉ lits ns := fun h => by
  obtain ⟨n, hn, e⟩ := lits_mem.mp h
  obtain ⟨n1, _, ch⟩ := good n hn
  have e0 : (Str.ofString "Zz").cps.toList = [90, 122] := rfl
  rcases e with e | e
  · have z : (90 : Nat) ∈ n.cps.toList := by rw [← e, e0]; exact List.mem_cons_self
    have := (ch 90 z).1
    omega
  · have z := neg_list n
    rw [← e, e0] at z
    injection z with z _
    omega
theorem atI_0 {α : Type} {x : α} {l : List α} : atI (x :: l) 0 = some x := by
  unfold atI ixN
  rw [if_pos (by decide), if_pos (by rw [List.length_cons]; omega)]
  rfl
section
variable {K : PySem.W.Frag} {H : Hp} {ns : List Str}
theorem ask_non : Ask K H ns false .non := .odd (.type "NoneType") (fun H' _ => .base .non) (kit_no (kit_ty (by decide +kernel)) (kit_ty (by decide +kernel)))
theorem ask_int (i : Int) : Ask K H ns false (.int i) := .odd (.type "int") (fun H' _ => .base (.int i)) (kit_no (kit_ty (by decide +kernel)) (kit_ty (by decide +kernel)))
theorem ask_str (z : Str) : Ask K H ns false (.str z) := .odd (.type "str") (fun H' _ => .base (.str z)) (kit_no (kit_ty (by decide +kernel)) (kit_ty (by decide +kernel)))
theorem ask_dict {e : Addr} {ws : _} (h : H e = some (.dK ws)) : Ask K H ns false (.ref e) := .odd (.type "dict") (fun H' sm => .base (.dK (sm _ _ h))) (kit_no (kit_ty (by decide +kernel)) (kit_ty (by decide +kernel)))
theorem ask_zz {A : Addr} (good : ∀ z ∈ ns, Name1 z) (h : H A = some (.lst [.str (Str.ofString "Zz")])) : Ask K H ns false (.ref A) :=
  ask_list h fun H' sm => .bad (qs := []) (rest := []) ⟨List.nodup_nil, fun _ h => nomatch h⟩ (.far (zz_far good))
theorem ask_five {A : Addr} {i : Int} (h : H A = some (.lst [.int i])) : Ask K H ns false (.ref A) :=
  ask_list h fun H' sm => .bad (qs := []) (rest := []) ⟨List.nodup_nil, fun _ h => nomatch h⟩ (.odd (.type "int") (fun _ _ => .base (.int i)) (kit_ty (by decide +kernel)))
theorem ask_twice {A : Addr} {n : Str} (hn : n ∈ ns) (h : H A = some (.lst [.str n, .str n])) : Ask K H ns false (.ref A) :=
  ask_list h fun H' sm => .bad (qs := [(false, n)]) (x := .str (lit (false, n))) (rest := []) ⟨List.nodup_cons.mpr ⟨(fun h => nomatch h), List.nodup_nil⟩, fun q h => by rw [List.mem_singleton.mp h]; exact hn⟩ (.twice hn List.mem_cons_self)
theorem ask_deep {A B : Addr} {xs : List V} (hB : H B = some (.lst xs)) (h : H A = some (.lst [.ref B])) : Ask K H ns false (.ref A) :=
  ask_list h fun H' sm => .bad (qs := []) (rest := []) ⟨List.nodup_nil, fun _ h => nomatch h⟩ (.odd (.type "list") (fun H2 s2 => .base (.lst (s2 _ _ (sm _ _ hB)))) (kit_ty (by decide +kernel)))
end
section
variable {P : Program} {w : World} {K : PySem.W.Frag} {mg : Str → Option Value} {base : Heap} {C : Addr}
variable {f : Addr} {cdv : Value} {A : Around} {outer : List Env} {s0 : Shared} {HH : Hp} {E : XK}
end
end K6
namespace K6
open PySem PySem.Spec PyProof.Rows L2 LamX NdefX EV
theorem given_list {K : PySem.W.Frag} {H : Hp} {ns : List Str} {x p : Addr} {Cl : Addr} {dx : Addr} {fs : _} {qs : List (Bool × Str)} (hq : Lits ns qs) (hp : H p = some (.lst ((qs.map lit).map V.str))) (hx : H x = some (.ins Cl dx fs)) : Given K x H ns (.ref p) qs := by
  have n : p ≠ x := ne_of hp hx fun z => nomatch z
  exact ⟨hq, true, p, .type "list", rfl, fun H' g => .base (.lst (g _ _ n hp)), kit_seq true, fun H' g => SqL.of (g _ _ n hp)⟩
theorem given_tup {K : PySem.W.Frag} {H : Hp} {ns : List Str} {x p : Addr} {Cl : Addr} {dx : Addr} {fs : _} {qs : List (Bool × Str)} (hq : Lits ns qs) (hp : H p = some (.tup ((qs.map lit).map V.str))) (hx : H x = some (.ins Cl dx fs)) : Given K x H ns (.ref p) qs := by
  have n : p ≠ x := ne_of hp hx fun z => nomatch z
  exact ⟨hq, false, p, .type "tuple", rfl, fun H' g => .base (.tup (g _ _ n hp)), kit_seq false, fun H' g => Sq.tup (g _ _ n hp)⟩
section
variable {P : Program} {w : World} {K : PySem.W.Frag} {mg : Str → Option Value} {base : Heap} {C : Addr}
variable {f : Addr} {cdv : Value} {A : Around} {outer : List Env} {s0 : Shared} {HH : Hp} {E : XK}
end
end K6
/-! t[::-1] of a tuple; <= of instances with an own __le__. -/
namespace EV
open PySem PySem.Spec PyProof.Rows L2 HT
section
variable {prog : Program} {w : World} {A : Around} {E : Value → Shared → Prop} {s : Shared}
theorem adjust_rev (n : Nat) : Builtin.Slice.sliceAdjust none none (-1) (n : Int) = ((n : Int) - 1, -1) := by
  unfold Builtin.Slice.sliceAdjust
  simp
theorem places_rev (n : Nat) : Builtin.Slice.slicePlaces ((n : Int) - 1) (-1) (-1) = n := by
  unfold Builtin.Slice.slicePlaces
  rw [if_neg (by decide)]
  split
  · rw [show (- -1 : Int) = 1 by decide, Int.ediv_one]
    omega
  · omega
theorem sliceApplied_rev {sl : Addr} {vs : Value} {n : Nat} {Q : Int × Int × Nat → Shared → Prop} (hs : s.heap.IsSliceOf sl .none .none vs) (ps : IsPart vs (some (-1)))
    (h : Q ((n : Int) - 1, -1, n) s) : wpAny (model prog w) A (Builtin.Slice.sliceApplied (.ref sl) (pure (n : Int))) Q E s := by
  obtain ⟨os, hos, hcs, hds⟩ := id hs
  unfold Builtin.Slice.sliceApplied Builtin.Slice.sliceFields
  refine wpAny_bind (wpAny_bind (wpAny_field hos hds (x := .none) rfl (wpAny_bind (wpAny_field hos hds (x := .none) rfl (wpAny_bind (wpAny_field hos hds (x := vs) rfl (wpAny_pure ?_)))))))
  refine wpAny_bind (slicePart_ ps ?_)
  show wpAny _ _ (if ((-1 : Int) == 0) = true then _ else _) _ _ s
  rw [if_neg (by decide)]
  refine wpAny_bind (slicePart_none (wpAny_bind (slicePart_none (wpAny_bind (wpAny_pure ?_)))))
  show wpAny _ _ (match Builtin.Slice.sliceAdjust none none (-1) (n : Int) with | (lo, hi) => pure (lo, (-1 : Int), Builtin.Slice.slicePlaces lo hi (-1))) _ _ s
  rw [adjust_rev]
  show wpAny _ _ (pure ((n : Int) - 1, (-1 : Int), Builtin.Slice.slicePlaces ((n : Int) - 1) (-1) (-1))) _ _ s
  rw [places_rev]
  exact wpAny_pure h
theorem fm_congr {α β : Type} {f g : α → Option β} : ∀ (l : List α), (∀ x ∈ l, f x = g x) → l.filterMap f = l.filterMap g
  | [], _ => rfl
  | x :: l, h => by
    rw [List.filterMap_cons, List.filterMap_cons, h x List.mem_cons_self, fm_congr l fun y hy => h y (List.mem_cons_of_mem _ hy)]
theorem pick_rev (xs : Array Value) : ((List.range xs.size).filterMap fun (m : Nat) => xs[(((xs.size : Int) - 1) + (m : Int) * -1).toNat]?).toArray = xs.toList.reverse.toArray := by
  have z := PySem.W.krv_pick xs
  unfold slicePick at z
  rw [PySem.W.krv_bounds] at z
  replace z : ((sliceRange ((xs.size : Int) - 1) (-1) (-1)).filterMap (xs[·]?)).toArray = xs.toList.reverse.toArray := z
  rw [PySem.W.krv_sliceRange, List.filterMap_map] at z
  rw [← z]
  refine congrArg List.toArray (fm_congr _ fun m hm => ?_)
  have lt := List.mem_range.mp hm
  have e : (((xs.size : Int) - 1) + (m : Int) * -1).toNat = xs.size - 1 - m := by omega
  show xs[(((xs.size : Int) - 1) + (m : Int) * -1).toNat]? = xs[xs.size - 1 - m]?
  rw [e]
theorem getItem_tuple_rev {t sl : Addr} {items : Array Value} {vs : Value} {Q : Value → Shared → Prop} (ht : IsTup s.heap t items) (hs : s.heap.IsSliceOf sl .none .none vs) (ps : IsPart vs (some (-1)))
    (h : Q (.ref s.heap.objs.size) { s with heap := s.heap.push { cls := .type "tuple", data := .seq items.toList.reverse.toArray } })
    (hsz : items.size ≤ sizeLine) : wpAny (model prog w) A (getItem (.ref t) (.ref sl)) Q E s := by
  have htake : sizeOk (.seq items.toList.reverse.toArray) := by
    show items.toList.reverse.toArray.size ≤ sizeLine
    rw [List.size_toArray, List.length_reverse, Array.length_toList]
    exact hsz
  obtain ⟨os, hos, hcs, hds⟩ := id hs
  have hTs : s.TypeIs (.ref sl) "slice" := ⟨os, hos, hcs⟩
  unfold getItem
  try with_reducible refine wpAny_holding ?_
  first | refine wpAny_bind (wpAny_pure ?_) | skip
  refine wpAny_bind (wpAny_sequenceKey ht.typeIs (by decide) ?_)
  refine wpAny_bind (wpAny_callSpecial?_slot (name := Str.ofString "__getitem__") ht.typeIs PyProof.Rows.slot_tuple_getitem
    (wpAny_call_entry PyProof.Rows.slot_tuple_getitem ht.typeIs entry_tuple_getitem ?_ (args_tuple_getitem _ _)))
  show wpAny _ _ (Builtin.Tuple.tupleItemsOf (.ref t) >>= _) _ _ s
  refine wpAny_bind (tupleItemsOf_ ht ?_)
  refine wpAny_bind (wpAny_typeOf hTs ?_)
  rw [if_pos (by decide)]
  refine wpAny_bind (sliceApplied_rev hs ps ?_)
  have hno : ¬ ((((items.size : Int) - 1) == 0 && (-1 : Int) == 1 && items.size == items.size) = true) := by
    intro q
    rw [Bool.and_eq_true, Bool.and_eq_true] at q
    exact absurd q.1.2 (by decide)
  show wpAny _ _ (if (((items.size : Int) - 1) == 0 && (-1 : Int) == 1 && items.size == items.size) = true then _ else _) _ _ s
  rw [if_neg hno, pick_rev]
  first
    | exact wpAny_bind (m := Builtin.Tuple.tupleExact _) (wpAny_newObj_type (wpAny_pure ⟨_, rfl, wpAny_pure h⟩) htake)
    | exact wpAny_bind (m := Builtin.Tuple.tupleExact _) (wpAny_newObj_type (wpAny_bind (wpAny_pure (wpAny_pure ⟨_, rfl, wpAny_pure h⟩))) htake)
    | exact wpAny_bind (wpAny_bind (m := Builtin.Tuple.tupleExact _) (wpAny_newObj_type (wpAny_pure (wpAny_pure ⟨_, rfl, wpAny_pure h⟩)) htake))
    | exact wpAny_bind (wpAny_bind (m := Builtin.Tuple.tupleExact _) (wpAny_newObj_type (wpAny_pure ⟨_, rfl, wpAny_pure h⟩) htake))
end
section
variable {X : Cx}
def tRevT (K : PySem.W.Frag) (te : TE) : TE := fun σ H Q => te σ H fun x H1 => ∃ a xs, x = .ref a ∧ SqT K H1 a xs ∧ ∀ p, H1 p = none → Q (.ref p) (upd H1 p (.tup xs.reverse))
theorem pe_revT {e : Expr} {te : TE} {k : Nat} {p1 p2 p3 pos : Pos} (he : PE X e te) : PE X (.Subscript e (.Slice none none (some (.UnaryOp .USub (.Constant (.int 1) k p1) p2)) p3) pos) (tRevT X.K te) := by
  refine ⟨fun pins s σ H Q I h => ?_⟩
  refine Subscript_ (thn (he.run pins s σ H _ I h) fun v s1 ⟨x, H1, I1, r1, q1⟩ => ?_)
  obtain ⟨a, xs, ex, hx, q⟩ := q1
  subst ex
  cases r1
  have hst : PO X (some (.UnaryOp .USub (.Constant (.int 1) k p1) p2)) (tPart (tUn (rU fun i => .int (-i)) (tC (.int 1)))) := po_some (pe_un un_neg pe_int)
  refine wpAny_Slice (thn (po_none.run pins s1 σ H1 (fun o H2 => o = none ∧ H2 = H1) I1 ⟨rfl, rfl⟩) fun vl s2 ⟨l, H2, I2, pl, el, e2⟩ => ?_)
  subst el e2
  refine thn (po_none.run pins s2 σ H2 (fun o H3 => o = none ∧ H3 = H2) I2 ⟨rfl, rfl⟩) fun vu s3 ⟨u, H3, I3, pu, eu, e3⟩ => ?_
  subst eu e3
  refine thn (hst.run pins s3 σ H3 (fun o H4 => o = some (-1) ∧ H4 = H3) I3 ⟨1, rfl, -1, rfl, rfl, rfl⟩) fun vs s4 ⟨o, H4, I4, ps, eo, e4⟩ => ?_
  subst eo e4
  obtain rfl : vl = Value.none := by cases pl; rfl
  obtain rfl : vu = Value.none := by cases pu; rfl
  have I5 : Inv X pins σ H4 { s4 with heap := s4.heap.push { cls := .type "slice", data := .fields #[.none, .none, vs] } } := I4.kept (t' := s4.toks) fun b ob q => Heap.get?_push_of_some _ q
  obtain ⟨its, r, ht, hz⟩ := I5.tuple hx
  have hlen := r.length
  show wpAny (model X.prog X.w) X.A (subscriptTail e (.Slice none none (some (.UnaryOp .USub (.Constant (.int 1) k p1) p2)) p3) (.ref a) (.ref s4.heap.objs.size)) (EP X pins σ Q) X.xe { s4 with heap := s4.heap.push { cls := .type "slice", data := .fields #[.none, .none, vs] } }
  refine tail_any (ops := [.ref a, .ref s4.heap.objs.size]) ht.typeIs (PyProof.Rows.slot_tuple_getitem.lookup) ?_ (by with_unfolding_all rfl)
  refine getItem_tuple_rev ht (Heap.IsSliceOf.new _ .none .none vs) ps ?_ (by rw [List.size_toArray]; omega)
  refine ⟨.ref _, _, I5.laid (t' := s4.toks) (o := .tup xs.reverse) (fun b ob q => Heap.get?_push_of_some _ q) (Nat.le_refl _) ?_, rfl, q _ (I5.hok.fresh (Nat.le_refl _))⟩
  exact ⟨by rw [List.length_reverse]; exact hz, _, r.reverse, ⟨_, Heap.get?_push_size _ rfl, rfl, _, rfl⟩⟩
end
section
variable {X : Cx} {CX : CXT} {n : Nat} {C f : Addr} {fd : FuncData} {ps : List Str} {sp : Sp} {E : XK}
/-- <=, the left one an instance whose class has a method of its own for it -/
theorem op_leOwn (F : FnOk X.prog X.w X.K X.mg X.base CX n f fd ps sp) (hs : PySem.W.findIn X.K (.ref C) "__le__" = some (some (.ref f))) (hf : PySem.W.isFn X.K (.ref f) = true) (hb : L2.Binds X.K fd ps []) (hx : Passes CX X E) (hr : Room n X.A) :
    OpR X (compareOp .LtE) fun x y H Q => ∃ t, TyX X.K H y t ∧ PySem.W.notFirst X.K C t = true ∧ rOwn C sp E x y H fun b H' => Q (.bl b) H' := by
  intro pins s σ H x y v u Q I rx ry h
  obtain ⟨t, ty, nf, a, dx, fs, rfl, ha, hsp⟩ := h
  obtain rfl : v = Value.ref a := rx
  obtain ⟨mA, J, _⟩ := ins_get I.hok ha
  obtain ⟨od, J, _⟩ := J.look
  obtain ⟨m, hF⟩ := I.fr
  obtain ⟨P, Z, hP, _⟩ := kit_of I ry ty
  show wpAny (model X.prog X.w) X.A (richCompare .LtE (.ref a) u) (EP X pins σ Q) X.xe s
  refine PySem.W.cmp_K (op := .LtE) (tb := t) hr.units0 hF I.ok.mod.kin J (Z.ty _ _ I.kIn hP) nf hs hf (wpAny_mono (own_call (Q := fun v H' => ∃ b, v = .bl b ∧ Q (.bl b) H') ⟨hr, rfl⟩ I F hb hx (.cons (show RelV (.ref a) (.ref a) from rfl) (.cons ry .nil)) hsp) (fun w s' z => ?_) fun _ _ e => e)
  obtain ⟨z, H', I', rz, b, rfl, q⟩ := z
  obtain rfl : w = Value.bool b := rz
  exact ⟨.bl b, H', I', rfl, q⟩
end
end EV
namespace K6
open PySem PySem.Spec PyProof.Rows L2 LamX NdefX EV
/-! ### full settings -/
def grow1 (rows : List (List Str)) (n : Str) : List (List Str) := rows.flatMap fun r => [r ++ [n], r ++ [neg n]]
def fulls (ns : List Str) : List (List Str) := ns.foldl grow1 [[]]
theorem fulls_snoc (ns : List Str) (n : Str) : fulls (ns ++ [n]) = grow1 (fulls ns) n := by
  unfold fulls
  rw [List.foldl_append]
  rfl
theorem grow1_len (rows : List (List Str)) (n : Str) : (grow1 rows n).length = 2 * rows.length := by
  unfold grow1
  induction rows with
  | nil => rfl
  | cons r t ih => rw [List.flatMap_cons, List.length_append, ih]; simp only [List.length_cons, List.length_nil]; omega
theorem grow1_app (a b : List (List Str)) (n : Str) : grow1 (a ++ b) n = grow1 a n ++ grow1 b n := by
  unfold grow1
  exact List.flatMap_append
theorem foldl_len (ns : List Str) : ∀ rows : List (List Str), (ns.foldl grow1 rows).length = 2 ^ ns.length * rows.length := by
  induction ns with
  | nil => intro rows; simp
  | cons n r ih =>
    intro rows
    rw [List.foldl_cons, ih, grow1_len, List.length_cons, Nat.pow_succ, Nat.mul_assoc]
theorem fulls_len (ns : List Str) : (fulls ns).length = 2 ^ ns.length := by
  unfold fulls
  rw [foldl_len]
  simp
theorem fulls_few {ns : List Str} (h : ns.length ≤ 6) : (fulls ns).length ≤ 64 := by
  rw [fulls_len]
  exact Nat.pow_le_pow_right (by decide) h
theorem foldl_rows (ns : List Str) : ∀ (rows : List (List Str)) (r : List Str), r ∈ ns.foldl grow1 rows ↔ ∃ p ∈ rows, ∃ qs : List (Bool × Str), qs.map Prod.snd = ns ∧ r = p ++ qs.map lit := by
  induction ns with
  | nil =>
    intro rows r
    constructor
    · intro h
      exact ⟨r, h, [], rfl, by simp⟩
    · rintro ⟨p, hp, qs, e, rfl⟩
      obtain rfl : qs = [] := by simpa using e
      simpa using hp
  | cons n ns ih =>
    intro rows r
    rw [List.foldl_cons, ih]
    constructor
    · rintro ⟨p, hp, qs, e, rfl⟩
      obtain ⟨p0, hp0, h⟩ := List.mem_flatMap.mp hp
      rcases List.mem_cons.mp h with h | h
      · exact ⟨p0, hp0, (false, n) :: qs, by rw [List.map_cons, e], by rw [h, List.append_assoc]; rfl⟩
      · rw [List.mem_singleton.mp h]
        exact ⟨p0, hp0, (true, n) :: qs, by rw [List.map_cons, e], by rw [List.append_assoc]; rfl⟩
    · rintro ⟨p, hp, qs, e, rfl⟩
      cases qs with
      | nil => cases e
      | cons q qs =>
        injection e with e1 e2
        obtain ⟨b, m⟩ := q
        subst e1
        refine ⟨p ++ [lit (b, m)], List.mem_flatMap.mpr ⟨p, hp, ?_⟩, qs, e2, by rw [List.append_assoc]; rfl⟩
        cases b
        · exact List.mem_cons_self
        · exact List.mem_cons_of_mem _ List.mem_cons_self
/-- a full setting: one literal for each name, in the order of the names -/
theorem fulls_mem {ns r : List Str} : r ∈ fulls ns ↔ ∃ qs : List (Bool × Str), qs.map Prod.snd = ns ∧ r = qs.map lit := by
  unfold fulls
  rw [foldl_rows]
  constructor
  · rintro ⟨p, hp, qs, e, rfl⟩
    obtain rfl := List.mem_singleton.mp hp
    exact ⟨qs, e, rfl⟩
  · rintro ⟨qs, e, rfl⟩
    exact ⟨[], List.mem_singleton.mpr rfl, qs, e, rfl⟩
def spFS (K : PySem.W.Frag) : Sp := fun vs H Q _ => ∃ (T : Addr) (b : Bool) (ns : List Str), vs = [.ref T] ∧ (∀ H', Same H H' → Sq K b H' T (ns.map V.str)) ∧ ns.length ≤ 6 ∧ (∀ z ∈ ns, z.length ≤ 8) ∧
  ∀ (p : Addr) (ts : List Addr) (H' : Hp), H p = none → H' p = some (.lst (ts.map V.ref)) → RowsAt H' ts (fulls ns) → Same H H' → Q (.ref p) H'
theorem rows_snoc {H : Hp} {ts : List Addr} {rs : List (List Str)} {t : Addr} {r : List Str} (h : RowsAt H ts rs) (ht : TupAt H t r) : RowsAt H (ts ++ [t]) (rs ++ [r]) := Paired.snoc h ht
section
variable {P : Program} {w : World} {K : PySem.W.Frag} {mg : Str → Option Value} {base : Heap} {f : Addr} {fd : FuncData}
abbrev nFS : List Str := ["names", "rows", "name", "row", "literal"]
theorem scFS : FnScope nFS ["names"] (defScope sFullSettings) := ⟨rfl, rfl, rfl, by decide +kernel, rfl, by decide +kernel, by decide +kernel⟩
theorem ok_fs (F : Fun K "full_settings" "full_settings" sFullSettings f fd) : FnOk P w K mg base CX0 1 f fd ["names"] (spFS K) := by
  refine F.ok scFS (fun vs H Q E h => ?_) (fun cdv A outer s H vs Q E hr h => ?_)
  · obtain ⟨T, b, ns, rfl, _⟩ := h
    rfl
  · obtain ⟨T, b, ns, rfl, hT, hn, h8, k⟩ := h
    refine ⟨_, pss_cons (ps_set (i := 1) scFS.nd rfl (.inl rfl) (pe_lst (pa_cons (pe_tup pa_nil) pa_nil)))
      (pss_cons (ps_for PassesOwn.never rfl (pi_seq (pv 0)) (pg_name (i := 2) scFS.nd rfl (.inr rfl))
        (pss_one (ps_setLc2 (i := 1) (own := [("row", 3), ("literal", 4)]) (vs1 := [4]) (g := gName 3) (tt := tYes) (g1 := gName 4) (tt1 := tYes) (by rfl) scFS.nd rfl rfl (sw_true rfl rfl rfl (by decide +kernel)) (pi_list (pv 1)) (blkOk_by (N := nFS) (sc := defScope sFullSettings) (by decide +kernel)) (by decide)
          (fun _ _ _ _ _ => pg_name (i := 3) scFS.nd rfl (.inl rfl)) (fun _ _ _ _ _ => pts_nil) (fun _ _ _ _ _ => show PI _ _ _ (iTup K _) from pi_tup (pe_tup (pa_cons (pv 2) (pa_cons (pe_op op_add_str pe_str (pv 2)) pa_nil)))) (fun _ _ _ _ _ => pg_name (i := 4) scFS.nd rfl (.inl rfl)) (fun _ _ _ _ _ => pts_nil)
          (fun _ _ _ _ _ => pe_tup (show PA _ _ (StX.tStar K _ _) from StX.pa_star (pv 3) (pa_cons (pv 4) pa_nil))))))
      (pss_one (ps_ret (pv 1)))), ?_⟩
    refine ⟨Nat.zero_le _, fun t0 ht0 => ⟨(by show 1 ≤ sizeLine; decide), fun p0 hp0 => ?_⟩⟩
    have s0 : Same H _ := (same_new (o := .tup []) ht0).trans (same_new (o := .lst [.ref t0]) hp0)
    have w0 := (same_new (o := .lst [.ref t0]) hp0) _ _ (upd_same (H := H) (a := t0) (o := .tup []))
    have hp0H : H p0 = none := by
      have z := hp0
      rwa [upd_ne (ne_of_none (upd_same (H := H) (a := t0) (o := .tup [])) hp0).symm] at z
    refine ⟨_, rfl, b, T, _, rfl, hT _ s0, for_it walk_sq (fun i σ H2 => ∃ p ts o2, σ = [some (.ref T), some (.ref p), o2, none, none] ∧ H p = none ∧ H2 p = some (.lst (ts.map V.ref)) ∧ RowsAt H2 ts (fulls (ns.take i)) ∧ Same H H2) ⟨p0, [t0], none, rfl, hp0H, upd_same, .cons w0 .nil, s0⟩ (fun i σ H2 _ ⟨_, _, _, _, _, _, _, sm⟩ => hT _ sm) ?_ ?_⟩
    · rintro i x σ H2 H3 hi ⟨p, ts, o2, rfl, hp, hp2, rows, sm⟩ ⟨rfl, hx⟩
      obtain ⟨n, hn', rfl⟩ := get_map hx
      have n8 := h8 n (List.mem_of_getElem? hn')
      have ilt : i < ns.length := (List.getElem?_eq_some_iff.mp hn').1
      have et : ns.take (i + 1) = ns.take i ++ [n] := by rw [List.take_succ, hn']; rfl
      have few : (fulls (ns.take i)).length ≤ 64 := fulls_few (by rw [List.length_take]; omega)
      have lts : ts.length = (fulls (ns.take i)).length := Paired.length rows
      refine ⟨_, rfl, p, rfl, ⟨_, SqL.of hp2⟩, fun D hD => lc2_it walk_list (fun j H4 => Same H3 H4 ∧ ∃ us, H4 D = some (.lst (us.map V.ref)) ∧ RowsAt H4 us (grow1 ((fulls (ns.take i)).take j) n)) ⟨same_new hD, [], upd_same, .nil⟩ (fun j H4 _ hh => SqL.of (hh.1 _ _ hp2)) ?_ ?_⟩
      · rintro j y H4 H5 hj ⟨sm4, us, hD4, ru⟩ ⟨rfl, hy⟩
        obtain ⟨t, ht, rfl⟩ := get_map hy
        obtain ⟨r, hr', hrt3⟩ := RowsAt.get rows j t ht
        have er : (fulls (ns.take i)).take (j + 1) = (fulls (ns.take i)).take j ++ [r] := by rw [List.take_succ, hr']; rfl
        have lus : us.length ≤ 128 := by
          have z := Paired.length ru
          rw [grow1_len, List.length_take] at z
          omega
        have lr : r.length ≤ 6 := by
          obtain ⟨qs, e, rfl⟩ := fulls_mem.mp (List.mem_of_getElem? hr')
          have z := congrArg List.length e
          rw [List.length_map, List.length_take] at z
          rw [List.length_map]
          omega
        have np : p ≠ D := ne_of_none hp2 hD
        refine ⟨rfl, _, rfl, _, rfl, _, _, rfl, rfl, by show 1 + n.length ≤ sizeLine; rw [sizeLine_eq]; omega, by show 2 ≤ sizeLine; decide, fun t2 ht2 => ⟨t2, rfl, ⟨_, SqT.of upd_same⟩, in_it (walk_tup (xs := [V.str n, V.str (neg n)])) (fun m H6 => Same H3 H6 ∧ H6 t2 = some (.tup [.str n, .str (neg n)]) ∧ ∃ vs, H6 D = some (.lst ((us ++ vs).map V.ref)) ∧ vs.length ≤ m ∧ RowsAt H6 (us ++ vs) (grow1 ((fulls (ns.take i)).take j) n ++ ([n, neg n].take m).map fun l => r ++ [l])) ?_ (fun m H6 _ hh => SqT.of hh.2.1) ?_ ?_⟩⟩
        · refine ⟨sm4.trans (same_new ht2), upd_same, [], ?_, Nat.le_refl _, ?_⟩
          · rw [List.append_nil]
            exact (upd_ne (ne_of_none hD4 ht2)).trans hD4
          · rw [List.append_nil, List.take_zero, List.map_nil, List.append_nil]
            exact ru.same (same_new ht2)
        · rintro m z H6 H7 hm ⟨sm6, ht6, vs, hD6, lvs, rv⟩ ⟨rfl, hz⟩
          obtain ⟨l, hl, rfl⟩ := get_map (g := V.str) (xs := [n, neg n]) hz
          have e2 : [n, neg n].take (m + 1) = [n, neg n].take m ++ [l] := by rw [List.take_succ, hl]; rfl
          have m2 : m < 2 := hm
          have hrt7 : TupAt H7 t r := sm6 _ _ hrt3
          refine ⟨rfl, _, rfl, t, r.map V.str, rfl, .inl (SqT.of hrt7), _, rfl, by rw [List.length_append, List.length_map, sizeLine_eq]; show _ + 1 ≤ _; omega, fun q hq => ?_⟩
          have nqD : q ≠ D := (ne_of_none hD6 hq).symm
          have sq : Same H7 _ := same_new (o := .tup (r.map V.str ++ [.str l])) hq
          refine ⟨_, sq _ _ hD6, by rw [List.length_map, List.length_append, sizeLine_eq]; omega, fun b' o h => (upd_ne (ne_of_none h hD)).trans (sq _ _ (sm6 b' o h)), (upd_ne (ne_of ht6 hD6 fun z => nomatch z)).trans (sq _ _ ht6), vs ++ [q], ?_, by rw [List.length_append]; show _ + 1 ≤ _; omega, ?_⟩
          · rw [upd_same, ← List.append_assoc, List.map_append (l₁ := us ++ vs)]
            rfl
          · have e3 : grow1 ((fulls (ns.take i)).take j) n ++ ([n, neg n].take (m + 1)).map (fun l => r ++ [l]) = (grow1 ((fulls (ns.take i)).take j) n ++ ([n, neg n].take m).map (fun l => r ++ [l])) ++ [r ++ [l]] := by
              rw [e2, List.map_append, ← List.append_assoc]
              rfl
            rw [e3, ← List.append_assoc]
            refine RowsAt.put (sq _ _ hD6) (rows_snoc (rv.same sq) ?_)
            show upd _ _ _ _ = _
            rw [upd_same, List.map_append]
            rfl
        · rintro H6 ⟨sm6, _, vs, hD6, _, rv⟩
          refine ⟨sm6, us ++ vs, hD6, ?_⟩
          rw [er, grow1_app]
          exact rv
      · rintro H4 ⟨sm4, us, hD4, ru⟩
        rw [List.length_map, lts, List.take_length] at ru
        have hDH : H D = none := sm.free hD
        refine ⟨D, us, _, rfl, hDH, hD4, ?_, sm.trans sm4⟩
        rw [et, fulls_snoc]
        exact ru
    · rintro σ H2 ⟨p, ts, o2, rfl, hp, hp2, rows, sm⟩
      rw [List.length_map, List.take_length] at rows
      exact ⟨_, rfl, k p ts H2 hp hp2 rows sm⟩
end
end K6
namespace K6
open PySem PySem.Spec PyProof.Rows L2 LamX NdefX EV
theorem paired_app {α β : Type} {R : α → β → Prop} : ∀ {xs xs' : List α} {ys ys' : List β}, Paired R xs ys → Paired R xs' ys' → Paired R (xs ++ xs') (ys ++ ys')
  | _, _, _, _, .nil, h => h
  | _, _, _, _, .cons r t, h => .cons r (paired_app t h)
theorem cat_one {K : PySem.W.Frag} {H : Hp} {t q : Addr} {r : List Str} {l : Str} {Q : VK} (ht : TupAt H t r) (hq : H q = some (.tup [.str l])) (few : r.length ≤ 100) (k : ∀ p H', TupAt H' p (r ++ [l]) → Same H H' → Q (.ref p) H') : rCatA K (.ref t) (.ref q) H Q := by
  refine ⟨t, q, r.map V.str, [.str l], rfl, rfl, SqT.of ht, SqT.of hq, by rw [List.length_map, sizeLine_eq]; show _ + 1 ≤ _; omega, fun e => ?_, (fun _ e => nomatch e), fun _ _ p hp => ?_⟩
  · have e2 : r = [] := by simpa using e
    subst e2
    exact k q H hq (Same.refl H)
  · refine k p _ ?_ (same_new hp)
    show upd _ _ _ _ = _
    rw [upd_same, List.map_append]
    rfl
def spFulls (K : PySem.W.Frag) : Sp := fun vs H Q _ => ∃ (T : Addr) (ns : List Str), vs = [.ref T] ∧ (∀ H', Same H H' → SqL K H' T (ns.map V.str)) ∧ ns.length ≤ 6 ∧ (∀ z ∈ ns, z.length ≤ 8) ∧
  ∀ (p : Addr) (ts : List Addr) (H' : Hp), H p = none → H' p = some (.lst (ts.map V.ref)) → RowsAt H' ts (fulls ns) → Same H H' → Q (.ref p) H'
def spChkCount (K : PySem.W.Frag) : Sp := fun vs H Q _ => ∃ (T : Addr) (b : Bool) (xs : List V), vs = [.ref T] ∧ Sq K b H T xs ∧ xs.length ≤ 6 ∧ Q .non H
def spIsFull (K : PySem.W.Frag) : Sp := fun vs H Q _ => ∃ (PL : Addr) (x : V) (ns : List Str), vs = [.ref PL, x] ∧ H PL = some (.dK (plc ns)) ∧ ns.length ≤ 60 ∧ ns.Nodup ∧ (∀ z ∈ ns, Name1 z) ∧
  ((∃ s qs, Given K s H ns x qs ∧ ∀ H', Same H H' → Q (.bl (decide (qs.length = ns.length))) H') ∨ (Ask K H ns false x ∧ ∀ H', Same H H' → Q (.bl false) H'))
theorem Sq.len {K : PySem.W.Frag} {H : Hp} {b : Bool} {a : Addr} {xs : List V} (h : Sq K b H a xs) : LenV K (.ref a) H xs.length := by
  cases b
  · exact .inr ⟨xs, h, rfl⟩
  · exact .inl ⟨xs, h, rfl⟩
section
variable {P : Program} {w : World} {K : PySem.W.Frag} {mg : Str → Option Value} {base : Heap} {f fC : Addr} {fd fdC : FuncData}
abbrev nFulls : List Str := ["_law_names_here", "_law_found", "_law_name", "_law_longer", "_law_one"]
theorem scFulls : FnScope nFulls ["_law_names_here"] (defScope sFulls) := ⟨rfl, rfl, rfl, by decide +kernel, rfl, by decide +kernel, by decide +kernel⟩
theorem ok_fulls (F : Fun K "_law_fulls" "_law_fulls" sFulls f fd) : FnOk P w K mg base CX0 1 f fd ["_law_names_here"] (spFulls K) := by
  refine F.ok scFulls (fun vs H Q E h => ?_) (fun cdv A outer s H vs Q E hr h => ?_)
  · obtain ⟨T, ns, rfl, _⟩ := h
    rfl
  · obtain ⟨T, ns, rfl, hT, hn, h8, k⟩ := h
    refine ⟨_, pss_cons (ps_set (i := 1) scFulls.nd rfl (.inl rfl) (pe_lst (pa_cons (pe_tup pa_nil) pa_nil)))
      (pss_cons (ps_for PassesOwn.never rfl (pi_list (pv 0)) (pg_name (i := 2) scFulls.nd rfl (.inl rfl))
        (pss_cons (ps_set (i := 3) scFulls.nd rfl (.inl rfl) (pe_lst pa_nil))
        (pss_cons (ps_for PassesOwn.never rfl (pi_list (pv 1)) (pg_name (i := 4) scFulls.nd rfl (.inl rfl))
          (pss_one (ps_expr (pe_bm PySem.F.plainAttrs_list PySem.F.slot_list_extend PySem.F.type_list_extend mt_extend (pv 3) (pa_cons (pe_lst (pa_cons (pe_op op_catA (pv 4) (pe_tup (pa_cons (pv 2) pa_nil))) (pa_cons (pe_op op_catA (pv 4) (pe_tup (pa_cons (pe_op op_add_str pe_str (pv 2)) pa_nil))) pa_nil))) pa_nil)))))
        (pss_one (ps_set (i := 1) scFulls.nd rfl (.inl rfl) (pv 3))))))
      (pss_one (ps_ret (pv 1)))), ?_⟩
    refine ⟨Nat.zero_le _, fun t0 ht0 => ⟨(by show 1 ≤ sizeLine; decide), fun p0 hp0 => ?_⟩⟩
    have s0 : Same H _ := (same_new (o := .tup []) ht0).trans (same_new (o := .lst [.ref t0]) hp0)
    have w0 := (same_new (o := .lst [.ref t0]) hp0) _ _ (upd_same (H := H) (a := t0) (o := .tup []))
    have hp0H : H p0 = none := by
      have z := hp0
      rwa [upd_ne (ne_of_none (upd_same (H := H) (a := t0) (o := .tup [])) hp0).symm] at z
    refine ⟨_, rfl, T, rfl, ⟨_, hT _ s0⟩, for_list (K := K) (a := T) (xs := ns.map V.str) (fun i σ H2 => ∃ p ts o2 o3 o4, σ = [some (.ref T), some (.ref p), o2, o3, o4] ∧ H p = none ∧ H2 p = some (.lst (ts.map V.ref)) ∧ RowsAt H2 ts (fulls (ns.take i)) ∧ Same H H2) ⟨p0, [t0], none, none, none, rfl, hp0H, upd_same, .cons w0 .nil, s0⟩ (fun i σ H2 _ ⟨_, _, _, _, _, _, _, _, _, sm⟩ => hT _ sm) ?_ ?_⟩
    · rintro i x σ H3 hx ⟨p, ts, o2, o3, o4, rfl, hp, hp2, rows, sm⟩
      obtain ⟨n, hn', rfl⟩ := get_map hx
      have n8 := h8 n (List.mem_of_getElem? hn')
      have ilt : i < ns.length := (List.getElem?_eq_some_iff.mp hn').1
      have et : ns.take (i + 1) = ns.take i ++ [n] := by rw [List.take_succ, hn']; rfl
      have few : (fulls (ns.take i)).length ≤ 64 := fulls_few (by rw [List.length_take]; omega)
      have lts : ts.length = (fulls (ns.take i)).length := Paired.length rows
      refine ⟨Nat.zero_le _, fun D hD => ?_⟩
      have hDH : H D = none := sm.free hD
      have np : p ≠ D := ne_of_none hp2 hD
      refine ⟨_, rfl, p, rfl, ⟨_, SqL.of ((same_new hD) _ _ hp2)⟩, for_list (K := K) (a := p) (xs := ts.map V.ref) (fun j σ H4 => ∃ o4 us, σ = [some (.ref T), some (.ref p), some (.str n), some (.ref D), o4] ∧ Same H3 H4 ∧ H4 D = some (.lst (us.map V.ref)) ∧ RowsAt H4 us (grow1 ((fulls (ns.take i)).take j) n)) ⟨_, [], rfl, same_new hD, upd_same, .nil⟩ (fun j σ H4 _ ⟨_, _, _, hh, _⟩ => SqL.of (hh _ _ hp2)) ?_ ?_⟩
      · rintro j y σ H4 hy ⟨o4, us, rfl, sm4, hD4, ru⟩
        obtain ⟨t, ht, rfl⟩ := get_map hy
        obtain ⟨r, hr', hrt3⟩ := RowsAt.get rows j t ht
        have er : (fulls (ns.take i)).take (j + 1) = (fulls (ns.take i)).take j ++ [r] := by rw [List.take_succ, hr']; rfl
        have lus : us.length ≤ 128 := by
          have z := Paired.length ru
          rw [grow1_len, List.length_take] at z
          omega
        have lr : r.length ≤ 6 := by
          obtain ⟨qs, e, rfl⟩ := fulls_mem.mp (List.mem_of_getElem? hr')
          have z := congrArg List.length e
          rw [List.length_map, List.length_take] at z
          rw [List.length_map]
          omega
        refine ⟨_, rfl, .inl ⟨rfl, _, SqL.of hD4⟩, _, rfl, _, rfl, by show 1 ≤ sizeLine; decide, fun q1 hq1 => ?_⟩
        have a1 : Same H4 _ := same_new (o := .tup [.str n]) hq1
        refine cat_one (a1 _ _ (sm4 _ _ hrt3)) upd_same (by omega) fun v1 H5 hv1 s5 => ?_
        have sm5 := a1.trans s5
        refine ⟨_, rfl, _, rfl, _, _, rfl, rfl, by show 1 + n.length ≤ sizeLine; rw [sizeLine_eq]; omega, by show 1 ≤ sizeLine; decide, fun q2 hq2 => ?_⟩
        have a2 : Same H5 _ := same_new (o := .tup [.str (neg n)]) hq2
        refine cat_one (a2 _ _ (sm5 _ _ (sm4 _ _ hrt3))) upd_same (by omega) fun v2 H6 hv2 s6 => ⟨by show 2 ≤ sizeLine; decide, fun m hm => ?_⟩
        have a3 : Same H6 _ := same_new (o := .lst [.ref v1, .ref v2]) hm
        have s46 : Same H4 (upd H6 m (.lst [.ref v1, .ref v2])) := (sm5.trans (a2.trans s6)).trans a3
        refine ⟨D, m, _, _, rfl, rfl, s46 _ _ hD4, upd_same, by rw [List.length_map, sizeLine_eq]; show _ + 2 ≤ _; omega, _, us ++ [v1, v2], rfl, fun b o h => (upd_ne (ne_of_none h hD)).trans (s46 _ _ (sm4 _ _ h)), ?_, ?_⟩
        · rw [upd_same, List.map_append]
          rfl
        · refine RowsAt.put (s46 _ _ hD4) ?_
          rw [er, grow1_app]
          refine paired_app (ru.same s46) ?_
          exact .cons (a3 _ _ (s6 _ _ (a2 _ _ hv1))) (.cons (a3 _ _ hv2) .nil)
      · rintro σ H4 ⟨o4, us, rfl, sm4, hD4, ru⟩
        rw [List.length_map, lts, List.take_length] at ru
        refine ⟨_, rfl, D, us, _, _, _, rfl, hDH, hD4, ?_, sm.trans sm4⟩
        rw [et, fulls_snoc]
        exact ru
    · rintro σ H2 ⟨p, ts, o2, o3, o4, rfl, hp, hp2, rows, sm⟩
      rw [List.length_map, List.take_length] at rows
      exact ⟨_, rfl, k p ts H2 hp hp2 rows sm⟩
theorem scChkCount : FnScope ["names"] ["names"] (defScope sChkCount) := ⟨rfl, rfl, rfl, by decide +kernel, rfl, by decide +kernel, by decide +kernel⟩
theorem ok_chkCount (F : Fun K "check_count" "check_count" sChkCount f fd) (ml : mg "len" = none) (mS : ∃ t, mg "MOST_SIGNS" = some (.int 6 t)) : FnOk P w K mg base CX0 1 f fd ["names"] (spChkCount K) := by
  obtain ⟨tS, mS⟩ := mS
  refine F.ok scChkCount (fun vs H Q E h => ?_) (fun cdv A outer s H vs Q E hr h => ?_)
  · obtain ⟨T, b, xs, rfl, _⟩ := h
    rfl
  · obtain ⟨T, b, xs, rfl, hT, few, k⟩ := h
    refine ⟨_, pss_one (ps_if (pt_cmpR op_gt (pe_callB call_len (by rfl) ml PySem.boot_len (pa_cons (pv 0) pa_nil)) (pe_glob (v := .int 6) (by rfl) mS ⟨_, rfl⟩) (nomark _)) (pss_one ps_none) pss_nil), ?_⟩
    refine ⟨_, rfl, _, xs.length, rfl, Sq.len hT, _, _, rfl, rfl, _, rfl, ?_⟩
    rw [decide_eq_false (by omega)]
    exact iteF k
theorem scIsFull : FnScope ["places", "thing"] ["places", "thing"] (defScope sIsFull) := ⟨rfl, rfl, rfl, by decide +kernel, rfl, by decide +kernel, by decide +kernel⟩
theorem ok_isFull (F : Fun K "is_full" "is_full" sIsFull f fd) (ml : mg "len" = none) (GC : FnOk P w K mg base CX0 3 fC fdC ["places", "thing"] (spIsClause K)) (mC : mg "is_clause" = some (.ref fC)) (kC : PySem.W.keepIn K (.ref fC) = true) (bC : L2.Binds K fdC ["places", "thing"] []) :
    FnOk P w K mg base CX0 4 f fd ["places", "thing"] (spIsFull K) := by
  refine F.ok scIsFull (fun vs H Q E h => ?_) (fun cdv A' outer s H vs Q E hr h => ?_)
  · obtain ⟨PL, x, ns, rfl, _⟩ := h
    rfl
  · obtain ⟨PL, x, ns, rfl, hPL, hn, nd, good, way⟩ := h
    refine ⟨_, pss_one (ps_ret (pe_and (pe_call GC hr (by rfl) mC kC bC .nil pass0 (pa_cons (pv 0) (pa_cons (pv 1) pa_nil))) (pe_one (pe_cmpR op_eq (pe_op op_mul pe_int (pe_callB call_len (by rfl) ml PySem.boot_len (pa_cons (pv 1) pa_nil))) (pe_callB call_lenD (by rfl) ml PySem.boot_len (pa_cons (pv 0) pa_nil)) (nomark _))))), ?_⟩
    rcases way with ⟨s', qs, giv, k⟩ | ⟨ask, k⟩
    · refine ⟨_, rfl, _, rfl, PL, x, ns, true, rfl, hPL, hn, nd, good, giv.ask, fun H1 sm1 => ⟨_, rfl, iteT ?_⟩⟩
      obtain ⟨hq, b, A, t, rfl, ty, kit, sq⟩ := giv
      have few : qs.length ≤ ns.length := by
        have z := nodup_le (qs.map Prod.snd) ns hq.nd fun n hn => by
          obtain ⟨q, hq', rfl⟩ := List.mem_map.mp hn
          exact hq.sub q hq'
        rwa [List.length_map] at z
      have ll : ((qs.map lit).map V.str).length = qs.length := by rw [List.length_map, List.length_map]
      have sL : LenV K (.ref A) H1 qs.length := ll ▸ Sq.len (sq _ (.of sm1))
      refine ⟨_, rfl, _, qs.length, rfl, sL, _, _, rfl, rfl, .inl ⟨by omega, by omega⟩, _, rfl, PL, _, rfl, sm1 _ _ hPL, rfl, ?_⟩
      have e : decide (V.int (2 * ((qs.length : Nat) : Int)) = V.int ((plc ns).length : Int)) = decide (qs.length = ns.length) := by
        rw [plcF_len, lits_len]
        refine decide_eq_decide.mpr ⟨fun h => ?_, fun h => ?_⟩
        · injection h with h
          omega
        · rw [h]
          congr 1
      show Q (.bl (decide (V.int (2 * ((qs.length : Nat) : Int)) = V.int ((plc ns).length : Int)))) H1
      rw [e]
      exact k H1 sm1
    · exact ⟨_, rfl, _, rfl, PL, x, ns, false, rfl, hPL, hn, nd, good, ask, fun H1 sm1 => ⟨_, rfl, iteF (k H1 sm1)⟩⟩
end
end K6
namespace K6
open PySem PySem.Spec PyProof.Rows L2 LamX NdefX EV
abbrev sInit : Stmt := inClass (top 27) 0
abbrev sSigns : Stmt := inClass (top 27) 1
abbrev sSettings : Stmt := inClass (top 27) 2
abbrev sLen : Stmt := inClass (top 27) 6
abbrev sContains : Stmt := inClass (top 27) 7
abbrev sLe : Stmt := inClass (top 27) 12
abbrev sEq : Stmt := inClass (top 27) 14
/-! ### rules -/
theorem neg_ne (n : Str) : n ≠ neg n := fun e => by
  have z := neg_len n
  rw [← e] at z
  omega
theorem grow1_mem {rows : List (List Str)} {n : Str} {r : List Str} : r ∈ grow1 rows n ↔ ∃ p ∈ rows, r = p ++ [n] ∨ r = p ++ [neg n] := by
  unfold grow1
  rw [List.mem_flatMap]
  constructor
  · rintro ⟨p, hp, h⟩
    rcases List.mem_cons.mp h with h | h
    · exact ⟨p, hp, .inl h⟩
    · exact ⟨p, hp, .inr (List.mem_singleton.mp h)⟩
  · rintro ⟨p, hp, h | h⟩
    · exact ⟨p, hp, by rw [h]; exact List.mem_cons_self⟩
    · exact ⟨p, hp, by rw [h]; exact List.mem_cons_of_mem _ (List.mem_singleton.mpr rfl)⟩
theorem snoc_inj {α : Type} {a b : List α} {x y : α} (h : a ++ [x] = b ++ [y]) : a = b ∧ x = y := by
  obtain ⟨h1, h2⟩ := List.append_inj' h rfl
  exact ⟨h1, by injection h2⟩
theorem grow1_nodup (n : Str) : ∀ rows : List (List Str), rows.Nodup → (grow1 rows n).Nodup
  | [], _ => List.nodup_nil
  | r :: t, nd => by
    obtain ⟨h1, h2⟩ := List.nodup_cons.mp nd
    have ih := grow1_nodup n t h2
    show ((r ++ [n]) :: (r ++ [neg n]) :: grow1 t n).Nodup
    refine List.nodup_cons.mpr ⟨fun h => ?_, List.nodup_cons.mpr ⟨fun h => ?_, ih⟩⟩
    · rcases List.mem_cons.mp h with h | h
      · exact neg_ne n (snoc_inj h).2
      · obtain ⟨p, hp, e | e⟩ := grow1_mem.mp h
        · exact h1 ((snoc_inj e).1 ▸ hp)
        · exact neg_ne n (snoc_inj e).2
    · obtain ⟨p, hp, e | e⟩ := grow1_mem.mp h
      · exact neg_ne n (snoc_inj e).2.symm
      · exact h1 ((snoc_inj e).1 ▸ hp)
theorem foldl_nodup : ∀ (ns : List Str) (rows : List (List Str)), rows.Nodup → (ns.foldl grow1 rows).Nodup
  | [], _, nd => nd
  | n :: ns, rows, nd => foldl_nodup ns _ (grow1_nodup n rows nd)
theorem fulls_nodup (ns : List Str) : (fulls ns).Nodup := foldl_nodup ns [[]] (List.nodup_cons.mpr ⟨fun h => (nomatch h), List.nodup_nil⟩)
theorem addRow_iff {rs : List (List Str)} {r x : List Str} : x ∈ addRow rs r ↔ x ∈ rs ∨ x = r := by
  unfold addRow
  split
  · rename_i h
    exact ⟨.inl, fun q => q.elim id fun e => e ▸ h⟩
  · rw [List.mem_append, List.mem_singleton]
theorem fold_iff : ∀ (xs acc : List (List Str)) (x : List Str), x ∈ xs.foldl addRow acc ↔ x ∈ acc ∨ x ∈ xs
  | [], _, _ => ⟨.inl, fun h => h.elim id fun z => nomatch z⟩
  | y :: xs, acc, x => by
    rw [List.foldl_cons, fold_iff xs, addRow_iff, List.mem_cons, or_assoc]
theorem rowsOf_iff {ns : List Str} {qss : List (List (Bool × Str))} {r : List Str} : r ∈ rowsOf ns qss ↔ ∃ qs ∈ qss, r = asc ns (qs.map lit) := by
  unfold rowsOf
  rw [fold_iff, List.mem_map]
  constructor
  · rintro (h | ⟨qs, h, e⟩)
    · cases h
    · exact ⟨qs, h, e.symm⟩
  · rintro ⟨qs, h, e⟩
    exact .inr ⟨qs, h, e.symm⟩
/-- the allowed settings of a rule of which these are given -/
def allow (ns : List Str) (gs : List (List Str)) : List (List Str) := (fulls ns).filter fun r => decide (r ∈ gs)
/-- the fields of a rule -/
def fl (a pl r : Addr) : List (Str × V) := putF "rows" (.ref r) (putF "places" (.ref pl) (putF "names" (.ref a) []))
theorem fl_eq (a pl r : Addr) : fl a pl r = ([("names", V.ref a), ("places", V.ref pl), ("rows", V.ref r)] : List (Str × V)) := by
  unfold fl putF
  rfl
theorem fl1 (a pl r : Addr) : (fl a pl r).lookup ("names" : Str) = some (.ref a) := by rw [fl_eq]; rfl
theorem fl2 (a pl r : Addr) : (fl a pl r).lookup ("places" : Str) = some (.ref pl) := by rw [fl_eq]; rfl
theorem fl3 (a pl r : Addr) : (fl a pl r).lookup ("rows" : Str) = some (.ref r) := by rw [fl_eq]; rfl
theorem fl_no {a pl r : Addr} {m : Str} (h : (["names", "places", "rows"] : List Str).contains m = false) : (fl a pl r).lookup m = none := by
  rw [fl_eq]
  simp only [List.contains_cons, List.contains_nil, Bool.or_false, Bool.or_eq_false_iff] at h
  obtain ⟨h1, h2, h3⟩ := h
  simp only [List.lookup, h1, h2, h3]
/-- a rule that stands in the heap, the rows' dict named -/
structure RuleR (K : PySem.W.Frag) (C : Addr) (H : Hp) (x : Addr) (sg : List Str) (rs : List (List Str)) (r : Addr) : Prop where
  at_ : ∃ dx a pl, H x = some (.ins C dx (fl a pl r)) ∧ (∀ H', Same H H' → SqT K H' a (sg.map V.str)) ∧ H pl = some (.dK (plc sg)) ∧ H r = some (.dT (rs.map rowKv))
structure RTxt (K : PySem.W.Frag) (mg : Str → Option Value) (C : Addr) : Prop where
  cl : Cls K C
  n1 : NoAttr K C "names"
  n2 : NoAttr K C "places"
  n3 : NoAttr K C "rows"
  mgC : mg "Rule" = some (.ref C)
  tuple : mg "tuple" = none
  list : mg "list" = none
  len : mg "len" = none
theorem RuleR.same {K : PySem.W.Frag} {C : Addr} {H H' : Hp} {x r : Addr} {sg : List Str} {rs : List (List Str)} (c : RuleR K C H x sg rs r) (sm : Same H H') : RuleR K C H' x sg rs r := by
  obtain ⟨dx, a, pl, h1, h2, h4, h5⟩ := c.at_
  exact ⟨dx, a, pl, sm _ _ h1, fun H2 s2 => h2 H2 (sm.trans s2), sm _ _ h4, sm _ _ h5⟩
theorem RuleR.off {K : PySem.W.Frag} {C : Addr} {H H' : Hp} {x r d : Addr} {sg : List Str} {rs : List (List Str)} {ws : List (List Key × V)} (c : RuleR K C H x sg rs r) (hd : H d = some (.dT ws)) (ne : r ≠ d) (g : Grow d H H') : RuleR K C H' x sg rs r := by
  obtain ⟨dx, a, pl, h1, h2, h4, h5⟩ := c.at_
  exact ⟨dx, a, pl, g _ _ (fun e => by rw [e, hd] at h1; cases h1) h1, fun H2 s2 => (sqT_off (h2 H (Same.refl H)) hd g).ext s2, g _ _ (fun e => by rw [e, hd] at h4; cases h4) h4, g _ _ ne h5⟩
theorem RuleR.kept {K : PySem.W.Frag} {C : Addr} {H H' : Hp} {S L x r : Addr} {sg : List Str} {rs : List (List Str)} (cr : RuleR K C H x sg rs r) (hS : Two H S L) (k : Kept S L H H') : RuleR K C H' x sg rs r := by
  obtain ⟨dx, a, pl, h1, h2, h4, h5⟩ := cr.at_
  obtain ⟨⟨_, g1⟩, ⟨_, g2⟩⟩ := id hS
  exact ⟨dx, a, pl, k _ _ h1 (ne_of h1 g1 fun z => nomatch z) (ne_of h1 g2 fun z => nomatch z), fun H2 s2 => (sqT_kept (h2 H (Same.refl H)) hS k).ext s2, k _ _ h4 (ne_of h4 g1 fun z => nomatch z) (ne_of h4 g2 fun z => nomatch z), k _ _ h5 (ne_of h5 g1 fun z => nomatch z) (ne_of h5 g2 fun z => nomatch z)⟩
def spInit (K : PySem.W.Frag) (C : Addr) : Sp := fun vs H Q _ => ∃ (x dx S0 T0 : Addr) (b1 b2 : Bool) (sg : List Str) (xs : List V) (qss : List (List (Bool × Str))), vs = [.ref x, .ref S0, .ref T0] ∧ H x = some (.ins C dx []) ∧
  (∀ H', Grow x H H' → Sq K b1 H' S0 (sg.map V.str)) ∧ (∀ H', Grow x H H' → Sq K b2 H' T0 xs) ∧ sg.length ≤ 6 ∧ sg.Nodup ∧ (∀ z ∈ sg, Name1 z) ∧ Paired (Given K x H sg) xs qss ∧ (∀ qs ∈ qss, qs.length = sg.length) ∧ qss.length ≤ 1000 ∧
  ∀ H' r, Grow x H H' → RuleR K C H' x sg (allow sg (rowsOf sg qss)) r → H r = none → Q .non H'
theorem Given.same {K : PySem.W.Frag} {s : Addr} {H H' : Hp} {ns : List Str} {x : V} {qs : List (Bool × Str)} (g : Given K s H ns x qs) (sm : Same H H') : Given K s H' ns x qs := by
  obtain ⟨hq, b, A, t, rfl, ty, kit, sq⟩ := g
  exact ⟨hq, b, A, t, rfl, fun H2 g2 => ty H2 ((Grow.of sm).trans g2), kit, fun H2 g2 => sq H2 ((Grow.of sm).trans g2)⟩
section
variable {P : Program} {w : World} {K : PySem.W.Frag} {mg : Str → Option Value} {base : Heap} {f fN fP fC fO fU fS C : Addr} {fd fdN fdP fdC fdO fdU fdS : FuncData}
abbrev nInit : List Str := ["self", "signs", "settings", "places", "index", "thing", "given", "setting", "row"]
theorem scInit : FnScope nInit ["self", "signs", "settings"] (defScope sInit) := ⟨rfl, rfl, rfl, by decide +kernel, rfl, by decide +kernel, by decide +kernel⟩
theorem ok_init {A1 : Addr} {dsN : List Value} (F : Fun K "__init__" "Rule.__init__" sInit f fd) (T : RTxt K mg C) (me : mg "enumerate" = none)
    (GN : FnOk P w K mg base CX0 2 fN fdN ["things", "taken"] (spChkNames K)) (mN : mg "check_names" = some (.ref fN)) (kN : PySem.W.keepIn K (.ref fN) = true) (hN1 : NilT K A1) (dN : Vals [.ref A1] dsN) (bN : L2.Binds K fdN ["things", "taken"] dsN)
    (GU : FnOk P w K mg base CX0 1 fU fdU ["names"] (spChkCount K)) (mU : mg "check_count" = some (.ref fU)) (kU : PySem.W.keepIn K (.ref fU) = true) (bU : L2.Binds K fdU ["names"] [])
    (GP : FnOk P w K mg base CX0 2 fP fdP ["names"] (spPlaces K)) (mP : mg "places_of" = some (.ref fP)) (kP : PySem.W.keepIn K (.ref fP) = true) (bP : L2.Binds K fdP ["names"] [])
    (GC : FnOk P w K mg base CX0 4 fC fdC ["places", "thing"] (spIsFull K)) (mC : mg "is_full" = some (.ref fC)) (kC : PySem.W.keepIn K (.ref fC) = true) (bC : L2.Binds K fdC ["places", "thing"] [])
    (GO : FnOk P w K mg base CX0 1 fO fdO ["places", "literals"] (spInOrder K)) (mO : mg "in_order" = some (.ref fO)) (kO : PySem.W.keepIn K (.ref fO) = true) (bO : L2.Binds K fdO ["places", "literals"] [])
    (GS : FnOk P w K mg base CX0 1 fS fdS ["names"] (spFS K)) (mS : mg "full_settings" = some (.ref fS)) (kS : PySem.W.keepIn K (.ref fS) = true) (bS : L2.Binds K fdS ["names"] []) :
    FnOk P w K mg base CX0 5 f fd ["self", "signs", "settings"] (spInit K C) := by
  refine F.ok scInit (fun vs H Q E h => ?_) (fun cdv A' outer s H vs Q E hr h => ?_)
  · obtain ⟨x, dx, S0, T0, b1, b2, sg, xs, qss, rfl, _⟩ := h
    rfl
  · obtain ⟨x, dx, S0, T0, b1, b2, sg, xs, qss, rfl, hx, hS, hT, n6, nd, good, giv, lens, few, k⟩ := h
    have hu := hu_of hr
    have hr1 : Room 1 _ := hr.mono (by decide)
    have hr2 : Room 2 _ := hr.mono (by decide)
    have n60 : sg.length ≤ 60 := by omega
    refine ⟨_, pss_cons (ps_expr (pe_call GN hr2 (by rfl) mN kN bN dN pass0 (pa_cons (pv 1) pa_nil)))
      (pss_cons (ps_expr (pe_call GU hr1 (by rfl) mU kU bU .nil pass0 (pa_cons (pv 1) pa_nil)))
      (pss_cons (ps_set (i := 3) scInit.nd rfl (.inr rfl) (pe_call GP hr2 (by rfl) mP kP bP .nil pass0 (pa_cons (pv 1) pa_nil)))
      (pss_cons (ps_for PassesOwn.never rfl (pi_enumB (by rfl) me (pa_cons (pv 2) pa_nil)) (pg_tup rfl (pgs_cons (pg_name (i := 4) scInit.nd rfl (.inl rfl)) (pgs_cons (pg_name (i := 5) scInit.nd rfl (.inl rfl)) pgs_nil)))
        (pss_one (ps_if (pt_not (pt_val (pe_call GC hr (by rfl) mC kC bC .nil pass0 (pa_cons (pv 3) (pa_cons (pv 5) pa_nil))))) (pss_one ps_none) pss_nil)))
      (pss_cons (ps_set (i := 6) scInit.nd rfl (.inr rfl) (pe_dcP (own := [("setting", 7)]) .t rfl hu scInit.nd (pi_seq (pv 2)) (blkOk_by (N := nInit) (sc := defScope sInit) (by decide +kernel))
          (fun _ _ _ _ _ => pg_name (i := 7) scInit.nd rfl (.inl rfl)) (fun _ _ _ _ _ => pts_nil) (fun _ _ _ _ _ => pe_call GO hr1 (by rfl) mO kO bO .nil pass0 (pa_cons (pv 3) (pa_cons (pv 7) pa_nil))) (fun _ _ _ _ _ => pe_bl)))
      (pss_cons (ps_fld (pv 0) (pe_tupleOf (by rfl) T.tuple (pv 1)) rfl)
      (pss_cons (ps_fld (pv 0) (pv 3) rfl)
      (pss_one (ps_fld (pv 0) (pe_dcP (own := [("row", 8)]) .t rfl hu scInit.nd (pi_list (pe_call GS hr1 (by rfl) mS kS bS .nil pass0 (pa_cons (pv 1) pa_nil))) (blkOk_by (N := nInit) (sc := defScope sInit) (by decide +kernel))
          (fun _ _ _ _ _ => pg_name (i := 8) scInit.nd rfl (.inl rfl)) (fun _ _ _ _ _ => pts_one (pt_cmp (pc_din hu (pv 8) (pv 6)))) (fun _ _ _ _ _ => pv 8) (fun _ _ _ _ _ => pe_bl)) rfl)))))))), ?_⟩
    have g0 : Grow x H H := .of (Same.refl H)
    refine ⟨_, rfl, S0, A1, b1, false, sg, [], rfl, (fun H' s' => hS H' (.of s')), (fun H' _ => hN1.sq H'), n60, Nat.zero_le _, nd, good, fun H1 sm1 => ?_⟩
    refine ⟨_, rfl, S0, b1, _, rfl, hS H1 (.of sm1), by rw [List.length_map]; exact n6, ?_⟩
    refine ⟨_, rfl, S0, b1, sg, rfl, hS H1 (.of sm1), (fun H' s' => hS H' (.of (sm1.trans s'))), n60, nd, good, fun PL H2 hPL0 hPL2 sm2 => ?_⟩
    have sm02 := sm1.trans sm2
    refine ⟨_, rfl, b2, T0, _, rfl, hT _ (.of sm02), for_it walk_enumB (fun i σ H3 => ∃ o4 o5, σ = [some (.ref x), some (.ref S0), some (.ref T0), some (.ref PL), o4, o5, none, none, none] ∧ Same H2 H3) ⟨_, _, rfl, Same.refl _⟩ (fun i σ H3 _ ⟨_, _, _, sm⟩ => hT _ (.of (sm02.trans sm))) ?_ ?_⟩
    · rintro i y σ H3 H4 hi ⟨o4, o5, rfl, sm⟩ ⟨t, v1, v2, rfl, ht, rfl, hv1, hv2⟩
      have sm3 := sm.trans (same_new (o := .tup [v1, v2]) ht)
      obtain ⟨qs, hqs, g⟩ := paired_get giv i v2 hv2
      have lq := lens qs (List.mem_of_getElem? hqs)
      refine ⟨t, _, rfl, SqT.of upd_same, rfl, _, _, rfl, _, _, rfl, rfl, _, rfl, _, rfl, PL, v2, sg, rfl, sm3 _ _ hPL2, n60, nd, good, .inl ⟨x, qs, g.same (sm02.trans sm3), fun H5 sm5 => ⟨_, rfl, ?_⟩⟩⟩
      rw [decide_eq_true lq]
      exact iteF ⟨_, _, rfl, sm3.trans sm5⟩
    rintro σ H3 ⟨o4, o5, rfl, sm3⟩
    have sm03 := sm02.trans sm3
    have g3 : Grow x H H3 := .of sm03
    have hPL3 := sm3 _ _ hPL2
    have lx : xs.length = qss.length := Paired.length giv
    refine ⟨_, rfl, b2, T0, _, rfl, hT _ g3, fun D hD => dc_it walk_sq (fun i H7 => Same H3 H7 ∧ H7 D = some (.dT ((rowsOf sg (qss.take i)).map rowKv))) ⟨same_new hD, upd_same⟩ (fun i H7 _ hh => hT _ (g3.trans (Grow.of hh.1))) ?_ ?_⟩
    · rintro i v H7 H8 hi ⟨sm7, hD7⟩ ⟨rfl, hv⟩
      obtain ⟨qs, hqs, hq, b', A, t', rfl, ty, kit, sq⟩ := paired_get giv i v hv
      have g7 := g3.trans (Grow.of sm7)
      refine ⟨rfl, _, rfl, _, rfl, PL, A, b', sg, qs.map lit, rfl, sm7 _ _ hPL3, sq _ g7, (fun H' s' => sq _ (g7.trans (Grow.of s'))), n60, nd, good, (fun l hl => ?_), fun t H9 ht ht9 sm9 => ?_⟩
      · obtain ⟨q, hq', rfl⟩ := List.mem_map.mp hl
        exact lit_mem (hq.sub q hq')
      rw [← kV_strs] at ht9
      refine ⟨_, DPut.t (sm9 _ _ hD7) ht9 ?_, fun c o h => (upd_ne (ne_of_none h hD)).trans (sm9 _ _ (sm7 _ _ h)), ?_⟩
      · rw [List.length_map, sizeLine_eq]
        have := rowsOf_len sg (qss.take i)
        have := List.length_take_le i qss
        have := List.length_take_le' i qss
        omega
      · rw [upd_same, row_put, List.take_succ, hqs]
        show _ = some (HO.dT ((rowsOf sg (qss.take i ++ [qs])).map rowKv))
        rw [rowsOf_snoc]
    rintro H7 ⟨sm7, hD7⟩
    rw [lx, List.take_length] at hD7
    have sm07 := sm03.trans sm7
    have hx7 := sm07 _ _ hx
    refine ⟨_, rfl, tup_any (x := x) (fun H' g => hS H' ((Grow.of sm07).trans g)) hx7 fun a H8 sm8 ha => ⟨_, rfl, x, C, dx, [], rfl, sm8 _ _ hx7, T.cl, T.n1, (by show 0 < 1000; decide), ?_⟩⟩
    have g8 : Grow x H (upd H8 x (.ins C dx (putF "names" (.ref a) []))) := (Grow.of (sm07.trans sm8)).trans .put
    refine ⟨_, rfl, _, rfl, x, C, dx, _, rfl, upd_same, T.cl, T.n2, (by show 1 < 1000; decide), ?_⟩
    have g9 := g8.trans (Grow.put (x := x) (o := .ins C dx (putF "places" (.ref PL) (putF "names" (.ref a) []))))
    have g79 : Grow x H7 (upd (upd H8 x (.ins C dx (putF "names" (.ref a) []))) x (.ins C dx (putF "places" (.ref PL) (putF "names" (.ref a) [])))) := ((Grow.of sm8).trans .put).trans .put
    generalize eH9 : upd (upd H8 x (.ins C dx (putF "names" (.ref a) []))) x (.ins C dx (putF "places" (.ref PL) (putF "names" (.ref a) []))) = H9 at g9 g79 ⊢
    have hx9 : H9 x = some (.ins C dx (putF "places" (.ref PL) (putF "names" (.ref a) []))) := eH9 ▸ upd_same
    have nPx : PL ≠ x := ne_of (sm7 _ _ hPL3) hx7 fun z => nomatch z
    have nDx : D ≠ x := ne_of hD7 hx7 fun z => nomatch z
    have hPL9 : H9 PL = some (.dK (plc sg)) := g79 _ _ nPx (sm7 _ _ hPL3)
    have hD9 : H9 D = some (.dT ((rowsOf sg qss).map rowKv)) := g79 _ _ nDx hD7
    refine ⟨_, rfl, S0, b1, sg, rfl, (fun H' s' => hS H' (g9.trans (Grow.of s'))), n6, (fun z hz => (good z hz).2.1), fun p ts Ha hp hpa rows sma => ⟨p, rfl, ⟨_, SqL.of hpa⟩, fun R hR => dc_it walk_list (fun i Hb => Same Ha Hb ∧ Hb R = some (.dT ((((fulls sg).take i).filter fun r => decide (r ∈ rowsOf sg qss)).map rowKv))) ⟨same_new hR, upd_same⟩ (fun i Hb _ hh => SqL.of (hh.1 _ _ hpa)) ?_ ?_⟩⟩
    · rintro i v Hb Hc hi ⟨smb, hRb⟩ ⟨rfl, hv⟩
      obtain ⟨t, ht, rfl⟩ := get_map hv
      obtain ⟨r, hr', hrt⟩ := RowsAt.get rows i t ht
      have ht2 : Hc t = some (.tup ((r.map (Sum.inr : Str → Key)).map kV)) := by
        rw [kV_strs]
        exact smb _ _ hrt
      have er : (fulls sg).take (i + 1) = (fulls sg).take i ++ [r] := by rw [List.take_succ, hr']; rfl
      have g := DGet.t (k := r.map Sum.inr) (smb _ _ (sma _ _ hD9)) ht2
      refine ⟨rfl, _, rfl, _, rfl, D, _, rfl, g, _, rfl, ?_⟩
      have fresh : r ∉ ((fulls sg).take i).filter fun r => decide (r ∈ rowsOf sg qss) := fun q => not_before (fulls_nodup sg) hr' (List.mem_filter.mp q).1
      have lf : (((fulls sg).take i).filter fun r => decide (r ∈ rowsOf sg qss)).length ≤ 64 := by
        have z1 := List.length_filter_le (fun r => decide (r ∈ rowsOf sg qss)) ((fulls sg).take i)
        have z2 := List.length_take_le' i (fulls sg)
        have z3 := fulls_few n6
        omega
      by_cases e : r ∈ rowsOf sg qss
      · rw [row_some _ e]
        refine iteT ⟨_, rfl, _, DPut.t hRb ht2 (by rw [List.length_map, sizeLine_eq]; omega), fun c o h => (upd_ne (ne_of_none h hR)).trans (smb c o h), ?_⟩
        rw [upd_same, row_put, er, List.filter_append]
        unfold addRow
        rw [if_neg fresh, List.filter_cons_of_pos (by rw [decide_eq_true e])]
        rfl
      · rw [row_none _ e]
        refine iteF ⟨smb, ?_⟩
        rw [er, List.filter_append, List.filter_cons_of_neg (by rw [decide_eq_false e]; decide), List.filter_nil, List.append_nil]
        exact hRb
    · rintro Hb ⟨smb, hRb⟩
      rw [List.length_map, Paired.length rows, List.take_length] at hRb
      have sm9b := sma.trans smb
      have hR9 : H9 R = none := sma.free hR
      have hxb := sm9b _ _ hx9
      have nRx : R ≠ x := ne_of hRb hxb fun z => nomatch z
      have g9b : Grow x H9 (upd Hb x (.ins C dx (fl a PL R))) := (Grow.of sm9b).trans .put
      refine ⟨_, rfl, x, C, dx, _, rfl, hxb, T.cl, T.n3, (by show 2 < 1000; decide), k _ R (g9.trans g9b) ⟨dx, a, PL, upd_same, ?_, g9b _ _ nPx hPL9, (upd_ne nRx).trans hRb⟩ ?_⟩
      · intro H' s'
        refine ha H' ?_
        exact (Grow.put.trans (eH9 ▸ Grow.put)).trans (g9b.trans (Grow.of s'))
      · cases hHR : H R with
        | none => rfl
        | some o =>
          have z := g9 _ _ nRx hHR
          rw [hR9] at z
          cases z
end
end K6
namespace K6
open PySem PySem.Spec PyProof.Rows L2 LamX NdefX EV
def spSigns (K : PySem.W.Frag) (C : Addr) : Sp := fun vs H Q _ => ∃ (x r : Addr) (sg : List Str) (rs : List (List Str)), vs = [.ref x] ∧ RuleR K C H x sg rs r ∧ ∀ p, H p = none → Q (.ref p) (upd H p (.lst (sg.map V.str)))
def spSettings (K : PySem.W.Frag) (C : Addr) : Sp := fun vs H Q _ => ∃ (x r : Addr) (sg : List Str) (rs : List (List Str)), vs = [.ref x] ∧ RuleR K C H x sg rs r ∧ ∀ p ts, H p = none → RowsAt H ts rs → Q (.ref p) (upd H p (.lst (ts.map V.ref)))
def spLen (K : PySem.W.Frag) (C : Addr) : Sp := fun vs H Q _ => ∃ (x r : Addr) (sg : List Str) (rs : List (List Str)), vs = [.ref x] ∧ RuleR K C H x sg rs r ∧ Q (.int ((rs.length : Nat) : Int)) H
def spContains (K : PySem.W.Frag) (C : Addr) : Sp := fun vs H Q _ => ∃ (x r : Addr) (v : V) (sg : List Str) (rs : List (List Str)), vs = [.ref x, v] ∧ RuleR K C H x sg rs r ∧ sg.length ≤ 60 ∧ sg.Nodup ∧ (∀ z ∈ sg, Name1 z) ∧
  ((∃ qs, Given K x H sg v qs ∧ ∀ H', Same H H' → Q (.bl (decide (qs.length = sg.length) && decide (asc sg (qs.map lit) ∈ rs))) H') ∨ (Ask K H sg false v ∧ ∀ H', Same H H' → Q (.bl false) H'))
theorem keys_rows {H : Hp} : ∀ (rs : List (List Str)) (bs : List Addr), IsKeys H (rs.map rowKv) bs → RowsAt H bs rs
  | [], [], _ => .nil
  | [], _ :: _, h => nomatch h
  | _ :: _, [], h => nomatch h
  | r :: rs, b :: bs, .cons h t => .cons (by rw [show (rowKv r).1 = r.map Sum.inr from rfl, kV_strs] at h; exact h) (keys_rows rs bs t)
theorem scLen : FnScope ["self"] ["self"] (defScope sLen) := ⟨rfl, rfl, rfl, by decide +kernel, rfl, by decide +kernel, by decide +kernel⟩
theorem scContains : FnScope ["self", "thing"] ["self", "thing"] (defScope sContains) := ⟨rfl, rfl, rfl, by decide +kernel, rfl, by decide +kernel, by decide +kernel⟩
theorem scSigns : FnScope ["self"] ["self"] (defScope sSigns) := ⟨rfl, rfl, rfl, by decide +kernel, rfl, by decide +kernel, by decide +kernel⟩
theorem scSettings : FnScope ["self"] ["self"] (defScope sSettings) := ⟨rfl, rfl, rfl, by decide +kernel, rfl, by decide +kernel, by decide +kernel⟩
/-- what `set(..) == set(..)` and the rows tell: which rows of the one stand in the other -/
def found (sg' : List Str) (rs' rs : List (List Str)) : List Bool := rs.map fun q => decide (asc sg' q ∈ rs')
def leR (sg : List Str) (rs : List (List Str)) (sg' : List Str) (rs' : List (List Str)) : Bool := sameMem sg sg' && (found sg' rs' rs).all id
def eqR (sg : List Str) (rs : List (List Str)) (sg' : List Str) (rs' : List (List Str)) : Bool := leR sg rs sg' rs' && decide (rs.length = rs'.length)
/-- a row of a rule: one literal for each sign -/
def FullOf (ns r : List Str) : Prop := ∃ qs, Lits ns qs ∧ qs.length = ns.length ∧ r = qs.map lit
def spLe (K : PySem.W.Frag) (C : Addr) : Sp := fun vs H Q _ => ∃ (x y : Addr) (sg sg' : List Str) (rs rs' : List (List Str)) (r r' : Addr), vs = [.ref x, .ref y] ∧ RuleR K C H x sg rs r ∧ RuleR K C H y sg' rs' r' ∧ r ≠ r' ∧ sg.length ≤ 60 ∧ sg'.length ≤ 60 ∧ sg.Nodup ∧ sg'.Nodup ∧ (∀ z ∈ sg', Name1 z) ∧ (∀ q ∈ rs, FullOf sg q) ∧ rs.length ≤ 1000 ∧
  ∀ H', Same H H' → Q (.bl (leR sg rs sg' rs')) H'
def spEq (K : PySem.W.Frag) (C : Addr) : Sp := fun vs H Q _ => ∃ (x : Addr) (v : V) (sg : List Str) (rs : List (List Str)) (r : Addr), vs = [.ref x, v] ∧ RuleR K C H x sg rs r ∧ sg.length ≤ 60 ∧ sg.Nodup ∧ (∀ q ∈ rs, FullOf sg q) ∧ rs.length ≤ 1000 ∧
  ((∃ (y : Addr) (sg' : List Str) (rs' : List (List Str)) (r' : Addr), v = .ref y ∧ RuleR K C H y sg' rs' r' ∧ r ≠ r' ∧ sg'.length ≤ 60 ∧ sg'.Nodup ∧ (∀ z ∈ sg', Name1 z) ∧ ∀ H', Same H H' → Q (.bl (eqR sg rs sg' rs')) H')
   ∨ ((∃ t, TyX K H v t ∧ PySem.W.kitOne K t (.ref C) = some false) ∧ ∀ H', Same H H' → Q (.bl false) H'))
section
variable {P : Program} {w : World} {K : PySem.W.Frag} {mg : Str → Option Value} {base : Heap} {f fI fL C : Addr} {fd fdI fdL : FuncData}
theorem ok_signs (F : Fun K "signs" "Rule.signs" sSigns f fd) (T : RTxt K mg C) : FnOk P w K mg base CX0 1 f fd ["self"] (spSigns K C) := by
  refine F.ok scSigns (fun vs H Q E h => ?_) (fun cdv A' outer s H vs Q E hr h => ?_)
  · obtain ⟨x, r, sg, rs, rfl, _⟩ := h
    rfl
  · obtain ⟨x, r, sg, rs, rfl, ⟨dx, a, pl, hx, ha, _⟩, k⟩ := h
    refine ⟨_, pss_one (ps_ret (pe_callTy call_list_of (by rfl) T.list (by decide +kernel) (pa_cons (pe_fld (pv 0) rfl) pa_nil))), ?_⟩
    exact ⟨_, rfl, x, C, dx, _, _, rfl, hx, T.cl, T.n1, fl1 .., a, _, rfl, .inr (ha H (Same.refl H)), k⟩
theorem ok_settings (F : Fun K "settings" "Rule.settings" sSettings f fd) (T : RTxt K mg C) : FnOk P w K mg base CX0 1 f fd ["self"] (spSettings K C) := by
  refine F.ok scSettings (fun vs H Q E h => ?_) (fun cdv A' outer s H vs Q E hr h => ?_)
  · obtain ⟨x, r, sg, rs, rfl, _⟩ := h
    rfl
  · obtain ⟨x, r, sg, rs, rfl, ⟨dx, a, pl, hx, _, _, hr4⟩, k⟩ := h
    refine ⟨_, pss_one (ps_ret (pe_callTy (call_list_dT rfl) (by rfl) T.list (by decide +kernel) (pa_cons (pe_fld (pv 0) rfl) pa_nil))), ?_⟩
    refine ⟨_, rfl, x, C, dx, _, _, rfl, hx, T.cl, T.n3, fl3 .., r, _, rfl, .inl hr4, fun p bs hp hk => k p bs hp ?_⟩
    exact keys_rows rs bs hk
theorem ok_len (F : Fun K "__len__" "Rule.__len__" sLen f fd) (T : RTxt K mg C) : FnOk P w K mg base CX0 1 f fd ["self"] (spLen K C) := by
  refine F.ok scLen (fun vs H Q E h => ?_) (fun cdv A' outer s H vs Q E hr h => ?_)
  · obtain ⟨x, r, sg, rs, rfl, _⟩ := h
    rfl
  · obtain ⟨x, r, sg, rs, rfl, ⟨dx, a, pl, hx, _, _, hr4⟩, k⟩ := h
    refine ⟨_, pss_one (ps_ret (pe_callB call_len_dT (by rfl) T.len PySem.boot_len (pa_cons (pe_fld (pv 0) rfl) pa_nil))), ?_⟩
    refine ⟨_, rfl, x, C, dx, _, _, rfl, hx, T.cl, T.n3, fl3 .., r, _, rfl, hr4, ?_⟩
    rw [List.length_map]
    exact k
theorem ok_contains {fC fO : Addr} {fdC fdO : FuncData} (F : Fun K "__contains__" "Rule.__contains__" sContains f fd) (T : RTxt K mg C)
    (GC : FnOk P w K mg base CX0 4 fC fdC ["places", "thing"] (spIsFull K)) (mC : mg "is_full" = some (.ref fC)) (kC : PySem.W.keepIn K (.ref fC) = true) (bC : L2.Binds K fdC ["places", "thing"] [])
    (GO : FnOk P w K mg base CX0 1 fO fdO ["places", "literals"] (spInOrder K)) (mO : mg "in_order" = some (.ref fO)) (kO : PySem.W.keepIn K (.ref fO) = true) (bO : L2.Binds K fdO ["places", "literals"] []) :
    FnOk P w K mg base CX0 5 f fd ["self", "thing"] (spContains K C) := by
  refine F.ok scContains (fun vs H Q E h => ?_) (fun cdv A' outer s H vs Q E hr h => ?_)
  · obtain ⟨x, r, v, sg, rs, rfl, _⟩ := h
    rfl
  · obtain ⟨x, r, v, sg, rs, rfl, ⟨dx, a, pl, hx, _, hpl, hr4⟩, hn, nd, good, way⟩ := h
    have hu := hu_of hr
    have hr1 : Room 1 _ := hr.mono (by decide)
    refine ⟨_, pss_one (ps_ret (pe_and (pe_call GC hr (by rfl) mC kC bC .nil pass0 (pa_cons (pe_fld (pv 0) rfl) (pa_cons (pv 1) pa_nil))) (pe_one (pe_cmp (pc_din hu (pe_call GO hr1 (by rfl) mO kO bO .nil pass0 (pa_cons (pe_fld (pv 0) rfl) (pa_cons (pv 1) pa_nil))) (pe_fld (pv 0) rfl)))))), ?_⟩
    refine ⟨_, rfl, x, C, dx, _, _, rfl, hx, T.cl, T.n2, fl2 .., _, rfl, ?_⟩
    rcases way with ⟨qs, giv, k⟩ | ⟨ask, k⟩
    · refine ⟨pl, v, sg, rfl, hpl, hn, nd, good, .inl ⟨x, qs, giv, fun H1 sm1 => ⟨_, rfl, ?_⟩⟩⟩
      cases el : decide (qs.length = sg.length) with
      | false =>
        have z := k H1 sm1
        rw [el] at z
        exact iteF z
      | true =>
        refine iteT ?_
        obtain ⟨hq, b', A, t, rfl, ty, kit, sq⟩ := giv
        refine ⟨_, rfl, x, C, dx, _, _, rfl, sm1 _ _ hx, T.cl, T.n2, fl2 .., _, rfl, pl, A, b', sg, qs.map lit, rfl, sm1 _ _ hpl, sq _ (.of sm1), (fun H' s' => sq _ (.of (sm1.trans s'))), hn, nd, good, (fun l hl => ?_), fun t1 H2 ht ht2 sm2 => ?_⟩
        · obtain ⟨q, hq', rfl⟩ := List.mem_map.mp hl
          exact lit_mem (hq.sub q hq')
        rw [← kV_strs] at ht2
        have sm := sm1.trans sm2
        have g := DGet.t (k := (asc sg (qs.map lit)).map Sum.inr) (sm _ _ hr4) ht2
        refine ⟨_, rfl, x, C, dx, _, _, rfl, sm _ _ hx, T.cl, T.n3, fl3 .., r, _, rfl, g, ?_⟩
        by_cases e : asc sg (qs.map lit) ∈ rs
        · rw [row_some rs e]
          have z := k H2 sm
          rwa [el, decide_eq_true e] at z
        · rw [row_none rs e]
          have z := k H2 sm
          rwa [el, decide_eq_false e] at z
    · exact ⟨pl, v, sg, rfl, hpl, hn, nd, good, .inr ⟨ask, fun H1 sm1 => ⟨_, rfl, iteF (k H1 sm1)⟩⟩⟩
abbrev nLe : List Str := ["self", "other", "row"]
theorem scLe : FnScope nLe ["self", "other"] (defScope sLe) := ⟨rfl, rfl, rfl, by decide +kernel, rfl, by decide +kernel, by decide +kernel⟩
theorem ok_le (F : Fun K "__le__" "Rule.__le__" sLe f fd) (T : RTxt K mg C) (ma : mg "all" = none) (ms : mg "set" = none)
    (GI : FnOk P w K mg base CX0 5 fI fdI ["self", "thing"] (spContains K C)) (hs : PySem.W.findIn K (.ref C) "__contains__" = some (some (.ref fI))) (hf : PySem.W.isFn K (.ref fI) = true) (bI : L2.Binds K fdI ["self", "thing"] []) :
    FnOk P w K mg base CX0 6 f fd ["self", "other"] (spLe K C) := by
  refine F.ok scLe (fun vs H Q E h => ?_) (fun cdv A' outer s H vs Q E hr h => ?_)
  · obtain ⟨x, y, sg, sg', rs, rs', r, r', rfl, _⟩ := h
    rfl
  · obtain ⟨x, y, sg, sg', rs, rs', r, r', rfl, cx, cy, ner, n1, n2, d1, d2, good', rows, few, k⟩ := h
    have hu := Nat.lt_of_succ_lt (hu_of hr)
    have hr5 : Room 5 _ := hr.mono (by decide)
    refine ⟨_, pss_one (ps_ret (pe_and (pe_cmpR (op_eqX hu) (pe_callTy (cr_setX rfl) (by rfl) ms (by decide +kernel) (pa_cons (pe_fld (pv 0) rfl) pa_nil)) (pe_callTy (cr_setX rfl) (by rfl) ms (by decide +kernel) (pa_cons (pe_fld (pv 1) rfl) pa_nil)) (nomark _))
      (pe_one (pe_callB (cr_all rfl) (by rfl) ma (by decide +kernel) (pa_cons (pe_lock (pe_lc (own := [("row", 2)]) (g := gName 2) (tt := tYes) rfl scLe.nd (pi_keys (pe_fld (pv 0) rfl)) (blkOk_by (N := nLe) (sc := defScope sLe) (by decide +kernel))
          (fun _ _ _ _ _ => pg_name (i := 2) scLe.nd rfl (.inl rfl)) (fun _ _ _ _ _ => pts_nil) (fun _ _ _ _ _ => pe_cmpR (op_inOwn GI hs hf bI pass0 hr5) (pv 2) (pv 1) rfl))) pa_nil))))), ?_⟩
    obtain ⟨dx, a, pl, hx, ha, _, hr4⟩ := cx.at_
    obtain ⟨dy, a', pl', hy, ha', _, hr4'⟩ := cy.at_
    refine ⟨_, rfl, x, C, dx, _, _, rfl, hx, T.cl, T.n1, fl1 .., a, sg, rfl, ha H (Same.refl H), d1, by omega, fun p hp0 => ?_⟩
    have sm1 : Same H _ := same_new (o := SetX P w p sg) hp0
    refine ⟨_, rfl, y, C, dy, _, _, rfl, sm1 _ _ hy, T.cl, T.n1, fl1 .., a', sg', rfl, ha' _ sm1, d2, by omega, fun q hq0 => ?_⟩
    have sm2 : Same H _ := sm1.trans (same_new (o := SetX P w q sg') hq0)
    refine ⟨p, q, sg, sg', rfl, rfl, (upd_ne (ne_of_none upd_same hq0)).trans upd_same, upd_same, _, rfl, ?_⟩
    generalize hX : upd (upd H p (SetX _ _ p sg)) q (SetX _ _ q sg') = H1
    replace sm2 : Same H H1 := by
      rw [← hX]
      exact sm2
    cases h1 : sameMem sg sg' with
    | false =>
      refine iteF ?_
      have z := k _ sm2
      unfold leR at z
      rw [h1] at z
      exact z
    | true =>
      have sub : ∀ z ∈ sg, z ∈ sg' := mem_same h1
      have len := (sameMem_iff.mp h1).1
      have hd1 := sm2 _ _ hr4
      have cy1 := cy.same sm2
      have hx1 := sm2 _ _ hx
      have nxr : x ≠ r := ne_of hx1 hd1 fun z => nomatch z
      refine iteT ⟨r, _, hd1, trivial, fun od => ?_⟩
      have g0 : Grow r H1 (upd H1 r (.frz od (.dT (rs.map rowKv)))) := Grow.put
      refine ⟨_, rfl, x, C, dx, _, _, rfl, (upd_ne nxr).trans hx1, T.cl, T.n3, fl3 .., r, od, rfl, .inr ⟨_, upd_same, fun L hL => lc_it walk_keysT (fun i H2 => H2 r = some (.frz od (.dT (rs.map rowKv))) ∧ H2 L = some (.lst ((found sg' rs' (rs.take i)).map V.bl)) ∧ Grow r H1 H2) ?_ (fun i H2 _ hh => hh.1) ?_ ?_⟩⟩
      · have nrL : r ≠ L := ne_of_none (show upd H1 r (.frz od (.dT (rs.map rowKv))) r = some _ from upd_same) hL
        refine ⟨(upd_ne nrL).trans upd_same, ?_, fun c o nc e => (upd_ne (ne_of_none (g0 c o nc e) hL)).trans (g0 c o nc e)⟩
        rw [upd_same]
        rfl
      · rintro i v H2 H3 hi ⟨hr2, hL2, g2⟩ ⟨rfl, kk, vv, q, hkv, rfl, hq⟩
        obtain ⟨row, hrow, ekv⟩ := get_map hkv
        injection ekv with ek ev
        rw [ek, kV_strs] at hq
        obtain ⟨qs, hqs, lq, rfl⟩ := rows row (List.mem_of_getElem? hrow)
        have cy2 := cy1.off hd1 ner.symm g2
        obtain ⟨dy2, _, _, hy2, _⟩ := cy2.at_
        have nqy : q ≠ y := ne_of hq hy2 fun z => nomatch z
        refine ⟨rfl, _, rfl, _, rfl, y, dy2, _, rfl, hy2, y, r', .ref q, sg', rs', rfl, cy2, n2, d2, good', .inl ⟨qs, ⟨hqs.names sub, false, q, .type "tuple", rfl, fun H' g => .base (.tup (g _ _ nqy hq)), kit_seq false, fun H' g => Sq.tup (g _ _ nqy hq)⟩, fun H4 sm4 => ⟨_, rfl, ?_⟩⟩⟩
        rw [decide_eq_true (lq.trans len)]
        refine ⟨_, sm4 _ _ hL2, by rw [List.length_map]; unfold found; rw [List.length_map, List.length_take, sizeLine_eq]; omega, ?_, ?_, ?_⟩
        · have nrL : r ≠ L := ne_of hr2 hL2 fun z => nomatch z
          exact (upd_ne nrL).trans (sm4 _ _ hr2)
        · rw [upd_same, List.take_succ, hrow]
          unfold found
          rw [List.map_append, List.map_append]
          rfl
        · intro c o nc e
          have z := sm4 _ _ (g2 c o nc e)
          have hL1 : H1 L = none := by
            have y := hL
            rwa [upd_ne (ne_of_none (show upd H1 r (.frz od (.dT (rs.map rowKv))) r = some _ from upd_same) hL).symm] at y
          exact (upd_ne (ne_of_none e hL1)).trans z
      · rintro H2 ⟨hr2, hL2, g2⟩
        have nrL : L ≠ r := ne_of hL2 hr2 fun z => nomatch z
        refine ⟨hr2, L, _, rfl, SqL.of ((upd_ne nrL).trans hL2), ?_⟩
        have sm3 : Same H1 (upd H2 r (.dT (rs.map rowKv))) := fun c o e => by
          by_cases q : c = r
          · rw [q, hd1] at e
            rw [q, upd_same, e]
          · exact (upd_ne q).trans (g2 c o q e)
        have z := k _ (sm2.trans sm3)
        unfold leR at z
        rw [List.length_map, List.take_length]
        rw [h1] at z
        exact z
abbrev nEq : List Str := ["self", "other"]
theorem scEq : FnScope nEq ["self", "other"] (defScope sEq) := ⟨rfl, rfl, rfl, by decide +kernel, rfl, by decide +kernel, by decide +kernel⟩
theorem ok_eq (F : Fun K "__eq__" "Rule.__eq__" sEq f fd) (T : RTxt K mg C) (TI : CIs K C) (nf : PySem.W.notFirst K C (.ref C) = true) (mi : mg "isinstance" = none)
    (GL : FnOk P w K mg base CX0 6 fL fdL ["self", "other"] (spLe K C)) (hs : PySem.W.findIn K (.ref C) "__le__" = some (some (.ref fL))) (hf : PySem.W.isFn K (.ref fL) = true) (bL : L2.Binds K fdL ["self", "other"] []) :
    FnOk P w K mg base CX0 7 f fd ["self", "other"] (spEq K C) := by
  refine F.ok scEq (fun vs H Q E h => ?_) (fun cdv A' outer s H vs Q E hr h => ?_)
  · obtain ⟨x, v, sg, rs, r, rfl, _⟩ := h
    rfl
  · obtain ⟨x, v, sg, rs, r, rfl, cx, hn, nd, rows, few, way⟩ := h
    have hr6 : Room 6 _ := hr.mono (by decide)
    refine ⟨_, pss_one (ps_ret (pe_and (pe_callB call_isi (by rfl) mi (by decide +kernel) (pa_cons (pv 1) (pa_cons (pe_glob (v := .ref C) (by rfl) T.mgC rfl) pa_nil)))
        (pe_and (pe_cmpR (op_leOwn GL hs hf bL pass0 hr6) (pv 0) (pv 1) (nomark _))
        (pe_one (pe_cmpR op_eq (pe_callB call_len_dT (by rfl) T.len PySem.boot_len (pa_cons (pe_fld (pv 0) rfl) pa_nil)) (pe_callB call_len_dT (by rfl) T.len PySem.boot_len (pa_cons (pe_fld (pv 1) rfl) pa_nil)) (nomark _)))))), ?_⟩
    obtain ⟨dx, a, pl, hx, _, _, hr4⟩ := cx.at_
    rcases way with ⟨y, sg', rs', r', rfl, cy, ner, hn', nd', good', k⟩ | ⟨⟨t, ty, kit⟩, k⟩
    · obtain ⟨dy, a', pl', hy, _, _, hr4'⟩ := cy.at_
      have tyy : TyX K H (.ref y) (.ref C) := .base (.ins hy T.cl TI.cl TI.gt TI.tk TI.ob)
      refine ⟨_, rfl, .ref y, .ref C, _, _, true, rfl, .own C, tyy, by show (if (Value.ref C == Value.ref C) = true then _ else _) = _; rw [if_pos (by simp)], _, rfl, ?_⟩
      refine iteT ⟨_, rfl, _, rfl, .ref C, tyy, nf, x, dx, _, rfl, hx, x, y, sg, sg', rs, rs', r, r', rfl, cx, cy, ner, hn, hn', nd, nd', good', rows, few, fun H1 sm1 => ⟨_, rfl, _, rfl, ?_⟩⟩
      cases e1 : leR sg rs sg' rs' with
      | false =>
        have z := k H1 sm1
        unfold eqR at z
        rw [e1] at z
        exact iteF z
      | true =>
        refine iteT ⟨_, rfl, x, C, dx, _, _, rfl, sm1 _ _ hx, T.cl, T.n3, fl3 .., r, _, rfl, sm1 _ _ hr4, _, rfl, y, C, dy, _, _, rfl, sm1 _ _ hy, T.cl, T.n3, fl3 .., r', _, rfl, sm1 _ _ hr4', rfl, ?_⟩
        have eL : decide (V.int (((rs.map rowKv).length : Nat) : Int) = V.int (((rs'.map rowKv).length : Nat) : Int)) = decide (rs.length = rs'.length) := by
          rw [List.length_map, List.length_map]
          refine decide_eq_decide.mpr ⟨fun h => ?_, fun h => by rw [h]⟩
          injection h with h
          omega
        show Q (.bl (decide (V.int (((rs.map rowKv).length : Nat) : Int) = V.int (((rs'.map rowKv).length : Nat) : Int)))) H1
        rw [eL]
        have z := k H1 sm1
        unfold eqR at z
        rw [e1] at z
        exact z
    · exact ⟨_, rfl, v, .ref C, _, _, false, rfl, .own C, ty, kit, _, rfl, iteF (k H (Same.refl H))⟩
end
end K6
namespace K6
open PySem PySem.Spec PyProof.Rows L2 LamX NdefX EV
/-! ### things of any kind -/
inductive Thing (H : Hp) : V → Prop
  | str {z : Str} (f : Fit z) (l : z.length ≤ 40) : Thing H (.str z)
  | non : Thing H .non
  | bl (b : Bool) : Thing H (.bl b)
  | five : Thing H (.int 5)
  | tup {a : Addr} {z : Str} (h : H a = some (.tup [.str z])) (f : Fit z) (l : z.length ≤ 40) : Thing H (.ref a)
  | lst {a : Addr} {z : Str} (h : H a = some (.lst [.str z])) (f : Fit z) (l : z.length ≤ 40) : Thing H (.ref a)
  | dct {a : Addr} (h : H a = some (.dK [])) : Thing H (.ref a)
theorem Thing.frame {H H' : Hp} {v : V} (t : Thing H v) (k : ∀ a, v = .ref a → H' a = H a) : Thing H' v := by
  cases t with
  | str f l => exact .str f l
  | non => exact .non
  | bl b => exact .bl b
  | five => exact .five
  | tup h f l => exact .tup ((k _ rfl).trans h) f l
  | lst h f l => exact .lst ((k _ rfl).trans h) f l
  | dct h => exact .dct ((k _ rfl).trans h)
theorem Thing.at_ {H : Hp} {a : Addr} (t : Thing H (.ref a)) : ∃ o, H a = some o := by
  cases t with
  | tup h f l => exact ⟨_, h⟩
  | lst h f l => exact ⟨_, h⟩
  | dct h => exact ⟨_, h⟩
theorem Thing.same {H H' : Hp} {v : V} (t : Thing H v) (sm : Same H H') : Thing H' v := t.frame fun a e => by
  subst e
  obtain ⟨o, h⟩ := t.at_
  rw [h, sm _ _ h]
/-- its address, if there is one, was free -/
def New (H : Hp) (v : V) : Prop := ∀ a, v = .ref a → H a = none
theorem Thing.kept {H0 H H' : Hp} {S L : Addr} {v : V} (t : Thing H v) (n : New H0 v) (two : Two H0 S L) (k : Kept S L H H') : Thing H' v := t.frame fun a e => by
  subst e
  obtain ⟨o, h⟩ := t.at_
  obtain ⟨⟨_, g1⟩, ⟨_, g2⟩⟩ := two
  have nn := n a rfl
  rw [h, k _ _ h (fun q => by rw [q, g1] at nn; cases nn) (fun q => by rw [q, g2] at nn; cases nn)]
theorem Thing.put {H0 H : Hp} {D : Addr} {o u : HO} {v : V} (t : Thing H v) (n : New H0 v) (hD : H0 D = some u) : Thing (upd H D o) v := t.frame fun a e => by
  have nn := n a e
  exact upd_ne fun q => by rw [q, hD] at nn; cases nn
theorem New.str {H : Hp} {z : Str} : New H (.str z) := fun _ e => nomatch e
theorem New.kept {H0 H : Hp} {S L : Addr} {v : V} (n : New H v) (k : Kept S L H0 H) (two : Two H S L) : New H0 v := fun a e => by
  obtain ⟨⟨_, g1⟩, ⟨_, g2⟩⟩ := two
  have nn := n a e
  exact k.none nn (fun q => by rw [q, g1] at nn; cases nn) (fun q => by rw [q, g2] at nn; cases nn)
theorem New.same {H0 H : Hp} {v : V} (n : New H v) (k : Same H0 H) : New H0 v := fun a e => k.free (n a e)
/-- no text -/
def NoS (v : V) : Prop := ∀ z, v ≠ .str z
theorem Thing.noStr {K : PySem.W.Frag} {H : Hp} {v : V} (t : Thing H v) (n : NoS v) : ∃ t, (∀ H', Same H H' → TyX K H' v t) ∧ PySem.W.kitOne K t (.type "str") = some false := by
  cases t with
  | str f l => exact (n _ rfl).elim
  | non => exact ⟨_, fun _ _ => .base .non, kit_ty (by decide +kernel)⟩
  | bl b => exact ⟨_, fun _ _ => .base (.bl b), kit_ty (by decide +kernel)⟩
  | five => exact ⟨_, fun _ _ => .base (.int 5), kit_ty (by decide +kernel)⟩
  | tup h f l => exact ⟨_, fun _ sm => .base (.tup (sm _ _ h)), kit_ty (by decide +kernel)⟩
  | lst h f l => exact ⟨_, fun _ sm => .base (.lst (sm _ _ h)), kit_ty (by decide +kernel)⟩
  | dct h => exact ⟨_, fun _ sm => .base (.dK (sm _ _ h)), kit_ty (by decide +kernel)⟩
theorem fit_of {z : Str} (h : z.cps.toList.all (fun c => decide (c < 128)) = true) : Fit z := fun ch hc => by
  have := List.all_eq_true.mp h ch hc
  simpa using this
/-- a written text -/
theorem Thing.word {H : Hp} (z : Str) (h : z.cps.toList.all (fun c => decide (c < 128)) = true) (l : z.length ≤ 40) : Thing H (.str z) := .str (fit_of h) l
theorem Thing.strs {H : Hp} {z : Str} (t : Thing H (.str z)) : Fit z ∧ z.length ≤ 40 := by
  cases t with
  | str f l => exact ⟨f, l⟩
theorem v_cases (v : V) : NoS v ∨ ∃ z, v = .str z := by
  cases v with
  | str z => exact .inr ⟨z, rfl⟩
  | _ => exact .inl fun z q => nomatch q
/-! ### names that are looked through -/
inductive BadN (ns : List Str) : V → Prop
  | odd {x : V} (h : NoS x) : BadN ns x
  | no {z : Str} (h : ¬ Name1 z) : BadN ns (.str z)
  | twice {z : Str} (g : Name1 z) (h : z ∈ ns) : BadN ns (.str z)
inductive CutN : Option Nat → List V → Prop
  | ok {ns : List Str} (nd : ns.Nodup) (good : ∀ z ∈ ns, Name1 z) : CutN none (ns.map V.str)
  | bad {ns : List Str} {x : V} {rest : List V} (nd : ns.Nodup) (good : ∀ z ∈ ns, Name1 z) (b : BadN ns x) : CutN (some ns.length) (ns.map V.str ++ x :: rest)
theorem cutN_ex : ∀ (rest : List V) (ns : List Str), ns.Nodup → (∀ z ∈ ns, Name1 z) → ∃ o, CutN o (ns.map V.str ++ rest)
  | [], ns, nd, good => ⟨none, by rw [List.append_nil]; exact .ok nd good⟩
  | x :: rest, ns, nd, good => by
    rcases v_cases x with h | ⟨z, rfl⟩
    · exact ⟨_, .bad nd good (.odd h)⟩
    · rcases Classical.em (Name1 z) with g | g
      · by_cases m : z ∈ ns
        · exact ⟨_, .bad nd good (.twice g m)⟩
        · have nd2 : (ns ++ [z]).Nodup := List.nodup_append.mpr ⟨nd, by simp, fun a ha b hb e => m (by rw [← List.mem_singleton.mp hb, ← e]; exact ha)⟩
          obtain ⟨o, c⟩ := cutN_ex rest (ns ++ [z]) nd2 fun y hy => (List.mem_append.mp hy).elim (good y) fun q => by rw [List.mem_singleton.mp q]; exact g
          rw [List.map_append, List.append_assoc] at c
          exact ⟨o, c⟩
      · exact ⟨_, .bad nd good (.no g)⟩
theorem cutN (xs : List V) : ∃ o, CutN o xs := cutN_ex xs [] List.nodup_nil fun z h => nomatch h
/-! ### literals that are looked through -/
inductive BadQ (ns : List Str) (qs : List (Bool × Str)) : V → Prop
  | odd {x : V} (h : NoS x) : BadQ ns qs x
  | far {z : Str} (h : z ∉ lits ns) : BadQ ns qs (.str z)
  | twice {q : Bool × Str} (h : q.2 ∈ ns) (h2 : q.2 ∈ qs.map Prod.snd) : BadQ ns qs (.str (lit q))
inductive Cut (ns : List Str) : Option Nat → List V → Prop
  | ok {qs : List (Bool × Str)} (h : Lits ns qs) : Cut ns none ((qs.map lit).map V.str)
  | bad {qs : List (Bool × Str)} {x : V} {rest : List V} (h : Lits ns qs) (b : BadQ ns qs x) : Cut ns (some qs.length) ((qs.map lit).map V.str ++ x :: rest)
theorem lits_lit {ns : List Str} {z : Str} (h : z ∈ lits ns) : ∃ q : Bool × Str, q.2 ∈ ns ∧ lit q = z := by
  obtain ⟨n, hn, e⟩ := List.mem_flatMap.mp h
  rcases List.mem_cons.mp e with e | e
  · exact ⟨(false, n), hn, e.symm⟩
  · exact ⟨(true, n), hn, (List.mem_singleton.mp e).symm⟩
theorem cut_ex (ns : List Str) : ∀ (rest : List V) (qs : List (Bool × Str)), Lits ns qs → ∃ o, Cut ns o ((qs.map lit).map V.str ++ rest)
  | [], qs, h => ⟨none, by rw [List.append_nil]; exact .ok h⟩
  | x :: rest, qs, h => by
    rcases v_cases x with n | ⟨z, rfl⟩
    · exact ⟨_, .bad h (.odd n)⟩
    · by_cases m : z ∈ lits ns
      · obtain ⟨q, hq, rfl⟩ := lits_lit m
        by_cases m2 : q.2 ∈ qs.map Prod.snd
        · exact ⟨_, .bad h (.twice hq m2)⟩
        · have h2 : Lits ns (qs ++ [q]) := ⟨by rw [List.map_append]; exact List.nodup_append.mpr ⟨h.nd, by simp, fun a ha b hb e => m2 (by rw [List.map_singleton] at hb; rw [← List.mem_singleton.mp hb, ← e]; exact ha)⟩,
            fun y hy => (List.mem_append.mp hy).elim (h.sub y) fun w => by rw [List.mem_singleton.mp w]; exact hq⟩
          obtain ⟨o, c⟩ := cut_ex ns rest (qs ++ [q]) h2
          rw [List.map_append, List.map_append, List.append_assoc] at c
          exact ⟨o, c⟩
      · exact ⟨_, .bad h (.far m)⟩
theorem cut_of (ns : List Str) (xs : List V) : ∃ o, Cut ns o xs := cut_ex ns xs [] ⟨List.nodup_nil, fun q h => nomatch h⟩
/-- as the program's rules put it -/
theorem BadQ.badV {K : PySem.W.Frag} {H : Hp} {ns : List Str} {qs : List (Bool × Str)} {x : V} (b : BadQ ns qs x) (t : Thing H x) : BadV K H ns qs x := by
  cases b with
  | odd h =>
    obtain ⟨ty, h1, h2⟩ := t.noStr (K := K) h
    exact .odd ty h1 h2
  | far h => exact .far h
  | twice h h2 => exact .twice h h2
/-! ### what stands in a list of settings -/
inductive ItemAt (H : Hp) : V → Option (List V) → Prop
  | lst {p : Addr} {xs : List V} (h : H p = some (.lst xs)) (t : ∀ x ∈ xs, Thing H x) (few : xs.length ≤ 20) : ItemAt H (.ref p) (some xs)
  | tup {p : Addr} {xs : List V} (h : H p = some (.tup xs)) (t : ∀ x ∈ xs, Thing H x) (few : xs.length ≤ 20) : ItemAt H (.ref p) (some xs)
  | non : ItemAt H .non none
  | five : ItemAt H (.int 5) none
  | bl (b : Bool) : ItemAt H (.bl b) none
  | str {z : Str} : ItemAt H (.str z) none
  | dct {a : Addr} (h : H a = some (.dK [])) : ItemAt H (.ref a) none
theorem ItemAt.frame {H H' : Hp} {v : V} {io : Option (List V)} (i : ItemAt H v io) (k : ∀ a, v = .ref a → H' a = H a) (k2 : ∀ xs, io = some xs → ∀ x ∈ xs, Thing H x → Thing H' x) : ItemAt H' v io := by
  cases i with
  | lst h t few => exact .lst ((k _ rfl).trans h) (fun x hx => k2 _ rfl x hx (t x hx)) few
  | tup h t few => exact .tup ((k _ rfl).trans h) (fun x hx => k2 _ rfl x hx (t x hx)) few
  | non => exact .non
  | five => exact .five
  | bl b => exact .bl b
  | str => exact .str
  | dct h => exact .dct ((k _ rfl).trans h)
theorem ItemAt.at_ {H : Hp} {a : Addr} {io : Option (List V)} (i : ItemAt H (.ref a) io) : ∃ o, H a = some o := by
  cases i with
  | lst h t few => exact ⟨_, h⟩
  | tup h t few => exact ⟨_, h⟩
  | dct h => exact ⟨_, h⟩
theorem ItemAt.same {H H' : Hp} {v : V} {io : Option (List V)} (i : ItemAt H v io) (sm : Same H H') : ItemAt H' v io := i.frame (fun a e => by
  subst e
  obtain ⟨o, h⟩ := i.at_
  rw [h, sm _ _ h]) fun xs e x hx t => t.same sm
end K6
namespace K6
open PySem PySem.Spec PyProof.Rows L2 LamX NdefX EV
/-! ### is a thing a name, asked of any thing -/
theorem all_letters : ∀ ch ∈ letters.cps.toList, 97 ≤ ch ∧ ch ≤ 122 := by decide
def goodB (z : Str) : Bool := (z.cps.toList.map fun ch => decide (ch ∈ letters.cps.toList)).all id
theorem goodB_iff {z : Str} (h1 : 1 ≤ z.length) (h2 : z.length ≤ 8) : goodB z = true ↔ Name1 z := by
  unfold goodB
  rw [List.all_map]
  refine ⟨fun h => ⟨h1, h2, fun ch hc => ?_⟩, fun h => List.all_eq_true.mpr fun ch hc => ?_⟩
  · have z := List.all_eq_true.mp h ch hc
    exact all_letters ch (by simpa using z)
  · show decide (ch ∈ letters.cps.toList) = true
    exact decide_eq_true (in_letters (h.2.2 ch hc))
def spNameX : Sp := fun vs H Q _ => ∃ v : V, vs = [v] ∧ Thing H v ∧ ∀ (b : Bool) H', Same H H' → (b = true ↔ ∃ z, v = .str z ∧ Name1 z) → Q (.bl b) H'
theorem noS_name {v : V} (h : NoS v) : (false = true ↔ ∃ z, v = .str z ∧ Name1 z) := ⟨(fun e => nomatch e), fun ⟨z, e, _⟩ => (h z e).elim⟩
theorem str_name {z : Str} {b : Bool} (h : b = true ↔ Name1 z) : (b = true ↔ ∃ y, V.str z = .str y ∧ Name1 y) := by
  refine h.trans ⟨fun g => ⟨z, rfl, g⟩, fun ⟨y, e, g⟩ => ?_⟩
  injection e with e
  exact e ▸ g
section
variable {P : Program} {w : World} {K : PySem.W.Frag} {mg : Str → Option Value} {base : Heap} {f fI : Addr} {fd fdI : FuncData}
theorem ok_isNameX (F : Fun K "is_name" "is_name" sIsName f fd) (mi : mg "isinstance" = none) (ms : mg "str" = none) (ml : mg "len" = none) (ma : mg "all" = none) (mL : ∃ t, mg "LETTERS" = some (.str letters t)) (mM : ∃ t, mg "MOST_LETTERS" = some (.int 8 t)) :
    FnOk P w K mg base CX0 1 f fd ["thing"] spNameX := by
  obtain ⟨tL, mL⟩ := mL
  obtain ⟨tM, mM⟩ := mM
  refine F.ok scIsName (fun vs H Q E h => ?_) (fun cdv A outer s H vs Q E hr h => ?_)
  · obtain ⟨z, rfl, _⟩ := h
    rfl
  · obtain ⟨v, rfl, th, k⟩ := h
    refine ⟨_, pss_cons (ps_if (PW.pt (pw_or (pt_not (pt_val (pe_callB call_isi (by rfl) mi (by decide +kernel) (pa_cons (pv 0) (pa_cons (pe_bltn (v := .ty "str") (by rfl) ms (by decide +kernel) rfl) pa_nil))))) (pw_or1 (pt_not (pt_chain op_le op_le pe_int (pe_callB call_len (by rfl) ml PySem.boot_len (pa_cons (pv 0) pa_nil)) (pe_glob (v := .int 8) (by rfl) mM ⟨_, rfl⟩))))))
        (pss_one (ps_ret pe_bl)) pss_nil)
      (pss_one (ps_ret (pe_callB (cr_all rfl) (by rfl) ma (by decide +kernel) (pa_cons (pe_lc (own := [("letter", 1)]) (g := gName 1) (tt := tYes) rfl scIsName.nd (pi_str (pv 0)) (blkOk_by (N := nIsName) (sc := defScope sIsName) (by decide +kernel))
          (fun _ _ _ _ _ => pg_name (i := 1) scIsName.nd rfl (.inl rfl)) (fun _ _ _ _ _ => pts_nil) (fun _ _ _ _ _ => pe_cmpR op_in_sign (pv 1) (pe_glob (v := .str letters) (by rfl) mL ⟨_, rfl⟩) rfl)) pa_nil)))), ?_⟩
    rcases v_cases v with ns | ⟨z, rfl⟩
    · obtain ⟨t, ty, kit⟩ := th.noStr (K := K) ns
      exact ⟨_, rfl, _, _, _, _, false, rfl, .ty "str", ty H (Same.refl H), kit, _, rfl, iteT (k false H (Same.refl H) (noS_name ns))⟩
    obtain ⟨fit, l40⟩ := th.strs
    have lz : z.length ≤ sizeLine := by rw [sizeLine_eq]; omega
    refine ⟨_, rfl, _, _, _, _, true, rfl, .ty "str", .base (.str z), kit_ty (by decide +kernel), _, rfl, ?_⟩
    refine iteF ⟨_, rfl, _, z.length, rfl, ⟨lz, rfl⟩, ?_⟩
    refine ⟨_, _, rfl, rfl, _, rfl, ?_⟩
    by_cases c1 : (1 : Int) ≤ ((z.length : Nat) : Int)
    case neg =>
      rw [decide_eq_false c1]
      have no : false = true ↔ Name1 z := ⟨(fun e => nomatch e), fun g => (c1 (by have := g.1; omega)).elim⟩
      exact iteF ⟨_, rfl, iteT (k false H (Same.refl H) (str_name no))⟩
    rw [decide_eq_true c1]
    refine iteT ⟨_, _, rfl, rfl, _, rfl, ?_⟩
    by_cases c2 : ((z.length : Nat) : Int) ≤ 8
    case neg =>
      rw [decide_eq_false c2]
      exact iteT (k false H (Same.refl H) (str_name ⟨(fun e => nomatch e), fun g => (c2 (by have := g.2.1; omega)).elim⟩))
    rw [decide_eq_true c2]
    refine iteF ⟨_, rfl, z, rfl, fun D hD => lc_it walk_str (fun i H2 => Same H H2 ∧ H2 D = some (.lst (((z.cps.toList.take i).map fun ch => decide (ch ∈ letters.cps.toList)).map V.bl))) ⟨same_new hD, upd_same⟩ (fun _ _ _ _ => trivial) ?_ ?_⟩
    · rintro i x H2 H3 hi ⟨sm, hD2⟩ ⟨rfl, ch, hch, rfl⟩
      have hch2 : z.cps.toList[i]? = some ch := by rw [Array.getElem?_toList]; exact hch
      refine ⟨rfl, _, rfl, ch, letters, rfl, rfl, _, hD2, by rw [List.length_map, List.length_map, List.length_take, sizeLine_eq]; have : z.cps.toList.length = z.length := Array.length_toList; omega, fun b o e => (upd_ne (ne_of_none e hD)).trans (sm b o e), ?_⟩
      rw [upd_same, List.take_succ, hch2, List.map_append, List.map_append]
      rfl
    · rintro H2 ⟨sm, hD2⟩
      refine ⟨D, _, rfl, SqL.of hD2, ?_⟩
      have e : z.cps.toList.take z.cps.size = z.cps.toList := List.take_of_length_le (by rw [Array.length_toList]; exact Nat.le_refl _)
      rw [e]
      exact k _ H2 sm (str_name (goodB_iff (by omega) (by omega)))
abbrev nLN : List Str := ["_law_thing", "_law_letters", "_law_sign"]
theorem scLN : FnScope nLN ["_law_thing"] (defScope sLisName) := ⟨rfl, rfl, rfl, by decide +kernel, rfl, by decide +kernel, by decide +kernel⟩
theorem ok_lisName (F : Fun K "_law_is_name" "_law_is_name" sLisName f fd) (mi : mg "isinstance" = none) (ms : mg "str" = none) (ml : mg "len" = none) (ma : mg "all" = none) :
    FnOk P w K mg base CX0 1 f fd ["_law_thing"] spNameX := by
  refine F.ok scLN (fun vs H Q E h => ?_) (fun cdv A outer s H vs Q E hr h => ?_)
  · obtain ⟨z, rfl, _⟩ := h
    rfl
  · obtain ⟨v, rfl, th, k⟩ := h
    refine ⟨_, pss_cons (ps_set (i := 1) scLN.nd rfl (.inr rfl) pe_str)
      (pss_one (ps_ret (pe_and (pe_callB call_isi (by rfl) mi (by decide +kernel) (pa_cons (pv 0) (pa_cons (pe_bltn (v := .ty "str") (by rfl) ms (by decide +kernel) rfl) pa_nil)))
        (pe_and (pe_chain op_lt op_lt pe_int (pe_callB call_len (by rfl) ml PySem.boot_len (pa_cons (pv 0) pa_nil)) pe_int)
        (pe_one (pe_callB (cr_all rfl) (by rfl) ma (by decide +kernel) (pa_cons (pe_lc (own := [("_law_sign", 2)]) (g := gName 2) (tt := tYes) rfl scLN.nd (pi_str (pv 0)) (blkOk_by (N := nLN) (sc := defScope sLisName) (by decide +kernel))
          (fun _ _ _ _ _ => pg_name (i := 2) scLN.nd rfl (.inl rfl)) (fun _ _ _ _ _ => pts_nil) (fun _ _ _ _ _ => pe_cmpR op_in_sign (pv 2) (pv 1) rfl)) pa_nil))))))), ?_⟩
    rcases v_cases v with ns | ⟨z, rfl⟩
    · obtain ⟨t, ty, kit⟩ := th.noStr (K := K) ns
      exact ⟨_, rfl, _, _, _, _, false, rfl, .ty "str", ty H (Same.refl H), kit, _, rfl, iteF (k false H (Same.refl H) (noS_name ns))⟩
    obtain ⟨fit, l40⟩ := th.strs
    have lz : z.length ≤ sizeLine := by rw [sizeLine_eq]; omega
    refine ⟨_, rfl, _, _, _, _, true, rfl, .ty "str", .base (.str z), kit_ty (by decide +kernel), _, rfl, ?_⟩
    refine iteT ⟨_, rfl, _, z.length, rfl, ⟨lz, rfl⟩, ?_⟩
    refine ⟨_, _, rfl, rfl, _, rfl, ?_⟩
    by_cases c1 : (0 : Int) < ((z.length : Nat) : Int)
    case neg =>
      rw [decide_eq_false c1]
      exact iteF ⟨_, rfl, iteF (k false H (Same.refl H) (str_name ⟨(fun e => nomatch e), fun g => (c1 (by have := g.1; omega)).elim⟩))⟩
    rw [decide_eq_true c1]
    refine iteT ⟨_, _, rfl, rfl, _, rfl, ?_⟩
    by_cases c2 : ((z.length : Nat) : Int) < 9
    case neg =>
      rw [decide_eq_false c2]
      exact iteF (k false H (Same.refl H) (str_name ⟨(fun e => nomatch e), fun g => (c2 (by have := g.2.1; omega)).elim⟩))
    rw [decide_eq_true c2]
    refine iteT ⟨_, rfl, z, rfl, fun D hD => lc_it walk_str (fun i H2 => Same H H2 ∧ H2 D = some (.lst (((z.cps.toList.take i).map fun ch => decide (ch ∈ letters.cps.toList)).map V.bl))) ⟨same_new hD, upd_same⟩ (fun _ _ _ _ => trivial) ?_ ?_⟩
    · rintro i x H2 H3 hi ⟨sm, hD2⟩ ⟨rfl, ch, hch, rfl⟩
      have hch2 : z.cps.toList[i]? = some ch := by rw [Array.getElem?_toList]; exact hch
      refine ⟨rfl, _, rfl, _, rfl, ch, letters, rfl, rfl, _, hD2, by rw [List.length_map, List.length_map, List.length_take, sizeLine_eq]; have : z.cps.toList.length = z.length := Array.length_toList; omega, fun b o e => (upd_ne (ne_of_none e hD)).trans (sm b o e), ?_⟩
      rw [upd_same, List.take_succ, hch2, List.map_append, List.map_append]
      rfl
    · rintro H2 ⟨sm, hD2⟩
      refine ⟨D, _, rfl, SqL.of hD2, ?_⟩
      have e : z.cps.toList.take z.cps.size = z.cps.toList := List.take_of_length_le (by rw [Array.length_toList]; exact Nat.le_refl _)
      rw [e]
      exact k _ H2 sm (str_name (goodB_iff (by omega) (by omega)))
end
end K6
namespace K6
open PySem PySem.Spec PyProof.Rows L2 LamX NdefX EV
def oV : Option Nat → V
  | none => .non
  | some i => .int (i : Int)
theorem CutN.split {o : Option Nat} {xs : List V} (c : CutN o xs) : ∃ (ns : List Str) (tail : List V), ns.Nodup ∧ (∀ z ∈ ns, Name1 z) ∧ xs = ns.map V.str ++ tail ∧ (tail = [] → o = none) ∧ ∀ x rest, tail = x :: rest → o = some ns.length ∧ BadN ns x := by
  cases c with
  | @ok ns nd good => exact ⟨ns, [], nd, good, (List.append_nil _).symm, fun _ => rfl, fun _ _ e => nomatch e⟩
  | @bad ns x rest nd good b => exact ⟨ns, x :: rest, nd, good, rfl, (fun e => nomatch e), fun y r e => by injection e with e1 _; exact ⟨rfl, e1 ▸ b⟩⟩
theorem tail_at {α : Type} {ys tail : List α} {i : Nat} {v : α} (hi : ¬ i < ys.length) (ile : i ≤ ys.length) (h : (ys ++ tail)[i]? = some v) : i = ys.length ∧ ∃ rest, tail = v :: rest := by
  have e : i = ys.length := by omega
  refine ⟨e, ?_⟩
  rw [List.getElem?_append_right (by omega), e, Nat.sub_self] at h
  cases tail with
  | nil => cases h
  | cons y s => exact ⟨s, by rw [← Option.some.inj h]⟩
def spFirstBad (K : PySem.W.Frag) : Sp := fun vs H Q _ => ∃ (T : Addr) (b : Bool) (xs : List V) (o : Option Nat), vs = [.ref T] ∧ (∀ H', Same H H' → Sq K b H' T xs) ∧ (∀ x ∈ xs, Thing H x) ∧ CutN o xs ∧ xs.length ≤ 60 ∧ ∀ H', Same H H' → Q (oV o) H'
/-! ### errors of own classes: what is told -/
structure XT (K : PySem.W.Frag) (mg : Str → Option Value) (x fld : Str) (C fI : Addr) : Prop where
  ox : OexC K C
  xf : XfC K C
  ini : PySem.W.findIn K (.ref C) "__init__" = some (some (.ref fI))
  ty : PySem.W.typeIn K (.ref fI) = some (.type "function")
  n : PySem.W.findIn K (.ref C) fld = some none
  g : mg x = some (.ref C)
structure OT (K : PySem.W.Frag) (mg : Str → Option Value) (O : Addr) : Prop where
  r : ClX.CRead K O (.type "type")
  v : PySem.W.findCls K (.ref O) (.type "type") "__init__" = some (.val (.builtin "ValueError.__init__"))
  g : mg "OpenError" = some (.ref O)
def spI1 (K : PySem.W.Frag) (f : Str) : Sp := fun vs H Q _ => ∃ (a C : Addr) (x : V), vs = [.ref a, x] ∧ OexC K C ∧ PySem.W.findIn K (.ref C) f = some none ∧ H a = some (exo a C none) ∧
  ∀ dx, H dx = none → dx ≠ a → Q .non (upd (upd H dx (exd dx [(f, x)])) a (exo a C (some dx)))
/-- the way out: an error of C with this field -/
def Told (C : Addr) (fld : Str) (x : V) (H : Hp) (E : XK) : Prop := ∀ (d : Addr) (H' : Hp), H' d = some (.xd [(fld, x)]) → Same H H' → E (.ref C) (some d) H'
theorem Told.of {C : Addr} {fld : Str} {x : V} {H H' : Hp} {E : XK} (t : Told C fld x H E) (sm : Same H H') : Told C fld x H' E := fun d H2 h s2 => t d H2 h (sm.trans s2)
/-- what the making of the error leaves -/
theorem way_same {H : Hp} {a dx : Addr} {o1 o2 o3 o4 : HO} (ha : H a = none) (hdx : upd H a o1 dx = none) (nda : dx ≠ a) : Same H (upd (del (upd (upd (upd H a o1) dx o2) a o3) a) dx o4) := fun z o h => by
  have na : z ≠ a := ne_of_none h ha
  have nd : z ≠ dx := ne_of_none h ((upd_ne nda).symm.trans hdx)
  rw [upd_ne nd, del_ne na, upd_ne na, upd_ne nd, upd_ne na]
  exact h
theorem funE_okX {P : Program} {w : World} {K : PySem.W.Frag} {mg : Str → Option Value} {base : Heap} {x q : Str} {st : Stmt} {f A0 : Addr} {fd : FuncData} {N ps : List Str} {k : Nat} {sp : Sp} (F : FunE K x q st f fd A0) (S : FnScope N ps (defScope st)) (len : ∀ vs H Q E, sp vs H Q E → vs.length = ps.length)
    (b : ∀ (cdv : Value) (A : Around) (outer : List Env) (s : Shared) (H : Hp) (vs : List V) (Q : VK) (E : XK), Room k (A.deeper (envOfC q (defScope st) s.heap.objs.size f cdv)) → sp vs H Q E →
      ∃ t, PSs (cxOf (L2.CX P w) P w K mg base N q (defScope st) f cdv A outer s H E) (defBody st) t ∧ t { nx := fun _ H' => Q .non H', rt := Q } (L2.start N vs) H) : FnOk P w K mg base (L2.CX P w) (k + 1) f fd ps sp := by
  obtain ⟨oc, od, dV, kV, doc, pm, an, cdv, ct, osl, rfl, lk, hcd, _⟩ := F.fn.ex
  exact fn_of lk hcd S len fun A outer s H vs Q E hr hsp => b cdv A outer s H vs Q E hr hsp
section
variable {P : Program} {w : World} {K : PySem.W.Frag} {mg : Str → Option Value} {base : Heap} {f fI fJ O C : Addr} {fd fdI fdJ : FuncData}
abbrev sIN : Stmt := inClass (top 3) 0
theorem scIN : FnScope ["self", "index"] ["self", "index"] (defScope sIN) := ⟨rfl, rfl, rfl, by decide +kernel, rfl, by decide +kernel, by decide +kernel⟩
theorem ok_iN (F : Fun K "__init__" "BadNames.__init__" sIN f fd) (T : OT K mg O) : FnOk P w K mg base CX0 1 f fd ["self", "index"] (spI1 K "index") := by
  refine F.ok scIN (fun vs H Q E h => ?_) (fun cdv A outer s H vs Q E hr h => ?_)
  · obtain ⟨a, C, x, rfl, _⟩ := h
    rfl
  · obtain ⟨a, C, x, rfl, X0, n1, ha, k⟩ := h
    refine ⟨_, pss_cons (ps_expr (pe_binit T.r T.v (by rfl) T.g (pa_cons (pv 0) (pa_cons pe_str pa_nil)))) (pss_one (ps_ost (pv 0) (pv 1))), _, rfl, a, C, _, rfl, (by show 1 ≤ 1000; decide), X0, ha, ?_⟩
    exact ⟨_, rfl, _, rfl, a, C, rfl, X0, n1, .inl ⟨ha, k⟩⟩
abbrev sIM : Stmt := inClass (top 4) 0
theorem scIM : FnScope ["self", "n"] ["self", "n"] (defScope sIM) := ⟨rfl, rfl, rfl, by decide +kernel, rfl, by decide +kernel, by decide +kernel⟩
theorem ok_iM (F : Fun K "__init__" "TooMany.__init__" sIM f fd) (T : OT K mg O) : FnOk P w K mg base CX0 1 f fd ["self", "n"] (spI1 K "n") := by
  refine F.ok scIM (fun vs H Q E h => ?_) (fun cdv A outer s H vs Q E hr h => ?_)
  · obtain ⟨a, C, x, rfl, _⟩ := h
    rfl
  · obtain ⟨a, C, x, rfl, X0, n1, ha, k⟩ := h
    refine ⟨_, pss_cons (ps_expr (pe_binit T.r T.v (by rfl) T.g (pa_cons (pv 0) (pa_cons pe_str pa_nil)))) (pss_one (ps_ost (pv 0) (pv 1))), _, rfl, a, C, _, rfl, (by show 1 ≤ 1000; decide), X0, ha, ?_⟩
    exact ⟨_, rfl, _, rfl, a, C, rfl, X0, n1, .inl ⟨ha, k⟩⟩
abbrev sIB : Stmt := inClass (top 5) 0
theorem scIB : FnScope ["self", "index"] ["self", "index"] (defScope sIB) := ⟨rfl, rfl, rfl, by decide +kernel, rfl, by decide +kernel, by decide +kernel⟩
theorem ok_iB (F : Fun K "__init__" "BadSetting.__init__" sIB f fd) (T : OT K mg O) : FnOk P w K mg base CX0 1 f fd ["self", "index"] (spI1 K "index") := by
  refine F.ok scIB (fun vs H Q E h => ?_) (fun cdv A outer s H vs Q E hr h => ?_)
  · obtain ⟨a, C, x, rfl, _⟩ := h
    rfl
  · obtain ⟨a, C, x, rfl, X0, n1, ha, k⟩ := h
    refine ⟨_, pss_cons (ps_expr (pe_binit T.r T.v (by rfl) T.g (pa_cons (pv 0) (pa_cons pe_str pa_nil)))) (pss_one (ps_ost (pv 0) (pv 1))), _, rfl, a, C, _, rfl, (by show 1 ≤ 1000; decide), X0, ha, ?_⟩
    exact ⟨_, rfl, _, rfl, a, C, rfl, X0, n1, .inl ⟨ha, k⟩⟩
abbrev sIG : Stmt := inClass (top 6) 0
theorem scIG : FnScope ["self", "name"] ["self", "name"] (defScope sIG) := ⟨rfl, rfl, rfl, by decide +kernel, rfl, by decide +kernel, by decide +kernel⟩
theorem ok_iG (F : Fun K "__init__" "NoSign.__init__" sIG f fd) (T : OT K mg O) : FnOk P w K mg base CX0 1 f fd ["self", "name"] (spI1 K "name") := by
  refine F.ok scIG (fun vs H Q E h => ?_) (fun cdv A outer s H vs Q E hr h => ?_)
  · obtain ⟨a, C, x, rfl, _⟩ := h
    rfl
  · obtain ⟨a, C, x, rfl, X0, n1, ha, k⟩ := h
    refine ⟨_, pss_cons (ps_expr (pe_binit T.r T.v (by rfl) T.g (pa_cons (pv 0) (pa_cons pe_str pa_nil)))) (pss_one (ps_ost (pv 0) (pv 1))), _, rfl, a, C, _, rfl, (by show 1 ≤ 1000; decide), X0, ha, ?_⟩
    exact ⟨_, rfl, _, rfl, a, C, rfl, X0, n1, .inl ⟨ha, k⟩⟩
abbrev nFB : List Str := ["_law_things", "_law_met", "_law_index", "_law_thing"]
theorem scFB : FnScope nFB ["_law_things"] (defScope sFirstBad) := ⟨rfl, rfl, rfl, by decide +kernel, rfl, by decide +kernel, by decide +kernel⟩
theorem ok_firstBad (F : Fun K "_law_first_bad" "_law_first_bad" sFirstBad f fd) (GI : FnOk P w K mg base CX0 1 fI fdI ["_law_thing"] spNameX) (mI : mg "_law_is_name" = some (.ref fI)) (kI : PySem.W.keepIn K (.ref fI) = true) (bI : L2.Binds K fdI ["_law_thing"] []) (me : mg "enumerate" = none) :
    FnOk P w K mg base CX0 2 f fd ["_law_things"] (spFirstBad K) := by
  refine F.ok scFB (fun vs H Q E h => ?_) (fun cdv A' outer s H vs Q E hr h => ?_)
  · obtain ⟨T, b, xs, o, rfl, _⟩ := h
    rfl
  · obtain ⟨T, b, xs, o, rfl, hT, th, cut, few, k⟩ := h
    refine ⟨_, pss_cons (ps_set (i := 1) scFB.nd rfl (.inl rfl) (pe_lst pa_nil))
      (pss_cons (ps_for PassesOwn.never rfl (pi_enumB (by rfl) me (pa_cons (pv 0) pa_nil)) (pg_tup rfl (pgs_cons (pg_name (i := 2) scFB.nd rfl (.inl rfl)) (pgs_cons (pg_name (i := 3) scFB.nd rfl (.inl rfl)) pgs_nil)))
        (pss_cons (ps_if (PW.pt (pw_or (pt_not (pt_val (pe_call GI hr (by rfl) mI kI bI .nil pass0 (pa_cons (pv 3) pa_nil)))) (pw_or1 (pt_cmpR op_in_seq (pv 3) (pv 1) rfl)))) (pss_one (ps_ret (pv 2))) pss_nil)
        (pss_one (ps_expr (pe_bm PySem.F.plainAttrs_list PySem.F.slot_list_append PySem.F.type_list_append mt_append (pv 1) (pa_cons (pv 3) pa_nil))))))
      (pss_one (ps_ret pe_non))), ?_⟩
    obtain ⟨ns, tail, nd, good, rfl, h1, h2⟩ := cut.split
    have ll : (ns.map V.str).length = ns.length := List.length_map _
    rw [List.length_append, ll] at few
    refine ⟨Nat.zero_le _, fun d hd => ⟨_, rfl, b, T, _, rfl, hT _ (same_new hd), for_it walk_enumB (fun i σ H2 => ∃ o2 o3, σ = [some (.ref T), some (.ref d), o2, o3] ∧ i ≤ ns.length ∧ Same H H2 ∧ H2 d = some (.lst ((ns.take i).map V.str))) ⟨_, _, rfl, Nat.zero_le _, same_new hd, upd_same⟩ (fun i σ H2 _ ⟨_, _, _, _, sm, _⟩ => hT _ sm) ?_ ?_⟩⟩
    · rintro i x σ H2 H3 hi ⟨o2, o3, rfl, ile, sm, hd2⟩ ⟨t, v1, v2, rfl, ht, rfl, hv1, hv2⟩
      obtain rfl := Option.some.inj hv1
      replace hv2 : (ns.map V.str ++ tail)[i]? = some v2 := hv2
      have sm3 : Same H (upd H2 t (.tup [.int (i : Nat), v2])) := sm.trans (same_new ht)
      have hd3 := (same_new (o := .tup [.int (i : Nat), v2]) ht) _ _ hd2
      have tv : Thing (upd H2 t (.tup [.int (i : Nat), v2])) v2 := (th v2 (List.mem_of_getElem? hv2)).same sm3
      refine ⟨t, _, rfl, SqT.of upd_same, rfl, _, _, rfl, _, _, rfl, rfl, _, rfl, v2, rfl, tv, fun bb H4 sm4 iff => ⟨_, rfl, ?_⟩⟩
      have sm04 := sm3.trans sm4
      have hd4 := sm4 _ _ hd3
      by_cases ilt : i < ns.length
      · obtain ⟨n, hn⟩ : ∃ n, ns[i]? = some n := ⟨_, List.getElem?_eq_getElem ilt⟩
        have ev : v2 = .str n := by
          rw [List.getElem?_append_left (by rw [ll]; exact ilt), List.getElem?_map, hn] at hv2
          exact (Option.some.inj hv2).symm
        subst ev
        have fresh := not_before nd hn
        rw [iff.mpr ⟨n, rfl, good n (List.mem_of_getElem? hn)⟩]
        refine iteF ⟨_, rfl, _, rfl, d, _, rfl, .inl (SqL.of hd4), rfl, flat_str _, _, rfl, ?_⟩
        rw [if_neg (by decide), inV_str, decide_eq_false fresh]
        refine iteF ⟨_, rfl, .inl ⟨rfl, _, SqL.of hd4⟩, _, rfl, d, _, _, rfl, rfl, hd4, by rw [List.length_map, List.length_take, sizeLine_eq]; omega, _, _, rfl, ilt, fun c o h => (upd_ne (ne_of_none h hd)).trans (sm04 c o h), ?_⟩
        rw [upd_same, List.take_succ, hn, List.map_append]
        rfl
      · obtain ⟨ie, rest, et⟩ := tail_at (ys := ns.map V.str) (by rw [ll]; exact ilt) (by rw [ll]; exact ile) hv2
        rw [ll] at ie
        obtain ⟨er, bad⟩ := h2 v2 rest et
        have fin : Q (.int (i : Int)) H4 := by
          have z := k H4 sm04
          rw [er, ← ie] at z
          exact z
        have no : (¬ ∃ z, v2 = .str z ∧ Name1 z) → bb = false := fun q => by
          cases bb with
          | true => exact (q (iff.mp rfl)).elim
          | false => rfl
        cases bad with
        | odd h => 
          rw [no fun ⟨z, e, _⟩ => h z e]
          exact iteT ⟨_, rfl, fin⟩
        | @no z h =>
          rw [no fun ⟨y, e, g⟩ => h (by injection e with e; exact e ▸ g)]
          exact iteT ⟨_, rfl, fin⟩
        | @twice z g h =>
          rw [iff.mpr ⟨z, rfl, g⟩]
          refine iteF ⟨_, rfl, _, rfl, d, _, rfl, .inl (SqL.of hd4), rfl, flat_str _, _, rfl, ?_⟩
          rw [if_neg (by decide), inV_str, ie, List.take_length, decide_eq_true h]
          exact iteT ⟨_, rfl, ie ▸ fin⟩
    · rintro σ H2 ⟨o2, o3, rfl, ile, sm, hd2⟩
      rw [List.length_append, ll] at ile
      have z := k H2 sm
      rw [h1 (List.eq_nil_of_length_eq_zero (by omega))] at z
      exact z
def spChkX (K : PySem.W.Frag) (C : Addr) : Sp := fun vs H _ E => ∃ (T U : Addr) (b c : Bool) (xs : List V) (i : Nat), vs = [.ref T, .ref U] ∧ (∀ H', Same H H' → Sq K b H' T xs) ∧ (∀ H', Same H H' → Sq K c H' U []) ∧ (∀ x ∈ xs, Thing H x) ∧ CutN (some i) xs ∧ xs.length ≤ 60 ∧ Told C "index" (.int (i : Int)) H E
theorem ok_chkX {A0 : Addr} (F : FunE K "check_names" "check_names" sChkNames f fd A0) (X : XT K mg "BadNames" "index" C fJ) (GJ : FnOk P w K mg base CX0 1 fJ fdJ ["self", "index"] (spI1 K "index")) (bJ : L2.Binds K fdJ ["self", "index"] [])
    (GI : FnOk P w K mg base CX0 1 fI fdI ["thing"] spNameX) (mI : mg "is_name" = some (.ref fI)) (kI : PySem.W.keepIn K (.ref fI) = true) (bI : L2.Binds K fdI ["thing"] []) (me : mg "enumerate" = none) :
    FnOk P w K mg base (L2.CX P w) 3 f fd ["things", "taken"] (spChkX K C) := by
  refine funE_okX F scChk (fun vs H Q E h => ?_) (fun cdv A outer s H vs Q E hr h => ?_)
  · obtain ⟨T, U, b, c, xs, i, rfl, _⟩ := h
    rfl
  · obtain ⟨T, U, b, c, xs, i0, rfl, hT', hU', th, cut, few, told⟩ := h
    have hu := hu_of hr
    have hr1 : Room 1 _ := hr.mono (by decide)
    refine ⟨_, pss_cons (ps_set (i := 2) scChk.nd rfl (.inl rfl) pe_dnewK)
      (pss_cons (ps_for (passes_of rfl) rfl (pi_seq (pv 1)) (pg_name (i := 3) scChk.nd rfl (.inl rfl)) (pss_one (ps_dput hu (pv 2) (pv 3) pe_bl rfl)))
      (pss_one (ps_for (passes_of rfl) rfl (pi_enumB (by rfl) me (pa_cons (pv 0) pa_nil)) (pg_tup rfl (pgs_cons (pg_name (i := 4) scChk.nd rfl (.inl rfl)) (pgs_cons (pg_name (i := 5) scChk.nd rfl (.inl rfl)) pgs_nil)))
        (pss_cons (ps_if (PW.pt (pw_or (pt_not (pt_val (pe_call GI hr1 (by rfl) mI kI bI .nil pass0 (pa_cons (pv 5) pa_nil)))) (pw_or1 (pt_cmp (pc_din hu (pv 5) (pv 2))))))
          (pss_one (ps_raise rfl (takes_of rfl rfl rfl rfl) (pmk_oex X.ox X.ini X.ty GJ hr bJ .nil pass0 (by rfl) X.g (pa_cons (pv 4) pa_nil)))) pss_nil)
        (pss_one (ps_dput hu (pv 2) (pv 5) pe_bl rfl)))))), ?_⟩
    obtain ⟨ns, tail, nd, good, rfl, h1, h2⟩ := cut.split
    have ll : (ns.map V.str).length = ns.length := List.length_map _
    rw [List.length_append, ll] at few
    refine fun d hd => ⟨_, rfl, c, U, _, rfl, hU' _ (same_new hd), for_it walk_sq (fun i σ H2 => ∃ o3 o4 o5, σ = [some (.ref T), some (.ref U), some (.ref d), o3, o4, o5] ∧ Same H H2 ∧ H2 d = some (.dK [])) ⟨_, _, _, rfl, same_new hd, upd_same⟩ (fun i σ H2 _ ⟨_, _, _, _, sm, _⟩ => hU' _ sm) (fun i x σ H2 H3 hi => absurd hi (Nat.not_lt_zero i)) ?_⟩
    rintro σ H2 ⟨o3, o4, o5, rfl, sm, hd2⟩
    refine ⟨_, rfl, b, T, _, rfl, hT' _ sm, for_it walk_enumB (fun i σ H3 => ∃ o3 o4 o5, σ = [some (.ref T), some (.ref U), some (.ref d), o3, o4, o5] ∧ i ≤ ns.length ∧ Same H H3 ∧ H3 d = some (.dK ((ns.take i).map seenKv))) ⟨_, _, _, rfl, Nat.zero_le _, sm, hd2⟩ (fun i σ H2 _ ⟨_, _, _, _, _, sm, _⟩ => hT' _ sm) ?_ ?_⟩
    · rintro i x σ H2 H3 hi ⟨o3, o4, o5, rfl, ile, sm, hd2⟩ ⟨t, v1, v2, rfl, ht, rfl, hv1, hv2⟩
      obtain rfl := Option.some.inj hv1
      replace hv2 : (ns.map V.str ++ tail)[i]? = some v2 := hv2
      have sm3 : Same H (upd H2 t (.tup [.int (i : Nat), v2])) := sm.trans (same_new ht)
      have hd3 := (same_new (o := .tup [.int (i : Nat), v2]) ht) _ _ hd2
      have tv : Thing (upd H2 t (.tup [.int (i : Nat), v2])) v2 := (th v2 (List.mem_of_getElem? hv2)).same sm3
      refine ⟨t, _, rfl, SqT.of upd_same, rfl, _, _, rfl, _, _, rfl, rfl, _, rfl, v2, rfl, tv, fun bb H4 sm4 iff => ⟨_, rfl, ?_⟩⟩
      have sm04 := sm3.trans sm4
      have hd4 := sm4 _ _ hd3
      by_cases ilt : i < ns.length
      · obtain ⟨n, hn⟩ : ∃ n, ns[i]? = some n := ⟨_, List.getElem?_eq_getElem ilt⟩
        have ev : v2 = .str n := by
          rw [List.getElem?_append_left (by rw [ll]; exact ilt), List.getElem?_map, hn] at hv2
          exact (Option.some.inj hv2).symm
        subst ev
        have fresh := not_before nd hn
        have g : DGet H4 d (.str n) none := by
          have z := DGet.k (k := Sum.inr n) hd4
          rwa [seen_none _ fresh] at z
        rw [iff.mpr ⟨n, rfl, good n (List.mem_of_getElem? hn)⟩]
        refine iteF ⟨_, rfl, _, rfl, d, _, rfl, g, _, rfl, iteF ?_⟩
        refine ⟨_, rfl, _, rfl, d, _, rfl, DPut.k (k := Sum.inr n) hd4 (by rw [List.length_map, List.length_take, sizeLine_eq]; omega), _, _, _, rfl, ilt, fun c o h => (upd_ne (ne_of_none h hd)).trans (sm04 _ _ h), ?_⟩
        rw [upd_same, putK_new (seen_none _ fresh), List.take_succ, hn, List.map_append]
        rfl
      · obtain ⟨ie, rest, et⟩ := tail_at (ys := ns.map V.str) (by rw [ll]; exact ilt) (by rw [ll]; exact ile) hv2
        rw [ll] at ie
        obtain ⟨er, bad⟩ := h2 v2 rest et
        have ei : i0 = i := by rw [ie]; exact Option.some.inj er
        have no : (¬ ∃ z, v2 = .str z ∧ Name1 z) → bb = false := fun q => by
          cases bb with
          | true => exact (q (iff.mp rfl)).elim
          | false => rfl
        have t4 := told.of sm04
        rw [ei] at t4
        cases bad with
        | odd h =>
          rw [no fun ⟨z, e, _⟩ => h z e]
          exact iteT ⟨_, rfl, by show 1 ≤ 1000; decide, fun a ha => ⟨a, C, _, rfl, X.ox, X.n, upd_same, fun dx hdx nda => ⟨rfl, dx, _, upd_same, (upd_ne nda).trans upd_same, (upd_ne nda).symm.trans hdx, t4 dx _ upd_same (way_same ha hdx nda)⟩⟩⟩
        | @no z h =>
          rw [no fun ⟨y, e, g⟩ => h (by injection e with e; exact e ▸ g)]
          exact iteT ⟨_, rfl, by show 1 ≤ 1000; decide, fun a ha => ⟨a, C, _, rfl, X.ox, X.n, upd_same, fun dx hdx nda => ⟨rfl, dx, _, upd_same, (upd_ne nda).trans upd_same, (upd_ne nda).symm.trans hdx, t4 dx _ upd_same (way_same ha hdx nda)⟩⟩⟩
        | @twice z g h =>
          have gd : DGet H4 d (.str z) (some (.bl true)) := by
            have y := DGet.k (k := Sum.inr z) hd4
            rwa [ie, List.take_length, seen_some _ h] at y
          rw [iff.mpr ⟨z, rfl, g⟩]
          exact iteF ⟨_, rfl, _, rfl, d, _, rfl, gd, _, rfl, iteT ⟨_, rfl, by show 1 ≤ 1000; decide, fun a ha => ⟨a, C, _, rfl, X.ox, X.n, upd_same, fun dx hdx nda => ⟨rfl, dx, _, upd_same, (upd_ne nda).trans upd_same, (upd_ne nda).symm.trans hdx, t4 dx _ upd_same (way_same ha hdx nda)⟩⟩⟩⟩
    · rintro σ H2 ⟨o3, o4, o5, rfl, ile, sm, hd2⟩
      rw [List.length_append, ll] at ile
      have z := h1 (List.eq_nil_of_length_eq_zero (by omega))
      cases z
end
end K6
namespace K6
open PySem PySem.Spec PyProof.Rows L2 LamX NdefX EV
/-! ### the name of any text -/
def bareS (z : Str) : Str := if cutS z none (some 1) = Str.ofString "-" then cutS z (some 1) none else z
theorem cut_one (z : Str) : cutS z none (some 1) = Str.mk ((z.cps.toList.take 1).toArray) := by
  unfold cutS
  rw [HT.sIx_none, show HT.sIx z.length z.length (some 1) = min 1 z.length from HT.sIx_nat _ _ 1, List.drop_zero, Nat.sub_zero]
  by_cases h : 1 ≤ z.length
  · rw [Nat.min_eq_left h]
  · have e : z.cps.toList = [] := List.eq_nil_of_length_eq_zero (by have : z.cps.toList.length = z.length := Array.length_toList; omega)
    rw [e]
    simp
theorem dash_neg {z : Str} (h : cutS z none (some 1) = Str.ofString "-") : ∃ n, z = neg n := by
  rw [cut_one] at h
  have h2 := congrArg (fun s : Str => s.cps.toList) h
  replace h2 : ((z.cps.toList.take 1).toArray).toList = [45] := h2
  rw [List.toList_toArray] at h2
  cases e : z.cps.toList with
  | nil => rw [e] at h2; cases h2
  | cons c t =>
    rw [e] at h2
    have c45 : c = 45 := by simpa using h2
    refine ⟨⟨t.toArray⟩, ?_⟩
    have : z.cps = (neg ⟨t.toArray⟩).cps := by
      apply Array.toList_inj.mp
      rw [neg_list, e, c45]
    cases z
    exact congrArg Str.mk this
theorem dash_lit {q : Bool × Str} (g : Name1 q.2) : cutS (lit q) none (some 1) = Str.ofString "-" ↔ q.1 = true := by
  obtain ⟨b, n⟩ := q
  cases b
  · refine ⟨fun h => ?_, fun h => nomatch h⟩
    obtain ⟨m, e⟩ := dash_neg h
    have e : n = neg m := e
    have z := g.2.2 45 (by show 45 ∈ n.cps.toList; rw [e, neg_list]; exact List.mem_cons_self)
    omega
  · refine ⟨fun _ => rfl, fun _ => ?_⟩
    rw [cut_one, show lit (true, n) = neg n from rfl, neg_list]
    rfl
theorem bareS_lit {q : Bool × Str} (g : Name1 q.2) : bareS (lit q) = q.2 := by
  obtain ⟨b, n⟩ := q
  unfold bareS
  cases b
  · rw [if_neg fun h => Bool.noConfusion ((dash_lit g).mp h)]
    rfl
  · rw [if_pos ((dash_lit (q := (true, n)) g).mpr rfl)]
    exact cut_neg n
theorem bareS_far {ns : List Str} {z : Str} (h : z ∉ lits ns) : bareS z ∉ ns := fun m => by
  unfold bareS at m
  by_cases c : cutS z none (some 1) = Str.ofString "-"
  · rw [if_pos c] at m
    obtain ⟨n, rfl⟩ := dash_neg c
    rw [cut_neg] at m
    exact h (lit_mem (q := (true, n)) m)
  · rw [if_neg c] at m
    exact h (lit_mem (q := (false, z)) m)
def spBareX : Sp := fun vs H Q _ => ∃ z : Str, vs = [.str z] ∧ z.length ≤ 60 ∧ Q (.str (bareS z)) H
theorem Cut.split {ns : List Str} {o : Option Nat} {xs : List V} (c : Cut ns o xs) : ∃ (qs : List (Bool × Str)) (tail : List V), Lits ns qs ∧ xs = (qs.map lit).map V.str ++ tail ∧ (tail = [] → o = none) ∧ ∀ x rest, tail = x :: rest → o = some qs.length ∧ BadQ ns qs x := by
  cases c with
  | @ok qs h => exact ⟨qs, [], h, (List.append_nil _).symm, fun _ => rfl, fun _ _ e => nomatch e⟩
  | @bad qs x rest h b => exact ⟨qs, x :: rest, h, rfl, (fun e => nomatch e), fun y r e => by injection e with e1 _; exact ⟨rfl, e1 ▸ b⟩⟩
theorem Lits.few {ns : List Str} {qs : List (Bool × Str)} (h : Lits ns qs) : qs.length ≤ ns.length := by
  have z := nodup_le (qs.map Prod.snd) ns h.nd fun n hn => by
    obtain ⟨q, hq', rfl⟩ := List.mem_map.mp hn
    exact h.sub q hq'
  rwa [List.length_map] at z
/-- the answer: where a thing is no half-filled setting -/
def CutI (ns : List Str) : Option (List V) → Option Nat → Prop
  | none, o => o = some 0
  | some xs, o => Cut ns o xs
theorem cutI (ns : List Str) (io : Option (List V)) : ∃ o, CutI ns io o := by
  cases io with
  | none => exact ⟨_, rfl⟩
  | some xs => exact cut_of ns xs
theorem ItemAt.kit {K : PySem.W.Frag} {H : Hp} {v : V} {io : Option (List V)} (h : ItemAt H v io) : ∃ t, (∀ H', Same H H' → TyX K H' v t) ∧ PySem.W.kitAny K t [.type "list", .type "tuple"] = some io.isSome := by
  have no : ∀ {a : String}, kitB a "list" = some false → kitB a "tuple" = some false → PySem.W.kitAny K (.type a) [.type "list", .type "tuple"] = some false := fun h1 h2 =>
    kitAny_cons (b := false) (kit_ty h1) (fun _ => kitAny_cons (b := false) (kit_ty h2) (fun _ => rfl) fun z => nomatch z) (fun z => nomatch z)
  cases h with
  | lst h t few => exact ⟨.type "list", fun _ sm => .base (.lst (sm _ _ h)), kit_seq true⟩
  | tup h t few => exact ⟨.type "tuple", fun _ sm => .base (.tup (sm _ _ h)), kit_seq false⟩
  | non => exact ⟨_, fun _ _ => .base .non, no (by decide +kernel) (by decide +kernel)⟩
  | five => exact ⟨_, fun _ _ => .base (.int 5), no (by decide +kernel) (by decide +kernel)⟩
  | bl b => exact ⟨_, fun _ _ => .base (.bl b), no (by decide +kernel) (by decide +kernel)⟩
  | str => exact ⟨_, fun _ _ => .base (.str _), no (by decide +kernel) (by decide +kernel)⟩
  | dct h => exact ⟨_, fun _ sm => .base (.dK (sm _ _ h)), no (by decide +kernel) (by decide +kernel)⟩
theorem ItemAt.seq {K : PySem.W.Frag} {H : Hp} {v : V} {xs : List V} (h : ItemAt H v (some xs)) : ∃ (A : Addr) (b : Bool), v = .ref A ∧ (∀ H', Same H H' → Sq K b H' A xs) ∧ (∀ x ∈ xs, Thing H x) ∧ xs.length ≤ 20 := by
  cases h with
  | lst h t few => exact ⟨_, true, rfl, fun _ sm => SqL.of (sm _ _ h), t, few⟩
  | tup h t few => exact ⟨_, false, rfl, fun _ sm => Sq.tup (sm _ _ h), t, few⟩
def spFirstOdd (K : PySem.W.Frag) : Sp := fun vs H Q _ => ∃ (x : V) (T : Addr) (ns : List Str) (io : Option (List V)) (o : Option Nat), vs = [x, .ref T] ∧ (∀ H', Same H H' → SqL K H' T (ns.map V.str)) ∧ ns.length ≤ 60 ∧ (∀ z ∈ ns, Name1 z) ∧ ItemAt H x io ∧ CutI ns io o ∧ ∀ H', Same H H' → Q (oV o) H'
def spWrongX (K : PySem.W.Frag) : Sp := fun vs H Q _ => ∃ (PL A : Addr) (b : Bool) (ns : List Str) (xs : List V) (o : Option Nat), vs = [.ref PL, .ref A] ∧ H PL = some (.dK (plc ns)) ∧ (∀ H', Same H H' → Sq K b H' A xs) ∧ ns.length ≤ 60 ∧ ns.Nodup ∧ (∀ z ∈ ns, Name1 z) ∧ (∀ x ∈ xs, Thing H x) ∧ Cut ns o xs ∧ ∀ H', Same H H' → Q (oV o) H'
section
variable {P : Program} {w : World} {K : PySem.W.Frag} {mg : Str → Option Value} {base : Heap} {f fN : Addr} {fd fdN : FuncData}
theorem scBare : FnScope ["_law_one"] ["_law_one"] (defScope sBare) := ⟨rfl, rfl, rfl, by decide +kernel, rfl, by decide +kernel, by decide +kernel⟩
theorem ok_bareX (F : Fun K "_law_bare" "_law_bare" sBare f fd) : FnOk P w K mg base CX0 1 f fd ["_law_one"] spBareX := by
  refine F.ok scBare (fun vs H Q E h => ?_) (fun cdv A outer s H vs Q E hr h => ?_)
  · obtain ⟨q, rfl, _⟩ := h
    rfl
  · obtain ⟨z, rfl, l60, k⟩ := h
    refine ⟨_, pss_one (ps_ret (pe_ifExp (pt_cmpR op_eq (pe_slice sl_str (pv 0) po_none (po_some pe_int)) pe_str (nomark _)) (pe_slice sl_str (pv 0) (po_some pe_int) po_none) (pv 0))), ?_⟩
    have ll : z.length ≤ sizeLine := by rw [sizeLine_eq]; omega
    refine ⟨_, rfl, _, rfl, z, rfl, ll, rfl, _, rfl, ?_⟩
    unfold bareS at k
    by_cases c : cutS z none (some 1) = Str.ofString "-"
    · have e : decide (V.str (cutS z none (some 1)) = V.str (Str.ofString "-")) = true := decide_eq_true (by rw [c])
      rw [e]
      rw [if_pos c] at k
      exact iteT ⟨_, rfl, _, rfl, z, rfl, ll, k⟩
    · have e : decide (V.str (cutS z none (some 1)) = V.str (Str.ofString "-")) = false := decide_eq_false fun h => c (by injection h)
      rw [e]
      rw [if_neg c] at k
      exact iteF ⟨_, rfl, k⟩
abbrev nFO : List Str := ["_law_thing", "_law_names_here", "_law_met", "_law_index", "_law_one"]
theorem scFO : FnScope nFO ["_law_thing", "_law_names_here"] (defScope sFirstOdd) := ⟨rfl, rfl, rfl, by decide +kernel, rfl, by decide +kernel, by decide +kernel⟩
theorem ok_firstOdd (F : Fun K "_law_first_odd" "_law_first_odd" sFirstOdd f fd) (GN : FnOk P w K mg base CX0 1 fN fdN ["_law_one"] spBareX) (mN : mg "_law_bare" = some (.ref fN)) (kN : PySem.W.keepIn K (.ref fN) = true) (bN : L2.Binds K fdN ["_law_one"] []) (me : mg "enumerate" = none) (mi : mg "isinstance" = none) (ms : mg "str" = none) (ml : mg "list" = none) (mt : mg "tuple" = none) :
    FnOk P w K mg base CX0 2 f fd ["_law_thing", "_law_names_here"] (spFirstOdd K) := by
  refine F.ok scFO (fun vs H Q E h => ?_) (fun cdv A' outer s H vs Q E hr h => ?_)
  · obtain ⟨x, T, ns, io, o, rfl, _⟩ := h
    rfl
  · obtain ⟨x, T, ns, io, o, rfl, hT, n60, good, item, cut, k⟩ := h
    refine ⟨_, pss_cons (ps_if (pt_not (pt_val (pe_callB call_isiT (by rfl) mi (by decide +kernel) (pa_cons (pv 0) (pa_cons (pe_tup (pa_cons (pe_bltn (v := .ty "list") (by rfl) ml (by decide +kernel) rfl) (pa_cons (pe_bltn (v := .ty "tuple") (by rfl) mt (by decide +kernel) rfl) pa_nil))) pa_nil))))) (pss_one (ps_ret pe_int)) pss_nil)
      (pss_cons (ps_set (i := 2) scFO.nd rfl (.inl rfl) (pe_lst pa_nil))
      (pss_cons (ps_for PassesOwn.never rfl (pi_enumB (by rfl) me (pa_cons (pv 0) pa_nil)) (pg_tup rfl (pgs_cons (pg_name (i := 3) scFO.nd rfl (.inl rfl)) (pgs_cons (pg_name (i := 4) scFO.nd rfl (.inl rfl)) pgs_nil)))
        (pss_cons (ps_if (PW.pt (pw_or (pt_not (pt_val (pe_callB call_isi (by rfl) mi (by decide +kernel) (pa_cons (pv 4) (pa_cons (pe_bltn (v := .ty "str") (by rfl) ms (by decide +kernel) rfl) pa_nil))))) (pw_or (pt_cmpR op_notIn_seq (pe_call GN hr (by rfl) mN kN bN .nil pass0 (pa_cons (pv 4) pa_nil)) (pv 1) rfl) (pw_or1 (pt_cmpR op_in_seq (pe_call GN hr (by rfl) mN kN bN .nil pass0 (pa_cons (pv 4) pa_nil)) (pv 2) rfl))))) (pss_one (ps_ret (pv 3))) pss_nil)
        (pss_one (ps_expr (pe_bm PySem.F.plainAttrs_list PySem.F.slot_list_append PySem.F.type_list_append mt_append (pv 2) (pa_cons (pe_call GN hr (by rfl) mN kN bN .nil pass0 (pa_cons (pv 4) pa_nil)) pa_nil))))))
      (pss_one (ps_ret pe_non)))), ?_⟩
    obtain ⟨ty, hty, kit⟩ := item.kit (K := K)
    refine ⟨_, rfl, by show 2 ≤ sizeLine; decide, fun tp htp => ⟨x, tp, _, ty, _, io.isSome, rfl, upd_same, .cons (.ty "list") (.cons (.ty "tuple") .nil), hty _ (same_new htp), kit, _, rfl, ?_⟩⟩
    have sm0 : Same H (upd H tp (.tup [.ty "list", .ty "tuple"])) := same_new htp
    generalize upd H tp (.tup [.ty "list", .ty "tuple"]) = H0 at sm0 ⊢
    cases io with
    | none =>
      have e : o = some 0 := cut
      rw [e] at k
      exact iteT (k H0 sm0)
    | some xs =>
    obtain ⟨A, b, rfl, hA, th, x20⟩ := item.seq (K := K)
    replace cut : Cut ns o xs := cut
    obtain ⟨qs, tail, hq, rfl, h1, h2⟩ := cut.split
    have ll : ((qs.map lit).map V.str).length = qs.length := by rw [List.length_map, List.length_map]
    have few := hq.few
    refine iteF ⟨Nat.zero_le _, fun d hd => ⟨_, rfl, b, A, _, rfl, hA _ (sm0.trans (same_new hd)), for_it walk_enumB (fun i σ H2 => ∃ o3 o4, σ = [some (.ref A), some (.ref T), some (.ref d), o3, o4] ∧ i ≤ qs.length ∧ Same H0 H2 ∧ H2 d = some (.lst (((qs.map Prod.snd).take i).map V.str))) ⟨_, _, rfl, Nat.zero_le _, same_new hd, upd_same⟩ (fun i σ H2 _ ⟨_, _, _, _, sm, _⟩ => hA _ (sm0.trans sm)) ?_ ?_⟩⟩
    · rintro i x σ H2 H3 hi ⟨o3, o4, rfl, ile, sm, hd2⟩ ⟨t, v1, v2, rfl, ht, rfl, hv1, hv2⟩
      obtain rfl := Option.some.inj hv1
      replace hv2 : ((qs.map lit).map V.str ++ tail)[i]? = some v2 := hv2
      have sm3' : Same H0 (upd H2 t (.tup [.int (i : Nat), v2])) := sm.trans (same_new ht)
      have sm3 := sm0.trans sm3'
      have hd3 := (same_new (o := .tup [.int (i : Nat), v2]) ht) _ _ hd2
      have tv : Thing (upd H2 t (.tup [.int (i : Nat), v2])) v2 := (th v2 (List.mem_of_getElem? hv2)).same sm3
      refine ⟨t, _, rfl, SqT.of upd_same, rfl, _, _, rfl, _, _, rfl, rfl, _, rfl, ?_⟩
      have hTT := hT _ sm3
      generalize upd H2 t (.tup [.int (i : Nat), v2]) = H4 at *
      by_cases ilt : i < qs.length
      · obtain ⟨q, hqi⟩ : ∃ q, qs[i]? = some q := ⟨_, List.getElem?_eq_getElem ilt⟩
        have ev : v2 = .str (lit q) := by
          rw [List.getElem?_append_left (by rw [ll]; exact ilt), List.getElem?_map, List.getElem?_map, hqi] at hv2
          exact (Option.some.inj hv2).symm
        subst ev
        have l40 := tv.strs.2
        have mem := List.mem_of_getElem? hqi
        have qn : (qs.map Prod.snd)[i]? = some q.2 := by rw [List.getElem?_map, hqi]; rfl
        have fresh := not_before hq.nd qn
        have bs := bareS_lit (good _ (hq.sub q mem))
        refine ⟨_, _, _, _, true, rfl, .ty "str", .base (.str _), kit_ty (by decide +kernel), _, rfl, iteF ⟨_, rfl, lit q, rfl, by omega, _, rfl, T, _, rfl, .inl hTT, rfl, flat_str _, _, rfl, ?_⟩⟩
        rw [if_pos rfl, inV_str, bs, decide_eq_true (hq.sub q mem)]
        refine iteF ⟨_, rfl, lit q, rfl, by omega, _, rfl, d, _, rfl, .inl (SqL.of hd3), rfl, flat_str _, _, rfl, ?_⟩
        rw [if_neg (by decide), inV_str, bs, decide_eq_false fresh]
        refine iteF ⟨_, rfl, .inl ⟨rfl, _, SqL.of hd3⟩, _, rfl, lit q, rfl, by omega, d, _, _, rfl, rfl, hd3, by rw [List.length_map, List.length_take, List.length_map, sizeLine_eq]; omega, _, _, rfl, ilt, fun c o h => (upd_ne (ne_of_none h hd)).trans (sm3' c o h), ?_⟩
        rw [upd_same, List.take_succ, qn, List.map_append, bs]
        rfl
      · obtain ⟨ie, rest, et⟩ := tail_at (ys := (qs.map lit).map V.str) (by rw [ll]; exact ilt) (by rw [ll]; exact ile) hv2
        rw [ll] at ie
        obtain ⟨er, bad⟩ := h2 v2 rest et
        have fin : Q (.int (i : Int)) H4 := by
          have z := k H4 sm3
          rw [er, ← ie] at z
          exact z
        cases bad with
        | odd h =>
          obtain ⟨ty0, ty1, kit1⟩ := tv.noStr (K := K) h
          exact ⟨_, _, _, _, false, rfl, .ty "str", ty1 _ (Same.refl _), kit1, _, rfl, iteT ⟨_, rfl, fin⟩⟩
        | @far z h =>
          have l40 := tv.strs.2
          refine ⟨_, _, _, _, true, rfl, .ty "str", .base (.str _), kit_ty (by decide +kernel), _, rfl, iteF ⟨_, rfl, z, rfl, by omega, _, rfl, T, _, rfl, .inl hTT, rfl, flat_str _, _, rfl, ?_⟩⟩
          rw [if_pos rfl, inV_str, decide_eq_false (bareS_far h)]
          exact iteT ⟨_, rfl, fin⟩
        | @twice q hq1 hq2 =>
          have l40 := tv.strs.2
          have bs := bareS_lit (good _ hq1)
          refine ⟨_, _, _, _, true, rfl, .ty "str", .base (.str _), kit_ty (by decide +kernel), _, rfl, iteF ⟨_, rfl, lit q, rfl, by omega, _, rfl, T, _, rfl, .inl hTT, rfl, flat_str _, _, rfl, ?_⟩⟩
          rw [if_pos rfl, inV_str, bs, decide_eq_true hq1]
          refine iteF ⟨_, rfl, lit q, rfl, by omega, _, rfl, d, _, rfl, .inl (SqL.of hd3), rfl, flat_str _, _, rfl, ?_⟩
          have e2 : (qs.map Prod.snd).take i = qs.map Prod.snd := List.take_of_length_le (by rw [List.length_map]; omega)
          rw [if_neg (by decide), inV_str, bs, e2, decide_eq_true hq2]
          exact iteT ⟨_, rfl, fin⟩
    · rintro σ H2 ⟨o3, o4, rfl, ile, sm, hd2⟩
      rw [List.length_append, ll] at ile
      have z := k H2 (sm0.trans sm)
      rw [h1 (List.eq_nil_of_length_eq_zero (by omega))] at z
      exact z
theorem ok_wrongX (F : Fun K "first_wrong" "first_wrong" sWrong f fd) (GN : FnOk P w K mg base CX0 1 fN fdN ["literal"] spNameOf) (mN : mg "name_of" = some (.ref fN)) (kN : PySem.W.keepIn K (.ref fN) = true) (bN : L2.Binds K fdN ["literal"] []) (me : mg "enumerate" = none) (mi : mg "isinstance" = none) (ms : mg "str" = none) :
    FnOk P w K mg base CX0 2 f fd ["places", "things"] (spWrongX K) := by
  refine F.ok scWrong (fun vs H Q E h => ?_) (fun cdv A' outer s H vs Q E hr h => ?_)
  · obtain ⟨PL, A, b, ns, xs, r, rfl, _⟩ := h
    rfl
  · obtain ⟨PL, A, b, ns, xs, r, rfl, hPL, hA', hn, nd, good, th, cut, k⟩ := h
    have hu := hu_of hr
    refine ⟨_, pss_cons (ps_set (i := 2) scWrong.nd rfl (.inl rfl) pe_dnewK)
      (pss_cons (ps_for PassesOwn.never rfl (pi_enumB (by rfl) me (pa_cons (pv 1) pa_nil)) (pg_tup rfl (pgs_cons (pg_name (i := 3) scWrong.nd rfl (.inl rfl)) (pgs_cons (pg_name (i := 4) scWrong.nd rfl (.inl rfl)) pgs_nil)))
        (pss_cons (ps_if (PW.pt (pw_or (pt_not (pt_val (pe_callB call_isi (by rfl) mi (by decide +kernel) (pa_cons (pv 4) (pa_cons (pe_bltn (v := .ty "str") (by rfl) ms (by decide +kernel) rfl) pa_nil))))) (pw_or (pt_cmp (pc_dnotin hu (pv 4) (pv 0))) (pw_or1 (pt_cmp (pc_din hu (pe_call GN hr (by rfl) mN kN bN .nil pass0 (pa_cons (pv 4) pa_nil)) (pv 2))))))) (pss_one (ps_ret (pv 3))) pss_nil)
        (pss_one (ps_dput hu (pv 2) (pe_call GN hr (by rfl) mN kN bN .nil pass0 (pa_cons (pv 4) pa_nil)) pe_bl rfl))))
      (pss_one (ps_ret pe_non))), ?_⟩
    obtain ⟨qs, tail, hq, rfl, h1, h2⟩ := cut.split
    have few := hq.few
    have ll : ((qs.map lit).map V.str).length = qs.length := by rw [List.length_map, List.length_map]
    refine fun d hd => ⟨_, rfl, b, A, _, rfl, hA' _ (same_new hd), for_it walk_enumB (fun i σ H2 => ∃ o3 o4, σ = [some (.ref PL), some (.ref A), some (.ref d), o3, o4] ∧ i ≤ qs.length ∧ Same H H2 ∧ H2 d = some (.dK (((qs.map Prod.snd).take i).map seenKv))) ⟨_, _, rfl, Nat.zero_le _, same_new hd, upd_same⟩ (fun i σ H2 _ ⟨_, _, _, _, sm, _⟩ => hA' _ sm) ?_ ?_⟩
    · rintro i x σ H2 H3 hi ⟨o3, o4, rfl, ile, sm, hd2⟩ ⟨t, v1, v2, rfl, ht, rfl, hv1, hv2⟩
      obtain rfl := Option.some.inj hv1
      replace hv2 : ((qs.map lit).map V.str ++ tail)[i]? = some v2 := hv2
      have hd3 := (upd_ne (o := .tup [.int (i : Nat), v2]) (ne_of_none hd2 ht)).trans hd2
      have sm3 : Same H (upd H2 t (.tup [.int (i : Nat), v2])) := sm.trans (same_new ht)
      have hPL3 := sm3 _ _ hPL
      have tv : Thing (upd H2 t (.tup [.int (i : Nat), v2])) v2 := (th v2 (List.mem_of_getElem? hv2)).same sm3
      refine ⟨t, _, rfl, SqT.of upd_same, rfl, _, _, rfl, _, _, rfl, rfl, _, rfl, ?_⟩
      generalize upd H2 t (.tup [.int (i : Nat), v2]) = H4 at *
      by_cases ilt : i < qs.length
      · obtain ⟨q, hqi⟩ : ∃ q, qs[i]? = some q := ⟨_, List.getElem?_eq_getElem ilt⟩
        have ev : v2 = .str (lit q) := by
          rw [List.getElem?_append_left (by rw [ll]; exact ilt), List.getElem?_map, List.getElem?_map, hqi] at hv2
          exact (Option.some.inj hv2).symm
        subst ev
        have mem := List.mem_of_getElem? hqi
        have qn : (qs.map Prod.snd)[i]? = some q.2 := by rw [List.getElem?_map, hqi]; rfl
        have fresh := not_before hq.nd qn
        obtain ⟨v, hv⟩ := plc_some nd good (lit_mem (hq.sub q mem))
        have g1 : DGet H4 PL (.str (lit q)) (some v) := hv ▸ DGet.k (k := Sum.inr (lit q)) hPL3
        have g2 : DGet H4 d (.str q.2) none := seen_none _ fresh ▸ DGet.k (k := Sum.inr q.2) hd3
        refine ⟨_, _, _, _, true, rfl, .ty "str", .base (.str _), kit_ty (by decide +kernel), _, rfl, iteF ⟨_, rfl, _, rfl, PL, _, rfl, g1, _, rfl, iteF ⟨_, rfl, q, rfl, good _ (hq.sub q mem), _, rfl, d, _, rfl, g2, _, rfl, iteF ?_⟩⟩⟩
        refine ⟨_, rfl, _, rfl, q, rfl, good _ (hq.sub q mem), d, _, rfl, DPut.k (k := Sum.inr q.2) hd3 (by rw [List.length_map, List.length_take, sizeLine_eq]; omega), _, _, rfl, ilt, fun c o h => (upd_ne (ne_of_none h hd)).trans (sm3 c o h), ?_⟩
        rw [upd_same, putK_new (seen_none _ fresh), List.take_succ, qn, List.map_append]
        rfl
      · obtain ⟨ie, rest, et⟩ := tail_at (ys := (qs.map lit).map V.str) (by rw [ll]; exact ilt) (by rw [ll]; exact ile) hv2
        rw [ll] at ie
        obtain ⟨er, bad⟩ := h2 v2 rest et
        have fin : Q (.int (i : Int)) H4 := by
          have z := k H4 sm3
          rw [er, ← ie] at z
          exact z
        cases bad with
        | odd h =>
          obtain ⟨ty0, ty1, kit1⟩ := tv.noStr (K := K) h
          exact ⟨_, _, _, _, false, rfl, .ty "str", ty1 _ (Same.refl _), kit1, _, rfl, iteT ⟨_, rfl, fin⟩⟩
        | @far z h =>
          have g1 : DGet H4 PL (.str z) none := plcF_none _ 0 h ▸ DGet.k (k := Sum.inr z) hPL3
          exact ⟨_, _, _, _, true, rfl, .ty "str", .base (.str _), kit_ty (by decide +kernel), _, rfl, iteF ⟨_, rfl, _, rfl, PL, _, rfl, g1, _, rfl, iteT ⟨_, rfl, fin⟩⟩⟩
        | @twice q hq1 hq2 =>
          obtain ⟨v, hv⟩ := plc_some nd good (lit_mem hq1)
          have g1 : DGet H4 PL (.str (lit q)) (some v) := hv ▸ DGet.k (k := Sum.inr (lit q)) hPL3
          have g2 : DGet H4 d (.str q.2) (some (.bl true)) := by
            have z := DGet.k (k := Sum.inr q.2) hd3
            rwa [ie, List.take_of_length_le (by rw [List.length_map]; exact Nat.le_refl _), seen_some _ hq2] at z
          exact ⟨_, _, _, _, true, rfl, .ty "str", .base (.str _), kit_ty (by decide +kernel), _, rfl, iteF ⟨_, rfl, _, rfl, PL, _, rfl, g1, _, rfl, iteF ⟨_, rfl, q, rfl, good _ hq1, _, rfl, d, _, rfl, g2, _, rfl, iteT ⟨_, rfl, fin⟩⟩⟩⟩
    · rintro σ H2 ⟨o3, o4, rfl, ile, sm, hd2⟩
      rw [List.length_append, ll] at ile
      have z := k H2 sm
      rw [h1 (List.eq_nil_of_length_eq_zero (by omega))] at z
      exact z
end
end K6
/-! a text and a dict are unlike. -/
namespace EV
open PySem PySem.Spec PyProof.Rows L2
open SeqAt
section
variable {A : Around} {s : Shared}
theorem rcAt_str_dict {P : Program} {w : World} {l : Addr} {vs : List (Key × Value)} (b : Str) (u : Tok) (hl : s.heap.DictOf (mixKind P w) l vs) (hu : A.units < cLine) : RcAt A s (.str b u) (.ref l) false := fun prog w E Q h => by
  have tl : s.TypeIs (.ref l) "dict" := hl.typeIs
  refine rc_eq_decline_or (k := false) (typeIs_str s b u) tl (by decide) (by rw [isSubtype_type]; kernel_rfl) F.slot_str_eq F.slot_dict_eq_refl
    (fun Q' hq => ?_) (fun Q' hq => ?_) (fun _ hq => wpAny_of_eq (rfl : isSame (.str b u) (.ref l) = pure false) hq) (.inr hu) h
  · refine wpAny_call_entry F.slot_str_eq (typeIs_str s b u) F.entry_str_eq ?_ (F.args_str_eq_2 _ _)
    obtain ⟨⟨cls, dd, data, sl⟩, es, ep, ho, _, hdt, _⟩ := hl
    simp only at hdt
    subst hdt
    obtain ⟨hp, g, d, tk, os⟩ := s
    wp_walk using AutoSeq1.wpAny_loadPart' ho, wpAny_load ho
    exact ⟨_, rfl, hq⟩
  · refine wpAny_call_entry F.slot_dict_eq_refl tl F.entry_dict_eq ?_ (F.args_dict_eq_2 _ _)
    show wpAny _ _ (Builtin.Dict.dictSlotArgs "__eq__" ⟨[.ref l, .str b u], []⟩ >>= _) _ _ s
    refine wpAny_bind ?_
    unfold Builtin.Dict.dictSlotArgs
    refine wpAny_bind (wpAny_notOrdered_dict tl ?_)
    show wpAny _ _ (pure (Value.ref l, Value.str b u)) _ _ s
    refine wpAny_pure ?_
    refine wpAny_bind (wpAny_isInstance (typeIs_str s b u) F.sub_str_dict ?_)
    rw [if_pos (by decide)]
    exact wpAny_bind (wpAny_rule (wpAny_pure ⟨_, rfl, hq⟩))
theorem eqAt_str_dict {P : Program} {w : World} {l : Addr} {vs : List (Key × Value)} (b : Str) (u : Tok) (hl : s.heap.DictOf (mixKind P w) l vs) (hu : A.units < cLine) : EqAt A s (.str b u) (.ref l) false := fun prog w E Q h => by
  unfold eqBool
  refine wpAny_holding ?_
  refine wpAny_ite_split (fun hab => absurd (eq_of_beq hab) nofun) (fun _ => ?_)
  exact wpAny_bind (rcAt_str_dict b u hl hu prog w E _ (wpAny_truthy_bool h))
end
end EV
namespace K6
open PySem PySem.Spec PyProof.Rows L2 LamX NdefX EV
/-! ### a thing that is none of the names of a tuple -/
def rNoT (K : PySem.W.Frag) : R2 := fun x y H Q => ∃ (p : Addr) (ns : List Str), y = .ref p ∧ SqT K H p (ns.map V.str) ∧ Thing H x ∧ (∀ z, x = .str z → z ∉ ns) ∧ Q (.bl true) H
theorem op_noThing {X : Cx} (hu : X.A.units + 1 < cLine) : OpR X (compareOp .NotIn) (rNoT X.K) := by
  intro pins s σ H x y v u Q I rx ry h
  obtain ⟨p, ns, rfl, hp, th, no, q⟩ := h
  cases ry
  obtain ⟨its, r, pl, _⟩ := I.tuple hp
  have e : (!its.toArray.any fun _ => false) = true := by simp
  refine SeqAt.notIn_tupleAt (fun _ => false) pl (fun w hw => ?_) ⟨.bl true, H, I, by rw [e]; rfl, q⟩
  have hw' : w ∈ its := by simpa using hw
  have isS : ∀ {ms : List Str} {us : List Value}, Vals (ms.map V.str) us → ∀ w ∈ us, ∃ m t, m ∈ ms ∧ w = Value.str m t := by
    intro ms
    induction ms with
    | nil => intro us r w hw; cases r; cases hw
    | cons m ms ih =>
      intro us r w hw
      rw [List.map_cons] at r
      cases r with
      | cons r1 r2 =>
        rcases List.mem_cons.mp hw with rfl | hw
        · obtain ⟨t, e⟩ := r1
          exact ⟨m, t, List.mem_cons_self, e⟩
        · obtain ⟨m', t, h1, h2⟩ := ih r2 w hw
          exact ⟨m', t, List.mem_cons_of_mem _ h1, h2⟩
  obtain ⟨m, t, hm, rfl⟩ := isS r w hw'
  have hu1 : X.A.in1.units < cLine := by
    show X.A.units + 1 < cLine
    exact hu
  cases th with
  | @str z f l =>
    obtain ⟨t2, rfl⟩ := rx
    have ne : (m == z) = false := by
      have : m ≠ z := fun q => no z rfl (q ▸ hm)
      simpa using this
    have z := SeqAt.EqAt.str_str (A := X.A.in1) (s := s) m t z t2
    rwa [ne] at z
  | non =>
    cases rx
    exact SeqAt.EqAt.str_none m t
  | bl b =>
    cases rx
    exact SeqAt.EqAt.str_bool m t b
  | five =>
    obtain ⟨t2, rfl⟩ := rx
    exact SeqAt.EqAt.str_int m t 5 t2
  | tup h f l =>
    cases rx
    obtain ⟨its2, _, p2, _⟩ := I.tuple (SqT.of h)
    exact SeqAt.EqAt.str_tuple m t p2 hu1
  | lst h f l =>
    cases rx
    obtain ⟨its2, _, p2, _⟩ := I.list (SqL.of h)
    exact SeqAt.EqAt.str_list m t p2.isList hu1
  | dct h =>
    cases rx
    obtain ⟨_, _, vs, _, dd⟩ := dk_of I.hok h
    exact eqAt_str_dict m t dd hu1
/-! ### the program's ways out -/
def spBig (K : PySem.W.Frag) (CM : Addr) : Sp := fun vs H _ E => ∃ (T : Addr) (b : Bool) (xs : List V), vs = [.ref T] ∧ Sq K b H T xs ∧ 6 < xs.length ∧ xs.length ≤ 1000 ∧ Told CM "n" (.int (xs.length : Nat)) H E
def spChkSetX (K : PySem.W.Frag) (CB : Addr) : Sp := fun vs H _ E => ∃ (PL : Addr) (x : V) (ns : List Str) (io : Option (List V)) (i : Nat), vs = [.ref PL, x] ∧ H PL = some (.dK (plc ns)) ∧ ns.length ≤ 60 ∧ ns.Nodup ∧ (∀ z ∈ ns, Name1 z) ∧ ItemAt H x io ∧ CutI ns io (some i) ∧ Told CB "index" (.int (i : Nat)) H E
def spForcedX (K : PySem.W.Frag) (C CB : Addr) : Sp := fun vs H _ E => ∃ (p r : Addr) (x : V) (ns : List Str) (rs : List (List Str)) (io : Option (List V)) (i : Nat), vs = [.ref p, x] ∧ RuleR K C H p ns rs r ∧ ns.length ≤ 60 ∧ ns.Nodup ∧ (∀ z ∈ ns, Name1 z) ∧ ItemAt H x io ∧ CutI ns io (some i) ∧ Told CB "index" (.int (i : Nat)) H E
def spSignX (K : PySem.W.Frag) (C CG : Addr) : Sp := fun vs H _ E => ∃ (p r : Addr) (x : V) (ns : List Str) (rs : List (List Str)), vs = [.ref p, x] ∧ RuleR K C H p ns rs r ∧ Thing H x ∧ (∀ z, x = .str z → z ∉ ns) ∧ Told CG "name" x H E
section
variable {P : Program} {w : World} {K : PySem.W.Frag} {mg : Str → Option Value} {base : Heap} {f fI fJ fL fW fS C CM CB CG : Addr} {fd fdI fdJ fdL fdW fdS : FuncData}
theorem ok_big (F : Fun K "check_count" "check_count" sChkCount f fd) (ml : mg "len" = none) (mS : ∃ t, mg "MOST_SIGNS" = some (.int 6 t)) (X : XT K mg "TooMany" "n" CM fJ) (GJ : FnOk P w K mg base CX0 1 fJ fdJ ["self", "n"] (spI1 K "n")) (bJ : L2.Binds K fdJ ["self", "n"] []) :
    FnOk P w K mg base (L2.CX P w) 3 f fd ["names"] (spBig K CM) := by
  obtain ⟨tS, mS⟩ := mS
  refine F.okX scChkCount (fun vs H Q E h => ?_) (fun cdv A outer s H vs Q E hr h => ?_)
  · obtain ⟨T, b, xs, rfl, _⟩ := h
    rfl
  · obtain ⟨L, b, xs, rfl, hT, big, few, told⟩ := h
    have hr2 : Room 2 _ := hr
    refine ⟨_, pss_one (ps_if (pt_cmpR op_gt (pe_callB call_len (by rfl) ml PySem.boot_len (pa_cons (pv 0) pa_nil)) (pe_glob (v := .int 6) (by rfl) mS ⟨_, rfl⟩) (nomark _))
        (pss_one (ps_raise rfl (takes_of rfl rfl rfl rfl) (pmk_oex X.ox X.ini X.ty GJ hr2 bJ .nil pass0 (by rfl) X.g (pa_cons (pe_callB call_len (by rfl) ml PySem.boot_len (pa_cons (pv 0) pa_nil)) pa_nil)))) pss_nil), ?_⟩
    refine ⟨_, rfl, _, xs.length, rfl, Sq.len hT, _, _, rfl, rfl, _, rfl, ?_⟩
    rw [decide_eq_true (by omega)]
    exact iteT ⟨_, rfl, _, xs.length, rfl, Sq.len hT, by show 1 ≤ 1000; decide, fun a ha => ⟨a, CM, _, rfl, X.ox, X.n, upd_same, fun dx hdx nda => ⟨rfl, dx, _, upd_same, (upd_ne nda).trans upd_same, (upd_ne nda).symm.trans hdx, told dx _ upd_same (way_same ha hdx nda)⟩⟩⟩
theorem scChkSet : FnScope ["places", "setting", "wrong"] ["places", "setting"] (defScope sChkSetting) := ⟨rfl, rfl, rfl, by decide +kernel, rfl, by decide +kernel, by decide +kernel⟩
theorem ok_chkSetX (F : Fun K "check_setting" "check_setting" sChkSetting f fd) (X : XT K mg "BadSetting" "index" CB fJ) (GJ : FnOk P w K mg base CX0 1 fJ fdJ ["self", "index"] (spI1 K "index")) (bJ : L2.Binds K fdJ ["self", "index"] [])
    (GL : FnOk P w K mg base CX0 1 fL fdL ["thing"] (spIsList K)) (mL : mg "is_list" = some (.ref fL)) (kL : PySem.W.keepIn K (.ref fL) = true) (bL : L2.Binds K fdL ["thing"] [])
    (GW : FnOk P w K mg base CX0 2 fW fdW ["places", "things"] (spWrongX K)) (mW : mg "first_wrong" = some (.ref fW)) (kW : PySem.W.keepIn K (.ref fW) = true) (bW : L2.Binds K fdW ["places", "things"] []) :
    FnOk P w K mg base (L2.CX P w) 3 f fd ["places", "setting"] (spChkSetX K CB) := by
  refine F.okX scChkSet (fun vs H Q E h => ?_) (fun cdv A outer s H vs Q E hr h => ?_)
  · obtain ⟨PL, x, ns, io, i, rfl, _⟩ := h
    rfl
  · obtain ⟨PL, x, ns, io, i, rfl, hPL, n60, nd, good, item, cut, told⟩ := h
    have hr1 : Room 1 _ := hr.mono (by decide)
    have hr2 : Room 2 _ := hr
    refine ⟨_, pss_cons (ps_if (pt_not (pt_val (pe_call GL hr1 (by rfl) mL kL bL .nil pass0 (pa_cons (pv 1) pa_nil)))) (pss_one (ps_raise rfl (takes_of rfl rfl rfl rfl) (pmk_oex X.ox X.ini X.ty GJ hr2 bJ .nil pass0 (by rfl) X.g (pa_cons pe_int pa_nil)))) pss_nil)
      (pss_cons (ps_set (i := 2) scChkSet.nd rfl (.inl rfl) (pe_call GW hr2 (by rfl) mW kW bW .nil pass0 (pa_cons (pv 0) (pa_cons (pv 1) pa_nil))))
      (pss_one (ps_if (pt_cmpR op_notN (pv 2) pe_non rfl) (pss_one (ps_raise rfl (takes_of rfl rfl rfl rfl) (pmk_oex X.ox X.ini X.ty GJ hr2 bJ .nil pass0 (by rfl) X.g (pa_cons (pv 2) pa_nil)))) pss_nil))), ?_⟩
    obtain ⟨ty, hty, kit⟩ := item.kit (K := K)
    refine ⟨_, rfl, x, ty, io.isSome, rfl, hty, kit, fun H1 sm1 => ⟨_, rfl, ?_⟩⟩
    cases io with
    | none =>
      have e : some i = some 0 := cut
      obtain rfl := Option.some.inj e
      exact iteT ⟨by show 1 ≤ 1000; decide, fun a ha => ⟨a, CB, _, rfl, X.ox, X.n, upd_same, fun dx hdx nda => ⟨rfl, dx, _, upd_same, (upd_ne nda).trans upd_same, (upd_ne nda).symm.trans hdx, told.of sm1 dx _ upd_same (way_same ha hdx nda)⟩⟩⟩
    | some xs =>
      obtain ⟨Aa, b, rfl, hA, th, x20⟩ := item.seq (K := K)
      refine iteF ⟨_, rfl, _, rfl, PL, Aa, b, ns, xs, some i, rfl, sm1 _ _ hPL, (fun H' s' => hA H' (sm1.trans s')), n60, nd, good, (fun x hx => (th x hx).same sm1), cut, fun H2 sm2 => ?_⟩
      have sm02 := sm1.trans sm2
      refine ⟨_, rfl, rfl, _, rfl, ?_⟩
      rw [show (!decide (oV (some i) = V.non)) = true from by rw [decide_eq_false (fun e => nomatch e)]; rfl]
      exact iteT ⟨_, rfl, by show 1 ≤ 1000; decide, fun a ha => ⟨a, CB, _, rfl, X.ox, X.n, upd_same, fun dx hdx nda => ⟨rfl, dx, _, upd_same, (upd_ne nda).trans upd_same, (upd_ne nda).symm.trans hdx, told.of sm02 dx _ upd_same (way_same ha hdx nda)⟩⟩⟩
theorem ok_chkSignX (F : Fun K "check_sign" "check_sign" sChkSign f fd) (T : RTxt K mg C) (X : XT K mg "NoSign" "name" CG fJ) (GJ : FnOk P w K mg base CX0 1 fJ fdJ ["self", "name"] (spI1 K "name")) (bJ : L2.Binds K fdJ ["self", "name"] []) :
    FnOk P w K mg base (L2.CX P w) 3 f fd ["rule", "name"] (spSignX K C CG) := by
  have scChkSign : FnScope ["rule", "name"] ["rule", "name"] (defScope sChkSign) := ⟨rfl, rfl, rfl, by decide +kernel, rfl, by decide +kernel, by decide +kernel⟩
  refine F.okX scChkSign (fun vs H Q E h => ?_) (fun cdv A outer s H vs Q E hr h => ?_)
  · obtain ⟨p, r, x, ns, rs, rfl, _⟩ := h
    rfl
  · obtain ⟨p, r, x, ns, rs, rfl, cx, th, no, told⟩ := h
    have hr2 : Room 2 _ := hr
    have hu := hu_of hr
    obtain ⟨dx0, a0, pl, hx, ha0, _, _⟩ := cx.at_
    refine ⟨_, pss_one (ps_if (pt_cmpR (op_noThing hu) (pv 1) (pe_fld (pv 0) rfl) rfl) (pss_one (ps_raise rfl (takes_of rfl rfl rfl rfl) (pmk_oex X.ox X.ini X.ty GJ hr2 bJ .nil pass0 (by rfl) X.g (pa_cons (pv 1) pa_nil)))) pss_nil), ?_⟩
    refine ⟨_, rfl, _, rfl, p, C, dx0, _, _, rfl, hx, T.cl, T.n1, fl1 .., a0, ns, rfl, ha0 H (Same.refl H), th, no, _, rfl, ?_⟩
    exact iteT ⟨_, rfl, by show 1 ≤ 1000; decide, fun a ha => ⟨a, CG, _, rfl, X.ox, X.n, upd_same, fun dx hdx nda => ⟨rfl, dx, _, upd_same, (upd_ne nda).trans upd_same, (upd_ne nda).symm.trans hdx, told dx _ upd_same (way_same ha hdx nda)⟩⟩⟩
end
end K6
namespace K6
open PySem PySem.Spec PyProof.Rows L2 LamX NdefX EV
/-! ### items of the list of settings: right or wrong -/
def GoodI (ns : List Str) (io : Option (List V)) : Prop := ∃ qs : List (Bool × Str), io = some ((qs.map lit).map V.str) ∧ Lits ns qs ∧ qs.length = ns.length
theorem map_bare {ns : List Str} (good : ∀ z ∈ ns, Name1 z) : ∀ {qs : List (Bool × Str)}, (∀ q ∈ qs, q.2 ∈ ns) → (qs.map lit).map bareS = qs.map Prod.snd
  | [], _ => rfl
  | q :: r, h => by
    rw [List.map_cons, List.map_cons, List.map_cons, bareS_lit (good _ (h q List.mem_cons_self)), map_bare good fun y hy => h y (List.mem_cons_of_mem _ hy)]
theorem str_inj : ∀ {xs ys : List Str}, xs.map V.str = ys.map V.str → xs = ys
  | [], [], _ => rfl
  | [], _ :: _, h => nomatch h
  | _ :: _, [], h => nomatch h
  | x :: xs, y :: ys, h => by
    injection h with h1 h2
    injection h1 with h1
    rw [h1, str_inj h2]
theorem all_strs : ∀ rest : List V, (∀ y ∈ rest, ∃ z, y = .str z) → ∃ rs : List Str, rest = rs.map V.str
  | [], _ => ⟨[], rfl⟩
  | y :: r, a => by
    obtain ⟨z, rfl⟩ := a _ List.mem_cons_self
    obtain ⟨rs, rfl⟩ := all_strs r fun y hy => a y (List.mem_cons_of_mem _ hy)
    exact ⟨z :: rs, rfl⟩
/-- what is right throughout is not cut -/
theorem cut_full {ns : List Str} {o : Option Nat} {qs : List (Bool × Str)} (good : ∀ z ∈ ns, Name1 z) (h : Lits ns qs) (c : Cut ns o ((qs.map lit).map V.str)) : o = none := by
  obtain ⟨ps, tail, hp, e, h1, h2⟩ := c.split
  cases tail with
  | nil => exact h1 rfl
  | cons x rest =>
    obtain ⟨_, bad⟩ := h2 x rest rfl
    have ex : ∃ z, x = .str z ∧ z ∈ qs.map lit := by
      have m : x ∈ (qs.map lit).map V.str := by rw [e]; exact List.mem_append_right _ List.mem_cons_self
      obtain ⟨z, hz, ez⟩ := List.mem_map.mp m
      exact ⟨z, ez.symm, hz⟩
    obtain ⟨z, rfl, hz⟩ := ex
    obtain ⟨q, hq, eq⟩ := List.mem_map.mp hz
    cases bad with
    | odd n => exact (n _ rfl).elim
    | far n => exact (n (eq ▸ lit_mem (h.sub q hq))).elim
    | @twice q' m1 m2 =>
      exfalso
      -- the names of all
      have rr : ∃ rs : List Str, rest = rs.map V.str := all_strs rest fun y hy => by
        have m : y ∈ (qs.map lit).map V.str := by rw [e]; exact List.mem_append_right _ (List.mem_cons_of_mem _ hy)
        obtain ⟨z, _, ez⟩ := List.mem_map.mp m
        exact ⟨z, ez.symm⟩
      obtain ⟨rs, rfl⟩ := rr
      have e2 : qs.map lit = ps.map lit ++ lit q' :: rs := str_inj (by rw [e, List.map_append]; rfl)
      have e3 := congrArg (List.map bareS) e2
      rw [map_bare good h.sub, List.map_append, map_bare good hp.sub, List.map_cons, bareS_lit (good _ m1)] at e3
      have nd := h.nd
      rw [e3] at nd
      exact (List.nodup_append.mp nd).2.2 q'.2 m2 q'.2 List.mem_cons_self rfl
theorem goodI_cut {ns : List Str} {io : Option (List V)} {o : Option Nat} (good : ∀ z ∈ ns, Name1 z) (g : GoodI ns io) (c : CutI ns io o) : o = none := by
  obtain ⟨qs, rfl, h, _⟩ := g
  exact cut_full good h c
/-- what the program asks of an item -/
theorem item_ask {K : PySem.W.Frag} {H : Hp} {ns : List Str} {v : V} {io : Option (List V)} {x C dx : Addr} {fs : List (Str × V)} (good : ∀ z ∈ ns, Name1 z) (item : ItemAt H v io) (hx : H x = some (.ins C dx fs)) :
    (∃ qs, io = some ((qs.map lit).map V.str) ∧ Given K x H ns v qs) ∨ (Ask K H ns false v ∧ ¬ GoodI ns io) := by
  obtain ⟨ty, hty, kit⟩ := item.kit (K := K)
  cases io with
  | none => exact .inr ⟨by
      obtain rfl | ⟨a, rfl⟩ | ⟨i, rfl⟩ | ⟨b, rfl⟩ | ⟨z, rfl⟩ : v = .non ∨ (∃ a, v = .ref a) ∨ (∃ i, v = .int i) ∨ (∃ b, v = .bl b) ∨ ∃ z, v = .str z := by
        cases item with
        | non => exact .inl rfl
        | five => exact .inr (.inr (.inl ⟨_, rfl⟩))
        | bl b => exact .inr (.inr (.inr (.inl ⟨_, rfl⟩)))
        | str => exact .inr (.inr (.inr (.inr ⟨_, rfl⟩)))
        | dct h => exact .inr (.inl ⟨_, rfl⟩)
      all_goals exact .odd ty hty kit, fun ⟨_, e, _⟩ => nomatch e⟩
  | some xs =>
    obtain ⟨o, cut⟩ := cut_of ns xs
    cases cut with
    | @ok qs h =>
      refine .inl ⟨qs, rfl, ?_⟩
      cases item with
      | lst hp t few => exact given_list h hp hx
      | tup hp t few => exact given_tup h hp hx
    | @bad qs y rest h b =>
      refine .inr ⟨?_, fun ⟨qs', e, h', _⟩ => ?_⟩
      · obtain ⟨A, bb, rfl, hA, th, _⟩ := item.seq (K := K)
        have ty0 : Thing H y := th y (List.mem_append_right _ List.mem_cons_self)
        exact .seq (b := bb) ty hty kit hA fun H' sm => .bad h (b.badV (ty0.same sm))
      · have c : Cut ns (some qs.length) ((qs.map lit).map V.str ++ y :: rest) := .bad h b
        rw [Option.some.inj e] at c
        cases cut_full good h' c
abbrev sForced : Stmt := inClass (top 27) 3
abbrev sTurned : Stmt := inClass (top 27) 5
abbrev sSub : Stmt := inClass (top 27) 11
abbrev psInit : List Str := ["self", "signs", "settings"]
abbrev nForced : List Str := ["self", "setting", "fitting", "common", "row", "literal"]
def spInitN (K : PySem.W.Frag) (C CN : Addr) : Sp := fun vs H _ E => ∃ (x dx S0 T0 : Addr) (xs : List V) (i : Nat), vs = [.ref x, .ref S0, .ref T0] ∧ H x = some (.ins C dx []) ∧ H S0 = some (.lst xs) ∧ (∀ x ∈ xs, Thing H x) ∧ CutN (some i) xs ∧ xs.length ≤ 60 ∧ Told CN "index" (.int (i : Nat)) H E
def spInitM (K : PySem.W.Frag) (C CM : Addr) : Sp := fun vs H _ E => ∃ (x dx S0 T0 : Addr) (ns : List Str), vs = [.ref x, .ref S0, .ref T0] ∧ H x = some (.ins C dx []) ∧ H S0 = some (.lst (ns.map V.str)) ∧ ns.Nodup ∧ (∀ z ∈ ns, Name1 z) ∧ 6 < ns.length ∧ ns.length ≤ 60 ∧ Told CM "n" (.int (ns.length : Nat)) H E
def spInitS (K : PySem.W.Frag) (C CB : Addr) : Sp := fun vs H _ E => ∃ (x dx S0 T0 : Addr) (ns : List Str) (its : List V) (ios : List (Option (List V))) (i0 : Nat), vs = [.ref x, .ref S0, .ref T0] ∧ H x = some (.ins C dx []) ∧ H S0 = some (.lst (ns.map V.str)) ∧ H T0 = some (.lst its) ∧ ns.Nodup ∧ (∀ z ∈ ns, Name1 z) ∧ ns.length ≤ 6 ∧
  Paired (ItemAt H) its ios ∧ (∀ j io, j < i0 → ios[j]? = some io → GoodI ns io) ∧ (∃ io, ios[i0]? = some io ∧ ¬ GoodI ns io) ∧ Told CB "index" (.int (i0 : Nat)) H E
section
variable {P : Program} {w : World} {K : PySem.W.Frag} {mg : Str → Option Value} {base : Heap} {f fI fJ fN fU fP fC C CN CM CB CG : Addr} {fd fdI fdJ fdN fdU fdP fdC : FuncData}
theorem scForced : FnScope nForced ["self", "setting"] (defScope sForced) := ⟨rfl, rfl, rfl, by decide +kernel, rfl, by decide +kernel, by decide +kernel⟩
theorem ok_forcedX (F : Fun K "forced" "Rule.forced" sForced f fd) (T : RTxt K mg C) (GI : FnOk P w K mg base (L2.CX P w) 3 fI fdI ["places", "setting"] (spChkSetX K CB)) (mI : mg "check_setting" = some (.ref fI)) (kI : PySem.W.keepIn K (.ref fI) = true) (bI : L2.Binds K fdI ["places", "setting"] []) :
    FnOk P w K mg base (L2.CX P w) 4 f fd ["self", "setting"] (spForcedX K C CB) := by
  refine F.okX scForced (fun vs H Q E h => ?_) (fun cdv A outer s H vs Q E hr h => ?_)
  · obtain ⟨p, r, x, ns, rs, io, i, rfl, _⟩ := h
    rfl
  · obtain ⟨p, r, x, ns, rs, io, i, rfl, cx, n60, nd, good, item, cut, told⟩ := h
    refine ⟨_, pss_cons (ps_expr (pe_call GI hr (by rfl) mI kI bI .nil (passes_call (takes_of rfl rfl rfl rfl) fun _ _ _ _ h => h) (pa_cons (pe_fld (pv 0) rfl) (pa_cons (pv 1) pa_nil))))
      (pss_cons ps_none (pss_cons ps_none (pss_cons ps_none (pss_one ps_none)))), ?_⟩
    obtain ⟨dx, a, pl, hx, ha, hpl, _⟩ := cx.at_
    exact ⟨_, rfl, p, C, dx, _, _, rfl, hx, T.cl, T.n2, fl2 .., _, rfl, pl, x, ns, io, i, rfl, hpl, n60, nd, good, item, cut, told⟩
theorem scTurned : FnScope ["self", "name", "row"] ["self", "name"] (defScope sTurned) := ⟨rfl, rfl, rfl, by decide +kernel, rfl, by decide +kernel, by decide +kernel⟩
theorem ok_turnedX (F : Fun K "turned" "Rule.turned" sTurned f fd) (GI : FnOk P w K mg base (L2.CX P w) 3 fI fdI ["rule", "name"] (spSignX K C CG)) (mI : mg "check_sign" = some (.ref fI)) (kI : PySem.W.keepIn K (.ref fI) = true) (bI : L2.Binds K fdI ["rule", "name"] []) :
    FnOk P w K mg base (L2.CX P w) 4 f fd ["self", "name"] (spSignX K C CG) := by
  refine F.okX scTurned (fun vs H Q E h => ?_) (fun cdv A outer s H vs Q E hr h => ?_)
  · obtain ⟨p, r, x, ns, rs, rfl, _⟩ := h
    rfl
  · obtain ⟨p, r, x, ns, rs, rfl, cx, th, no, told⟩ := h
    refine ⟨_, pss_cons (ps_expr (pe_call GI hr (by rfl) mI kI bI .nil (passes_call (takes_of rfl rfl rfl rfl) fun _ _ _ _ h => h) (pa_cons (pv 0) (pa_cons (pv 1) pa_nil)))) (pss_one ps_none), ?_⟩
    exact ⟨_, rfl, _, rfl, p, r, x, ns, rs, rfl, cx, th, no, told⟩
theorem scSub : FnScope ["self", "name", "rest", "sign", "row"] ["self", "name"] (defScope sSub) := ⟨rfl, rfl, rfl, by decide +kernel, rfl, by decide +kernel, by decide +kernel⟩
theorem ok_subX (F : Fun K "__sub__" "Rule.__sub__" sSub f fd) (GI : FnOk P w K mg base (L2.CX P w) 3 fI fdI ["rule", "name"] (spSignX K C CG)) (mI : mg "check_sign" = some (.ref fI)) (kI : PySem.W.keepIn K (.ref fI) = true) (bI : L2.Binds K fdI ["rule", "name"] []) :
    FnOk P w K mg base (L2.CX P w) 4 f fd ["self", "name"] (spSignX K C CG) := by
  refine F.okX scSub (fun vs H Q E h => ?_) (fun cdv A outer s H vs Q E hr h => ?_)
  · obtain ⟨p, r, x, ns, rs, rfl, _⟩ := h
    rfl
  · obtain ⟨p, r, x, ns, rs, rfl, cx, th, no, told⟩ := h
    refine ⟨_, pss_cons (ps_expr (pe_call GI hr (by rfl) mI kI bI .nil (passes_call (takes_of rfl rfl rfl rfl) fun _ _ _ _ h => h) (pa_cons (pv 0) (pa_cons (pv 1) pa_nil)))) (pss_cons ps_none (pss_one ps_none)), ?_⟩
    exact ⟨_, rfl, _, rfl, p, r, x, ns, rs, rfl, cx, th, no, told⟩
theorem ok_initN {A1 : Addr} {dsN : List Value} (F : Fun K "__init__" "Rule.__init__" sInit f fd) (GN : FnOk P w K mg base (L2.CX P w) 3 fN fdN ["things", "taken"] (spChkX K CN)) (mN : mg "check_names" = some (.ref fN)) (kN : PySem.W.keepIn K (.ref fN) = true) (hN1 : NilT K A1) (dN : Vals [.ref A1] dsN) (bN : L2.Binds K fdN ["things", "taken"] dsN) :
    FnOk P w K mg base (L2.CX P w) 4 f fd psInit (spInitN K C CN) := by
  refine F.okX scInit (fun vs H Q E h => ?_) (fun cdv A outer s H vs Q E hr h => ?_)
  · obtain ⟨x, dx, S0, T0, xs, i, rfl, _⟩ := h
    rfl
  · obtain ⟨x, dx, S0, T0, xs, i, rfl, hx, hS, th, cut, few, told⟩ := h
    refine ⟨_, pss_cons (ps_expr (pe_call GN hr (by rfl) mN kN bN dN (passes_call (takes_of rfl rfl rfl rfl) fun _ _ _ _ h => h) (pa_cons (pv 1) pa_nil)))
      (pss_cons ps_none (pss_cons ps_none (pss_cons ps_none (pss_cons ps_none (pss_cons ps_none (pss_cons ps_none (pss_one ps_none))))))), ?_⟩
    exact ⟨_, rfl, S0, A1, true, false, xs, i, rfl, (fun H' s' => SqL.of (s' _ _ hS)), (fun H' _ => hN1.sq H'), th, cut, few, told⟩
theorem ok_initM {A1 : Addr} {dsN : List Value} (F : Fun K "__init__" "Rule.__init__" sInit f fd) (GN : FnOk P w K mg base CX0 2 fN fdN ["things", "taken"] (spChkNames K)) (mN : mg "check_names" = some (.ref fN)) (kN : PySem.W.keepIn K (.ref fN) = true) (hN1 : NilT K A1) (dN : Vals [.ref A1] dsN) (bN : L2.Binds K fdN ["things", "taken"] dsN)
    (GU : FnOk P w K mg base (L2.CX P w) 3 fU fdU ["names"] (spBig K CM)) (mU : mg "check_count" = some (.ref fU)) (kU : PySem.W.keepIn K (.ref fU) = true) (bU : L2.Binds K fdU ["names"] []) :
    FnOk P w K mg base (L2.CX P w) 4 f fd psInit (spInitM K C CM) := by
  refine F.okX scInit (fun vs H Q E h => ?_) (fun cdv A outer s H vs Q E hr h => ?_)
  · obtain ⟨x, dx, S0, T0, ns, rfl, _⟩ := h
    rfl
  · obtain ⟨x, dx, S0, T0, ns, rfl, hx, hS, nd, good, n6, n60, told⟩ := h
    have hr2 : Room 2 _ := hr.mono (by decide)
    refine ⟨_, pss_cons (ps_expr (pe_call GN hr2 (by rfl) mN kN bN dN pass0 (pa_cons (pv 1) pa_nil)))
      (pss_cons (ps_expr (pe_call GU hr (by rfl) mU kU bU .nil (passes_call (takes_of rfl rfl rfl rfl) fun _ _ _ _ h => h) (pa_cons (pv 1) pa_nil)))
      (pss_cons ps_none (pss_cons ps_none (pss_cons ps_none (pss_cons ps_none (pss_cons ps_none (pss_one ps_none))))))), ?_⟩
    refine ⟨_, rfl, S0, A1, true, false, ns, [], rfl, (fun H' s' => SqL.of (s' _ _ hS)), (fun H' _ => hN1.sq H'), n60, Nat.zero_le _, nd, good, fun H1 sm1 => ?_⟩
    refine ⟨_, rfl, S0, true, _, rfl, SqL.of (sm1 _ _ hS), by rw [List.length_map]; exact n6, by rw [List.length_map]; omega, ?_⟩
    rw [List.length_map]
    exact told.of sm1
theorem ok_initS {A1 : Addr} {dsN : List Value} (F : Fun K "__init__" "Rule.__init__" sInit f fd) (me : mg "enumerate" = none) (GN : FnOk P w K mg base CX0 2 fN fdN ["things", "taken"] (spChkNames K)) (mN : mg "check_names" = some (.ref fN)) (kN : PySem.W.keepIn K (.ref fN) = true) (hN1 : NilT K A1) (dN : Vals [.ref A1] dsN) (bN : L2.Binds K fdN ["things", "taken"] dsN)
    (GU : FnOk P w K mg base CX0 1 fU fdU ["names"] (spChkCount K)) (mU : mg "check_count" = some (.ref fU)) (kU : PySem.W.keepIn K (.ref fU) = true) (bU : L2.Binds K fdU ["names"] [])
    (GP : FnOk P w K mg base CX0 2 fP fdP ["names"] (spPlaces K)) (mP : mg "places_of" = some (.ref fP)) (kP : PySem.W.keepIn K (.ref fP) = true) (bP : L2.Binds K fdP ["names"] [])
    (GC : FnOk P w K mg base CX0 4 fC fdC ["places", "thing"] (spIsFull K)) (mC : mg "is_full" = some (.ref fC)) (kC : PySem.W.keepIn K (.ref fC) = true) (bC : L2.Binds K fdC ["places", "thing"] [])
    (X : XT K mg "BadSetting" "index" CB fJ) (GJ : FnOk P w K mg base CX0 1 fJ fdJ ["self", "index"] (spI1 K "index")) (bJ : L2.Binds K fdJ ["self", "index"] []) :
    FnOk P w K mg base (L2.CX P w) 5 f fd psInit (spInitS K C CB) := by
  refine F.okX scInit (fun vs H Q E h => ?_) (fun cdv A outer s H vs Q E hr h => ?_)
  · obtain ⟨x, dx, S0, T0, ns, its, ios, i0, rfl, _⟩ := h
    rfl
  · obtain ⟨x, dx, S0, T0, ns, its, ios, i0, rfl, hx, hS, hT, nd, good, n6, items, before, ⟨iob, hib, notGood⟩, told⟩ := h
    have hr1 : Room 1 _ := hr.mono (by decide)
    have hr2 : Room 2 _ := hr.mono (by decide)
    refine ⟨_, pss_cons (ps_expr (pe_call GN hr2 (by rfl) mN kN bN dN pass0 (pa_cons (pv 1) pa_nil)))
      (pss_cons (ps_expr (pe_call GU hr1 (by rfl) mU kU bU .nil pass0 (pa_cons (pv 1) pa_nil)))
      (pss_cons (ps_set (i := 3) scInit.nd rfl (.inr rfl) (pe_call GP hr2 (by rfl) mP kP bP .nil pass0 (pa_cons (pv 1) pa_nil)))
      (pss_cons (ps_for (passes_of rfl) rfl (pi_enumB (by rfl) me (pa_cons (pv 2) pa_nil)) (pg_tup rfl (pgs_cons (pg_name (i := 4) scInit.nd rfl (.inl rfl)) (pgs_cons (pg_name (i := 5) scInit.nd rfl (.inl rfl)) pgs_nil)))
        (pss_one (ps_if (pt_not (pt_val (pe_call GC hr (by rfl) mC kC bC .nil pass0 (pa_cons (pv 3) (pa_cons (pv 5) pa_nil))))) (pss_one (ps_raise rfl (takes_of rfl rfl rfl rfl) (pmk_oex X.ox X.ini X.ty GJ hr2 bJ .nil pass0 (by rfl) X.g (pa_cons (pv 4) pa_nil)))) pss_nil)))
      (pss_cons ps_none (pss_cons ps_none (pss_cons ps_none (pss_one ps_none))))))), ?_⟩
    refine ⟨_, rfl, S0, A1, true, false, ns, [], rfl, (fun H' s' => SqL.of (s' _ _ hS)), (fun H' _ => hN1.sq H'), by omega, Nat.zero_le _, nd, good, fun H1 sm1 => ?_⟩
    refine ⟨_, rfl, S0, true, _, rfl, SqL.of (sm1 _ _ hS), by rw [List.length_map]; exact n6, ?_⟩
    refine ⟨_, rfl, S0, true, ns, rfl, SqL.of (sm1 _ _ hS), (fun H' s' => SqL.of (s' _ _ (sm1 _ _ hS))), by omega, nd, good, fun PL H2 hPL0 hPL2 sm2 => ?_⟩
    have sm02 := sm1.trans sm2
    have li : its.length = ios.length := Paired.length items
    have ib : i0 < ios.length := (List.getElem?_eq_some_iff.mp hib).1
    refine ⟨_, rfl, true, T0, _, rfl, SqL.of (sm02 _ _ hT), for_it walk_enumB (fun i σ H3 => ∃ o4 o5, σ = [some (.ref x), some (.ref S0), some (.ref T0), some (.ref PL), o4, o5, none, none, none] ∧ i ≤ i0 ∧ Same H2 H3) ⟨_, _, rfl, Nat.zero_le _, Same.refl _⟩ (fun i σ H3 _ ⟨_, _, _, _, sm⟩ => SqL.of (sm _ _ (sm02 _ _ hT))) ?_ ?_⟩
    · rintro i y σ H3 H4 hi ⟨o4, o5, rfl, ile, sm⟩ ⟨t, v1, v2, rfl, ht, rfl, hv1, hv2⟩
      obtain rfl := Option.some.inj hv1
      replace hv2 : its[i]? = some v2 := hv2
      have sm3 := sm.trans (same_new (o := .tup [.int (i : Nat), v2]) ht)
      have sm03 := sm02.trans sm3
      obtain ⟨io, hio, item0⟩ := paired_get items i v2 hv2
      have item : ItemAt (upd H3 t (.tup [.int (i : Nat), v2])) v2 io := item0.same sm03
      have hx3 := sm03 _ _ hx
      have hPL3 := sm3 _ _ hPL2
      refine ⟨t, _, rfl, SqT.of upd_same, rfl, _, _, rfl, _, _, rfl, rfl, _, rfl, _, rfl, PL, v2, ns, rfl, hPL3, by omega, nd, good, ?_⟩
      generalize upd H3 t (.tup [.int (i : Nat), v2]) = H5 at *
      have out : i = i0 → ∀ H6, Same H5 H6 → ∀ a, H6 a = none → ∀ dx', upd H6 a (exo a CB none) dx' = none → dx' ≠ a → ∀ H7 : Hp, H7 dx' = some (.xd [("index", .int (i : Nat))]) → Same H6 H7 → E (.ref CB) (some dx') H7 := fun e H6 s6 a ha dx' hdx nda H7 h7 s7 => by
        rw [e] at h7
        exact told dx' H7 h7 ((sm03.trans s6).trans s7)
      rcases item_ask (K := K) good item hx3 with ⟨qs, eio, giv⟩ | ⟨ask, ng⟩
      · refine .inl ⟨x, qs, giv, fun H6 sm6 => ⟨_, rfl, ?_⟩⟩
        by_cases e : qs.length = ns.length
        · rw [decide_eq_true e]
          have ne : i ≠ i0 := fun q => by
            rw [q, hib] at hio
            rw [Option.some.inj hio] at notGood
            exact notGood ⟨qs, eio, giv.1, e⟩
          exact iteF ⟨_, _, rfl, by omega, sm3.trans sm6⟩
        · rw [decide_eq_false e]
          have ei : i = i0 := Nat.le_antisymm ile (Nat.not_lt.mp fun lt => by
            obtain ⟨qs', e1, h', e2⟩ := before i io lt hio
            rw [eio] at e1
            have z := congrArg List.length (Option.some.inj e1)
            simp only [List.length_map] at z
            omega)
          exact iteT ⟨_, rfl, by show 1 ≤ 1000; decide, fun a ha => ⟨a, CB, _, rfl, X.ox, X.n, upd_same, fun dx' hdx nda => ⟨rfl, dx', _, upd_same, (upd_ne nda).trans upd_same, (upd_ne nda).symm.trans hdx, out ei H6 sm6 a ha dx' hdx nda _ upd_same (way_same ha hdx nda)⟩⟩⟩
      · refine .inr ⟨ask, fun H6 sm6 => ⟨_, rfl, ?_⟩⟩
        have ei : i = i0 := Nat.le_antisymm ile (Nat.not_lt.mp fun lt => ng (before i io lt hio))
        exact iteT ⟨_, rfl, by show 1 ≤ 1000; decide, fun a ha => ⟨a, CB, _, rfl, X.ox, X.n, upd_same, fun dx' hdx nda => ⟨rfl, dx', _, upd_same, (upd_ne nda).trans upd_same, (upd_ne nda).symm.trans hdx, out ei H6 sm6 a ha dx' hdx nda _ upd_same (way_same ha hdx nda)⟩⟩⟩
    · rintro σ H3 ⟨o4, o5, rfl, ile, sm⟩
      omega
end
end K6
namespace K6
open PySem PySem.Spec PyProof.Rows L2 LamX NdefX EV
def spSided (K : PySem.W.Frag) : Sp := fun vs H Q _ => ∃ (S L T : Addr) (ns : List Str) (c : Nat), vs = [.ref S, .ref T] ∧ SqL K H T (ns.map V.str) ∧ ns.length ≤ 60 ∧ (∀ z ∈ ns, z.length ≤ 8) ∧ c ≤ 80000 ∧ StreamAt H S L c ∧
  ∀ (qs : List (Bool × Str)) (p : Addr) (c' : Nat) (H' : Hp), (qs.map Prod.snd).Perm ns → H p = none → H' p = some (.lst ((qs.map lit).map V.str)) → c' ≤ c + 120 → StreamAt H' S L c' → Kept S L H H' → Q (.ref p) H'
theorem perm_inv {α β : Type} {f : α → β} : ∀ {l ys : List β}, l.Perm ys → ∀ qs : List α, ys = qs.map f → ∃ ps : List α, l = ps.map f ∧ ps.Perm qs := by
  intro l ys h
  induction h with
  | nil =>
    intro qs e
    cases qs with
    | nil => exact ⟨[], rfl, .nil⟩
    | cons q r => cases e
  | @cons x l1 l2 h ih =>
    intro qs e
    cases qs with
    | nil => cases e
    | cons q r =>
      injection e with e1 e2
      obtain ⟨ps, rfl, hp⟩ := ih r e2
      exact ⟨q :: ps, by rw [e1]; rfl, hp.cons q⟩
  | swap x y l =>
    intro qs e
    match qs, e with
    | q :: q2 :: r, e =>
      injection e with e1 e2
      injection e2 with e2 e3
      exact ⟨q2 :: q :: r, by rw [e1, e2, e3]; rfl, .swap ..⟩
  | trans _ _ ih1 ih2 =>
    intro qs e
    obtain ⟨ps, e2, hp⟩ := ih2 qs e
    obtain ⟨ps2, e3, hp2⟩ := ih1 ps e2
    exact ⟨ps2, e3, hp2.trans hp⟩
def sideV : Option (Bool × Str) → V
  | some q => .str (lit q)
  | none => .str (Str.ofString "")
theorem lit_ne {q : Bool × Str} (g : Name1 q.2) : lit q ≠ Str.ofString "" := fun e => by
  have z := congrArg Str.length e
  obtain ⟨b, n⟩ := q
  have g1 : 1 ≤ n.length := g.1
  cases b
  · have z : n.length = 0 := z
    omega
  · have z : (neg n).length = 0 := z
    rw [neg_len] at z
    omega
def spHalf (K : PySem.W.Frag) : Sp := fun vs H Q _ => ∃ (S L T : Addr) (ns : List Str) (c : Nat), vs = [.ref S, .ref T] ∧ SqL K H T (ns.map V.str) ∧ (∀ H', Kept S L H H' → SqL K H' T (ns.map V.str)) ∧ ns.length ≤ 60 ∧ ns.Nodup ∧ (∀ z ∈ ns, Name1 z) ∧ c ≤ 80000 ∧ StreamAt H S L c ∧
  ∀ (qs : List (Bool × Str)) (p : Addr) (c' : Nat) (H' : Hp), Lits ns qs → H p = none → H' p = some (.lst ((qs.map lit).map V.str)) → c' ≤ c + 120 → StreamAt H' S L c' → Kept S L H H' → Q (.ref p) H'
section
variable {P : Program} {w : World} {K : PySem.W.Frag} {mg : Str → Option Value} {base : Heap} {f fD fM fS : Addr} {fd fdD fdM fdS : FuncData}
abbrev nSided : List Str := ["_law_stream", "_law_names_here", "_law_name"]
theorem scSided : FnScope nSided ["_law_stream", "_law_names_here"] (defScope sSided) := ⟨rfl, rfl, rfl, by decide +kernel, rfl, by decide +kernel, by decide +kernel⟩
theorem ok_sided (F : Fun K "_law_sided" "_law_sided" sSided f fd) (GD : FnOk P w K mg base CX0 1 fD fdD ["_law_stream", "_law_many"] spDraw) (mD : mg "_law_draw" = some (.ref fD)) (kD : PySem.W.keepIn K (.ref fD) = true) (bD : L2.Binds K fdD ["_law_stream", "_law_many"] [])
    (GM : FnOk P w K mg base CX0 2 fM fdM ["_law_stream", "_law_things"] (spMixed K)) (mM : mg "_law_mixed" = some (.ref fM)) (kM : PySem.W.keepIn K (.ref fM) = true) (bM : L2.Binds K fdM ["_law_stream", "_law_things"] []) :
    FnOk P w K mg base CX0 3 f fd ["_law_stream", "_law_names_here"] (spSided K) := by
  refine F.ok scSided (fun vs H Q E h => ?_) (fun cdv A outer s H vs Q E hr h => ?_)
  · obtain ⟨S, L, T, ns, c, rfl, _⟩ := h
    rfl
  · obtain ⟨S, L, T, ns, c, rfl, hT, hn, h8, hc, hS, k⟩ := h
    have hr1 : Room 1 _ := hr.mono (by decide)
    refine ⟨_, pss_one (ps_ret (pe_lc (own := [("_law_name", 2)]) (g := gName 2) (tt := tYes) rfl scSided.nd (pi_list (pe_call GM hr (by rfl) mM kM bM .nil pass0 (pa_cons (pv 0) (pa_cons (pv 1) pa_nil)))) (blkOk_by (N := nSided) (sc := defScope sSided) (by decide +kernel))
          (fun _ _ _ _ _ => pg_name (i := 2) scSided.nd rfl (.inl rfl)) (fun _ _ _ _ _ => pts_nil)
          (fun _ _ _ _ _ => pe_op op_add_str (pe_ifExp (pt_cmpR op_eq (pe_call GD hr1 (by rfl) mD kD bD .nil pass0 (pa_cons (pv 0) (pa_cons pe_int pa_nil))) pe_int (nomark _)) pe_str pe_str) (pv 2)))), ?_⟩
    refine ⟨_, rfl, _, rfl, S, L, T, true, _, c, rfl, hT, by rw [List.length_map]; omega, by rw [List.length_map]; omega, hS, fun ys p0 H1 hp hnew hp1 hS1 hk1 => ?_⟩
    obtain ⟨ms, rfl, hpm⟩ := unmap_str ys ns hp
    have lm : ms.length = ns.length := hpm.length_eq
    have off0 := hS.off hnew
    rw [List.length_map] at hS1
    refine ⟨p0, rfl, ⟨_, SqL.of hp1⟩, fun D hD => lc_list (K := K) (a := p0) (xs := ms.map V.str) (fun i H2 => ∃ qs : List (Bool × Str), qs.map Prod.snd = ms.take i ∧ H2 D = some (.lst ((qs.map lit).map V.str)) ∧ StreamAt H2 S L (c + ns.length + i) ∧ Kept S L H1 H2)
      ⟨[], rfl, upd_same, hS1.new hD, (Kept.refl H1).new hD⟩ (fun i H2 hi ⟨_, _, _, _, hk2⟩ => SqL.of (hk2 _ _ hp1 off0.1 off0.2)) ?_ ?_⟩
    · rintro i x H2 hx ⟨qs, hq, hD2, hS2, hk2⟩
      obtain ⟨n, hn', rfl⟩ : ∃ n, ms[i]? = some n ∧ x = .str n := by
        rw [List.getElem?_map] at hx
        cases e : ms[i]? with
        | none => rw [e] at hx; cases hx
        | some n => rw [e] at hx; exact ⟨n, rfl, (Option.some.inj hx).symm⟩
      have n8 := h8 n (hpm.mem_iff.mp (List.mem_of_getElem? hn'))
      have offD := hS1.off hD
      have ilt : i < ms.length := (List.getElem?_eq_some_iff.mp hn').1
      have lq : qs.length ≤ i := by
        have z := congrArg List.length hq
        rw [List.length_map, List.length_take] at z
        omega
      have fin : ∀ (b : Bool) (H3 : Hp), StreamAt H3 S L (c + ns.length + i + 1) → Kept S L H2 H3 → ∃ acc, H3 D = some (.lst acc) ∧ acc.length < sizeLine ∧ ∃ qs' : List (Bool × Str), qs'.map Prod.snd = ms.take (i + 1) ∧ upd H3 D (.lst (acc ++ [V.str (lit (b, n))])) D = some (.lst ((qs'.map lit).map V.str)) ∧ StreamAt (upd H3 D (.lst (acc ++ [V.str (lit (b, n))]))) S L (c + ns.length + (i + 1)) ∧ Kept S L H1 (upd H3 D (.lst (acc ++ [V.str (lit (b, n))]))) := fun b H3 hS3 hk3 => by
        refine ⟨_, hk3 _ _ hD2 offD.1 offD.2, by rw [List.length_map, List.length_map, sizeLine_eq]; omega, qs ++ [(b, n)], ?_, ?_, hS3.put offD.1 offD.2, fun b' o e n1 n2 => (upd_ne (ne_of_none e hD)).trans (hk3 b' o (hk2 b' o e n1 n2) n1 n2)⟩
        · rw [List.map_append, hq, List.take_succ, hn']
          rfl
        · rw [upd_same, List.map_append, List.map_append]
          rfl
      refine ⟨rfl, _, rfl, S, L, 2, _, rfl, by decide, by decide, by omega, hS2, fun r H3 r0 r1 hS3 hk3 => ⟨rfl, _, rfl, ?_⟩⟩
      refine ite2 (fun _ => ?_) (fun _ => ?_)
      · refine ⟨_, rfl, _, _, rfl, rfl, by show 0 + n.length ≤ sizeLine; rw [sizeLine_eq]; omega, ?_⟩
        rw [empty_add]
        exact fin false H3 hS3 hk3
      · exact ⟨_, rfl, _, _, rfl, rfl, by show 1 + n.length ≤ sizeLine; rw [sizeLine_eq]; omega, fin true H3 hS3 hk3⟩
    · rintro H2 ⟨qs, hq, hD2, hS2, hk2⟩
      rw [List.length_map, List.take_length] at hq
      rw [List.length_map] at hS2
      exact k qs D _ H2 (hq ▸ hpm) (Kept.none hk1 hD (hS1.off hD).1 (hS1.off hD).2) hD2 (by omega) hS2 (hk1.trans hk2)
abbrev nHalf : List Str := ["_law_stream", "_law_names_here", "_law_found", "_law_name", "_law_one"]
theorem scHalf : FnScope nHalf ["_law_stream", "_law_names_here"] (defScope sHalf) := ⟨rfl, rfl, rfl, by decide +kernel, rfl, by decide +kernel, by decide +kernel⟩
theorem ok_half (F : Fun K "_law_half" "_law_half" sHalf f fd) (GD : FnOk P w K mg base CX0 1 fD fdD ["_law_stream", "_law_many"] spDraw) (mD : mg "_law_draw" = some (.ref fD)) (kD : PySem.W.keepIn K (.ref fD) = true) (bD : L2.Binds K fdD ["_law_stream", "_law_many"] [])
    (GM : FnOk P w K mg base CX0 2 fM fdM ["_law_stream", "_law_things"] (spMixed K)) (mM : mg "_law_mixed" = some (.ref fM)) (kM : PySem.W.keepIn K (.ref fM) = true) (bM : L2.Binds K fdM ["_law_stream", "_law_things"] []) :
    FnOk P w K mg base CX0 3 f fd ["_law_stream", "_law_names_here"] (spHalf K) := by
  refine F.ok scHalf (fun vs H Q E h => ?_) (fun cdv A outer s H vs Q E hr h => ?_)
  · obtain ⟨S, L, T, ns, c, rfl, _⟩ := h
    rfl
  · obtain ⟨S, L, T, ns, c, rfl, hT, hT', hn, nd, good, hc, hS, k⟩ := h
    have hr1 : Room 1 _ := hr.mono (by decide)
    refine ⟨_, pss_cons (ps_setLc (i := 2) (own := [("_law_name", 3)]) (g := gName 3) (tt := tYes) rfl scHalf.nd rfl rfl (sw_true rfl rfl rfl (by decide +kernel)) (pi_list (pv 1)) (blkOk_by (N := nHalf) (sc := defScope sHalf) (by decide +kernel))
          (fun _ _ _ _ _ => pg_name (i := 3) scHalf.nd rfl (.inl rfl)) (fun _ _ _ _ _ => pts_nil)
          (fun _ _ _ _ _ => pe_ix (show IxR _ (rIxT K) from ix_tup) (pe_tup (pa_cons (pv 3) (pa_cons (pe_op op_add_str pe_str (pv 3)) (pa_cons pe_str pa_nil)))) (pe_call GD hr1 (by rfl) mD kD bD .nil pass0 (pa_cons (pv 0) (pa_cons pe_int pa_nil))) (fun _ _ => rfl)))
      (pss_one (ps_ret (pe_call GM hr (by rfl) mM kM bM .nil pass0 (pa_cons (pv 0) (pa_cons (pe_lc (own := [("_law_one", 4)]) (g := gName 4) rfl scHalf.nd (pi_list (pv 2)) (blkOk_by (N := nHalf) (sc := defScope sHalf) (by decide +kernel))
          (fun _ _ _ _ _ => pg_name (i := 4) scHalf.nd rfl (.inl rfl)) (fun _ _ _ _ _ => pts_one (pt_cmpR op_ne (pv 4) pe_str (nomark _)))
          (fun _ _ _ _ _ => pv 4)) pa_nil))))), ?_⟩
    refine ⟨_, rfl, T, rfl, ⟨_, hT⟩, fun D hD => lc_list (K := K) (a := T) (xs := ns.map V.str) (fun i H2 => ∃ acc : List (Option (Bool × Str)), acc.length = i ∧ ((acc.filterMap id).map Prod.snd).Sublist (ns.take i) ∧ H2 D = some (.lst (acc.map sideV)) ∧ StreamAt H2 S L (c + i) ∧ Kept S L H H2)
      ⟨[], rfl, List.nil_sublist _, upd_same, hS.new hD, (Kept.refl H).new hD⟩ (fun i H2 hi ⟨_, _, _, _, _, hk2⟩ => hT' _ hk2) ?_ ?_⟩
    · rintro i x H2 hx ⟨acc, la, sub, hD2, hS2, hk2⟩
      obtain ⟨n, hn', rfl⟩ := get_map hx
      have n8 := (good n (List.mem_of_getElem? hn')).2.1
      have offD := hS.off hD
      have ilt : i < ns.length := (List.getElem?_eq_some_iff.mp hn').1
      refine ⟨rfl, _, rfl, _, rfl, _, _, rfl, rfl, by show 1 + n.length ≤ sizeLine; rw [sizeLine_eq]; omega, by show 3 ≤ sizeLine; decide, fun t ht => ?_⟩
      have st : Same H2 _ := same_new (o := .tup [.str n, .str (neg n), .str (Str.ofString "")]) ht
      have hS3 := hS2.new (o := .tup [.str n, .str (neg n), .str (Str.ofString "")]) ht
      have ht3 : upd H2 t (.tup [.str n, .str (neg n), .str (Str.ofString "")]) t = some (.tup [.str n, .str (neg n), .str (Str.ofString "")]) := upd_same
      refine ⟨_, rfl, S, L, 3, _, rfl, by decide, by decide, by omega, hS3, fun r H4 r0 r1 hS4 hk4 => ?_⟩
      have offt := hS2.off ht
      have ht4 := hk4 _ _ ht3 offt.1 offt.2
      have hD4 := hk4 _ _ (st _ _ hD2) offD.1 offD.2
      have hk24 : Kept S L H H4 := (hk2.trans fun b o e _ _ => st b o e).trans hk4
      have fin : ∀ o : Option (Bool × Str), (∀ q, o = some q → q.2 = n) → ∃ acc', H4 D = some (.lst acc') ∧ acc'.length < sizeLine ∧ ∃ ac : List (Option (Bool × Str)), ac.length = i + 1 ∧ ((ac.filterMap id).map Prod.snd).Sublist (ns.take (i + 1)) ∧ upd H4 D (.lst (acc' ++ [sideV o])) D = some (.lst (ac.map sideV)) ∧ StreamAt (upd H4 D (.lst (acc' ++ [sideV o]))) S L (c + (i + 1)) ∧ Kept S L H (upd H4 D (.lst (acc' ++ [sideV o]))) := fun o ho => by
        refine ⟨_, hD4, by rw [List.length_map, la, sizeLine_eq]; omega, acc ++ [o], by rw [List.length_append, la]; rfl, ?_, ?_, hS4.put offD.1 offD.2, kept_upd hk24 hD⟩
        · rw [List.filterMap_append, List.map_append, List.take_succ, hn']
          refine List.Sublist.append sub ?_
          cases o with
          | none => exact List.nil_sublist _
          | some q =>
            have e := ho q rfl
            show [q.2].Sublist [n]
            rw [e]
            exact List.Sublist.refl _
        · rw [upd_same, List.map_append]
          rfl
      have sq := SqT.of (K := K) ht4
      obtain rfl | rfl | rfl : r = 0 ∨ r = 1 ∨ r = 2 := by omega
      · exact ⟨t, _, 0, .str n, rfl, rfl, sq, rfl, fin (some (false, n)) fun q e => by rw [← Option.some.inj e]⟩
      · exact ⟨t, _, 1, .str (neg n), rfl, rfl, sq, rfl, fin (some (true, n)) fun q e => by rw [← Option.some.inj e]⟩
      · exact ⟨t, _, 2, .str (Str.ofString ""), rfl, rfl, sq, rfl, fin none fun q e => nomatch e⟩
    · rintro H2 ⟨acc, la, sub, hD2, hS2, hk2⟩
      rw [List.length_map] at hS2 la
      rw [List.length_map, List.take_length] at sub
      have offD := hS.off hD
      have hD0 : H D = none := hD
      have gq : ∀ q, some q ∈ acc → Name1 q.2 := fun q hq => good _ (sub.subset (List.mem_map_of_mem (List.mem_filterMap.mpr ⟨some q, hq, rfl⟩)))
      refine ⟨_, rfl, _, rfl, D, rfl, ⟨_, SqL.of hD2⟩, fun D2 hD2n => lc_list (K := K) (a := D) (xs := acc.map sideV) (fun i H3 => Same H2 H3 ∧ H3 D2 = some (.lst ((((acc.take i).filterMap id).map lit).map V.str)))
        ⟨same_new hD2n, upd_same⟩ (fun i H3 hi hh => SqL.of (hh.1 _ _ hD2)) ?_ ?_⟩
      · rintro i x H3 hx ⟨sm, hd⟩
        obtain ⟨o, ho, rfl⟩ : ∃ o, acc[i]? = some o ∧ x = sideV o := by
          rw [List.getElem?_map] at hx
          cases e : acc[i]? with
          | none => rw [e] at hx; cases hx
          | some n => rw [e] at hx; exact ⟨n, rfl, (Option.some.inj hx).symm⟩
        have ilt : i < acc.length := (List.getElem?_eq_some_iff.mp ho).1
        have ll : ((acc.take i).filterMap id).length ≤ i := by
          have z1 := List.length_filterMap_le id (acc.take i)
          rw [List.length_take] at z1
          omega
        refine ⟨rfl, _, rfl, (by cases o <;> rfl), _, rfl, ?_⟩
        cases o with
        | none =>
          rw [show (!decide (sideV none = V.str (Str.ofString ""))) = false from by rw [decide_eq_true (show sideV none = V.str (Str.ofString "") from rfl)]; rfl]
          refine iteF ⟨sm, ?_⟩
          rw [List.take_succ, ho, List.filterMap_append]
          show H3 D2 = some (.lst ((((acc.take i).filterMap id ++ []).map lit).map V.str))
          rw [List.append_nil]
          exact hd
        | some q =>
          have ne : sideV (some q) ≠ V.str (Str.ofString "") := fun e => lit_ne (gq q (List.mem_of_getElem? ho)) (by injection e)
          rw [show (!decide (sideV (some q) = V.str (Str.ofString ""))) = true from by rw [decide_eq_false ne]; rfl]
          refine iteT ⟨_, rfl, _, hd, by rw [List.length_map, List.length_map, sizeLine_eq]; omega, fun b o h => (upd_ne (ne_of_none h hD2n)).trans (sm b o h), ?_⟩
          rw [upd_same, List.take_succ, ho, List.filterMap_append, List.map_append, List.map_append]
          rfl
      · rintro H3 ⟨sm, hd⟩
        rw [List.length_map, List.take_length] at hd
        have hS3 := hS2.same sm
        have hk3 : Kept S L H H3 := hk2.trans fun b o e _ _ => sm b o e
        have lq : (acc.filterMap id).length ≤ ns.length := by
          have z1 := List.length_filterMap_le id acc
          omega
        have offD2 := hS2.off hD2n
        refine ⟨S, L, D2, true, _, _, rfl, SqL.of hd, by rw [List.length_map, List.length_map]; omega, by rw [List.length_map, List.length_map]; omega, hS3, fun ys p H4 hp hnew hp4 hS4 hk4 => ?_⟩
        obtain ⟨ms, rfl, hpm⟩ := perm_inv hp _ rfl
        obtain ⟨qs, rfl, hpq⟩ := perm_inv hpm _ rfl
        have offp := hS3.off hnew
        have hL : Lits ns qs := ⟨(hpq.map Prod.snd).nodup_iff.mpr (sub.nodup nd), fun q hq => sub.subset (List.mem_map_of_mem (hpq.mem_iff.mp hq))⟩
        rw [List.length_map, List.length_map] at hS4
        exact k qs p _ H4 hL (hk3.none hnew offp.1 offp.2) hp4 (by omega) hS4 (hk3.trans hk4)
end
end K6
namespace K6
open PySem PySem.Spec PyProof.Rows L2 LamX NdefX EV
def opp (q : Bool × Str) : Bool × Str := (!q.1, q.2)
def spOpp : Sp := fun vs H Q _ => ∃ q : Bool × Str, vs = [.str (lit q)] ∧ Name1 q.2 ∧ Q (.str (lit (opp q))) H
theorem lit_len {q : Bool × Str} (g : Name1 q.2) : (lit q).length ≤ 9 := by
  obtain ⟨b, n⟩ := q
  have n8 : n.length ≤ 8 := g.2.1
  cases b
  · show n.length ≤ _
    omega
  · show (neg n).length ≤ _
    rw [neg_len]; omega
theorem Thing.lit {H : Hp} {q : Bool × Str} (g : Name1 q.2) : Thing H (.str (lit q)) := .str (Fit.lit g.fit) (by have := lit_len g; omega)
def spOdd (K : PySem.W.Frag) : Sp := fun vs H Q _ => ∃ (S L T : Addr) (ns : List Str) (c : Nat), vs = [.ref S, .ref T] ∧ (∀ H', Same H H' → SqL K H' T (ns.map V.str)) ∧ ns.length ≤ 60 ∧ (∀ z ∈ ns, Name1 z) ∧ c ≤ 90000 ∧ StreamAt H S L c ∧
  ∀ (v : V) (H' : Hp), Thing H' v → New H v → StreamAt H' S L (c + 1) → Kept S L H H' → Q v H'
/-- the two dashes ahead of a name -/
def dd (ns : List Str) : Str := match ns with
  | [] => Str.ofString "--"
  | n :: _ => Str.ofString "--" ++ n
theorem dd_thing {H : Hp} {ns : List Str} (good : ∀ z ∈ ns, Name1 z) : Thing H (.str (dd ns)) := by
  cases ns with
  | nil => exact .word _ (by decide) (by decide)
  | cons n r =>
    have g := good n List.mem_cons_self
    refine .str (fun ch hc => ?_) ?_
    · have hc : ch ∈ (Str.ofString "--" ++ n).cps.toList := hc
      have e : (Str.ofString "--" ++ n).cps.toList = (Str.ofString "--").cps.toList ++ n.cps.toList := by
        show ((Str.ofString "--").cps ++ n.cps).toList = _
        rw [Array.toList_append]
      rw [e] at hc
      rcases List.mem_append.mp hc with h | h
      · exact fit_of (z := Str.ofString "--") (by decide) ch h
      · exact g.fit ch h
    · have e : (Str.ofString "--" ++ n).length = 2 + n.length := by
        show ((Str.ofString "--").cps ++ n.cps).size = _
        rw [Array.size_append]
        rfl
      show (Str.ofString "--" ++ n).length ≤ 40
      have := g.2.1
      omega
section
variable {P : Program} {w : World} {K : PySem.W.Frag} {mg : Str → Option Value} {base : Heap} {f fD fP : Addr} {fd fdD fdP : FuncData}
theorem scNeg : FnScope ["_law_one"] ["_law_one"] (defScope sNeg) := ⟨rfl, rfl, rfl, by decide +kernel, rfl, by decide +kernel, by decide +kernel⟩
theorem ok_neg (F : Fun K "_law_neg" "_law_neg" sNeg f fd) : FnOk P w K mg base CX0 1 f fd ["_law_one"] spOpp := by
  refine F.ok scNeg (fun vs H Q E h => ?_) (fun cdv A outer s H vs Q E hr h => ?_)
  · obtain ⟨q, rfl, _⟩ := h
    rfl
  · obtain ⟨q, rfl, good, k⟩ := h
    refine ⟨_, pss_one (ps_ret (pe_ifExp (pt_cmpR op_eq (pe_slice sl_str (pv 0) po_none (po_some pe_int)) pe_str (nomark _)) (pe_slice sl_str (pv 0) (po_some pe_int) po_none) (pe_op op_add_str pe_str (pv 0)))), ?_⟩
    have l9 := lit_len good
    have ll : (lit q).length ≤ sizeLine := by rw [sizeLine_eq]; omega
    refine ⟨_, rfl, _, rfl, lit q, rfl, ll, rfl, _, rfl, ?_⟩
    obtain ⟨b, n⟩ := q
    cases b
    · have e : decide (V.str (cutS (lit (false, n)) none (some 1)) = V.str (Str.ofString "-")) = false := decide_eq_false fun h => by
        injection h with h
        exact Bool.noConfusion ((dash_lit good).mp h)
      rw [e]
      refine iteF ⟨_, rfl, _, _, rfl, rfl, ?_, k⟩
      show 1 + (lit (false, n)).length ≤ sizeLine
      rw [sizeLine_eq]; omega
    · have e : decide (V.str (cutS (lit (true, n)) none (some 1)) = V.str (Str.ofString "-")) = true := decide_eq_true (by rw [(dash_lit (q := (true, n)) good).mpr rfl])
      rw [e]
      refine iteT ⟨_, rfl, _, rfl, lit (true, n), rfl, ll, ?_⟩
      rw [show cutS (lit (true, n)) (some 1) none = n from cut_neg n]
      exact k
abbrev nOdd : List Str := ["_law_stream", "_law_names_here", "_law_odd_here"]
theorem scOdd : FnScope nOdd ["_law_stream", "_law_names_here"] (defScope sOdd) := ⟨rfl, rfl, rfl, by decide +kernel, rfl, by decide +kernel, by decide +kernel⟩
theorem ok_odd (F : Fun K "_law_odd" "_law_odd" sOdd f fd) (GP : FnOk P w K mg base CX0 2 fP fdP ["_law_stream", "_law_things"] (spPickL K)) (mP : mg "_law_pick" = some (.ref fP)) (kP : PySem.W.keepIn K (.ref fP) = true) (bP : L2.Binds K fdP ["_law_stream", "_law_things"] []) :
    FnOk P w K mg base CX0 3 f fd ["_law_stream", "_law_names_here"] (spOdd K) := by
  refine F.ok scOdd (fun vs H Q E h => ?_) (fun cdv A outer s H vs Q E hr h => ?_)
  · obtain ⟨S, L, T, ns, c, rfl, _⟩ := h
    rfl
  · obtain ⟨S, L, T, ns, c, rfl, hT, hn, good, hc, hS, k⟩ := h
    refine ⟨_, pss_cons (ps_set (i := 2) scOdd.nd rfl (.inl rfl) (pe_lst (pa_cons pe_str (pa_cons pe_str (pa_cons (pe_ifExp (pt_cmpR (op_neD hr.units) (pv 1) (pe_lst pa_nil) (nomark _)) (pe_op op_add_str pe_str (pe_ix ix_list (pv 1) pe_int (fun _ _ => rfl))) pe_str)
        (pa_cons pe_str (pa_cons pe_str (pa_cons pe_non (pa_cons pe_int (pa_cons pe_bl (pa_cons (pe_tup (pa_cons pe_str pa_nil)) (pa_cons (pe_lst (pa_cons pe_str pa_nil)) (pa_cons pe_dnewK (pa_cons pe_str pa_nil))))))))))))))
      (pss_one (ps_ret (pe_call GP hr (by rfl) mP kP bP .nil pass0 (pa_cons (pv 0) (pa_cons (pe_op op_cat (pv 2) (pe_lst (pa_cons pe_str (pa_cons pe_str pa_nil)))) pa_nil))))), ?_⟩
    have fin : ∀ (H1 : Hp), Same H H1 → ∀ t, H1 t = none → ∀ l, upd H1 t (.tup [.str (Str.ofString "a")]) l = none → ∀ d, upd (upd H1 t (.tup [.str (Str.ofString "a")])) l (.lst [.str (Str.ofString "b")]) d = none →
        ∀ p, upd (upd (upd H1 t (.tup [.str (Str.ofString "a")])) l (.lst [.str (Str.ofString "b")])) d (.dK []) p = none → ∀ H5 : Hp, H5 = upd (upd (upd (upd H1 t (.tup [.str (Str.ofString "a")])) l (.lst [.str (Str.ofString "b")])) d (.dK [])) p (.lst [.str (Str.ofString ""), .str (Str.ofString "-"), .str (dd ns), .str (Str.ofString "Zz"), .str (Str.ofString "-Zz"), .non, .int 5, .bl true, .ref t, .ref l, .ref d, .str (Str.ofString "a b")]) →
        H5 p = some (.lst [.str (Str.ofString ""), .str (Str.ofString "-"), .str (dd ns), .str (Str.ofString "Zz"), .str (Str.ofString "-Zz"), .non, .int 5, .bl true, .ref t, .ref l, .ref d, .str (Str.ofString "a b")]) ∧ Same H H5 ∧
        ∀ v ∈ ([.str (Str.ofString ""), .str (Str.ofString "-"), .str (dd ns), .str (Str.ofString "Zz"), .str (Str.ofString "-Zz"), .non, .int 5, .bl true, .ref t, .ref l, .ref d, .str (Str.ofString "a b")] ++ [.str (Str.ofString "ninewords"), .str (Str.ofString "-ninewords")] : List V), Thing H5 v ∧ New H v := by
      intro H1 sm1 t ht l hl d hd p hp H5 e5
      have s1 : Same H1 _ := same_new (o := .tup [.str (Str.ofString "a")]) ht
      have s2 := same_new (o := .lst [.str (Str.ofString "b")]) hl
      have s3 := same_new (o := .dK []) hd
      have s4 := same_new (o := .lst [.str (Str.ofString ""), .str (Str.ofString "-"), .str (dd ns), .str (Str.ofString "Zz"), .str (Str.ofString "-Zz"), .non, .int 5, .bl true, .ref t, .ref l, .ref d, .str (Str.ofString "a b")]) hp
      subst e5
      have sm05 := (((sm1.trans s1).trans s2).trans s3).trans s4
      have nt : H t = none := sm1.free ht
      have nl : H l = none := (sm1.trans s1).free hl
      have nd : H d = none := ((sm1.trans s1).trans s2).free hd
      refine ⟨upd_same, sm05, fun v hv => ?_⟩
      simp only [List.cons_append, List.nil_append, List.mem_cons, List.not_mem_nil, or_false] at hv
      rcases hv with rfl | rfl | rfl | rfl | rfl | rfl | rfl | rfl | rfl | rfl | rfl | rfl | rfl | rfl
      · exact ⟨.word _ (by decide) (by decide), New.str⟩
      · exact ⟨.word _ (by decide) (by decide), New.str⟩
      · exact ⟨dd_thing good, New.str⟩
      · exact ⟨.word _ (by decide) (by decide), New.str⟩
      · exact ⟨.word _ (by decide) (by decide), New.str⟩
      · exact ⟨.non, fun _ e => nomatch e⟩
      · exact ⟨.five, fun _ e => nomatch e⟩
      · exact ⟨.bl true, fun _ e => nomatch e⟩
      · exact ⟨.tup (s4 _ _ (s3 _ _ (s2 _ _ upd_same))) (fit_of (by decide)) (by decide), fun a e => by injection e with e; exact e ▸ nt⟩
      · exact ⟨.lst (s4 _ _ (s3 _ _ upd_same)) (fit_of (by decide)) (by decide), fun a e => by injection e with e; exact e ▸ nl⟩
      · exact ⟨.dct (s4 _ _ upd_same), fun a e => by injection e with e; exact e ▸ nd⟩
      · exact ⟨.word _ (by decide) (by decide), New.str⟩
      · exact ⟨.word _ (by decide) (by decide), New.str⟩
      · exact ⟨.word _ (by decide) (by decide), New.str⟩
    have two := hS.two
    have hT0 := hT H (Same.refl H)
    refine ⟨_, rfl, Nat.zero_le _, fun pe hpe => ?_⟩
    have sme : Same H (upd H pe (.lst [])) := same_new hpe
    refine ⟨_, _, .lst (hT _ sme) (dp_strs ns), .lst (SqL.of upd_same) .nil, shaped_strs ns fun z hz => (good z hz).fit, rfl, _, rfl, ?_⟩
    rw [eqv_nilS]
    generalize upd H pe (.lst []) = H1 at sme
    have hT1 := hT _ sme
    cases ns
    case' nil => refine iteF ?_
    case' cons n r =>
      refine iteT ⟨_, rfl, T, _, 0, _, rfl, rfl, hT1, atI_0, _, _, rfl, rfl, ?_, ?_⟩
      · have := (good n List.mem_cons_self).2.1
        show 2 + n.length ≤ sizeLine
        rw [sizeLine_eq]; omega
    all_goals
      refine ⟨by show 1 ≤ sizeLine; decide, fun t ht => ⟨by show 1 ≤ sizeLine; decide, fun l hl => fun d hd => ⟨by show 12 ≤ sizeLine; decide, fun p hp => ?_⟩⟩⟩
      obtain ⟨hp5, sm5, all⟩ := fin H1 sme t ht l hl d hd p hp _ rfl
      refine ⟨_, rfl, _, rfl, by show 2 ≤ sizeLine; decide, fun q hq => ⟨p, q, _, _, rfl, rfl, (same_new hq) _ _ hp5, upd_same, by show 12 + 2 ≤ sizeLine; decide, fun u hu => ?_⟩⟩
      have sq := same_new (o := .lst [.str (Str.ofString "ninewords"), .str (Str.ofString "-ninewords")]) hq
      have su := fun (o : HO) => same_new (o := o) hu
      have sm7 := fun (o : HO) => (sm5.trans sq).trans (su o)
      have hS7 := fun (o : HO) => hS.same (sm7 o)
      have offu := (hS.same (sm5.trans sq)).off hu
      refine ⟨S, L, u, _, c, rfl, SqL.of upd_same, (fun H' kk => SqL.of (kk _ _ upd_same offu.1 offu.2)), (by show 0 < 14; decide), (by show 14 ≤ 1000; decide), by omega, hS7 _, fun i v H' hv hS' hk => ?_⟩
      obtain ⟨tv, nv⟩ := all v (List.mem_of_getElem? hv)
      refine k v H' (Thing.kept ((tv.same sq).same (su _)) nv two hk) nv hS' fun b o h n1 n2 => hk b o (sm7 _ b o h) n1 n2
end
end K6
namespace K6
open PySem PySem.Spec PyProof.Rows L2 LamX NdefX EV
def NewI (H : Hp) (v : V) (io : Option (List V)) : Prop := New H v ∧ ∀ xs, io = some xs → ∀ x ∈ xs, New H x
def spSpoiled (K : PySem.W.Frag) : Sp := fun vs H Q _ => ∃ (S L A T : Addr) (qs : List (Bool × Str)) (ns : List Str) (c : Nat), vs = [.ref S, .ref A, .ref T] ∧ SqL K H A ((qs.map lit).map V.str) ∧ SqL K H T (ns.map V.str) ∧ (∀ H', Kept S L H H' → SqL K H' T (ns.map V.str)) ∧ ns.length ≤ 60 ∧ (∀ z ∈ ns, Name1 z) ∧ (∀ q ∈ qs, Name1 q.2) ∧ qs.length ≤ 12 ∧ c ≤ 80000 ∧ StreamAt H S L c ∧
  ∀ (v : V) (io : Option (List V)) (c' : Nat) (H' : Hp), ItemAt H' v io → NewI H v io → c' ≤ c + 6 → StreamAt H' S L c' → Kept S L H H' → Q v H'
theorem eqI_t (a : Int) : decide (V.int a = V.int a) = true := decide_eq_true rfl
theorem eqI_f {a b : Int} (h : a ≠ b) : decide (V.int a = V.int b) = false := decide_eq_false fun e => h (by injection e)
/-- the list under way -/
structure Way (H H' : Hp) (S L l : Addr) (c c' : Nat) (xs : List V) : Prop where
  at_ : H' l = some (.lst xs)
  th : ∀ x ∈ xs, Thing H' x ∧ New H x
  few : xs.length ≤ 14
  st : StreamAt H' S L c'
  kept : Kept S L H H'
  c6 : c' ≤ c + 5
  new : H l = none
theorem Way.off {H H' : Hp} {S L l : Addr} {c c' : Nat} {xs : List V} (w : Way H H' S L l c c' xs) (two : Two H S L) : l ≠ S ∧ l ≠ L := by
  obtain ⟨⟨_, g1⟩, ⟨_, g2⟩⟩ := two
  have n := w.new
  exact ⟨(fun q => by rw [q, g1] at n; cases n), (fun q => by rw [q, g2] at n; cases n)⟩
theorem Way.step {H H' H2 : Hp} {S L l : Addr} {c c' c2 : Nat} {xs : List V} (w : Way H H' S L l c c' xs) (two : Two H S L) (k : Kept S L H' H2) (st : StreamAt H2 S L c2) (h : c2 ≤ c + 5) : Way H H2 S L l c c2 xs :=
  ⟨k _ _ w.at_ (w.off two).1 (w.off two).2, fun x hx => ⟨(w.th x hx).1.kept (w.th x hx).2 two k, (w.th x hx).2⟩, w.few, st, w.kept.trans k, h, w.new⟩
theorem Way.same {H H' H2 : Hp} {S L l : Addr} {c c' : Nat} {xs : List V} (w : Way H H' S L l c c' xs) (two : Two H S L) (k : Same H' H2) : Way H H2 S L l c c' xs := w.step two (fun b o h _ _ => k b o h) (w.st.same k) w.c6
/-- other things in the list -/
theorem Way.put {H H' : Hp} {S L l : Addr} {c c' : Nat} {xs ys : List V} (w : Way H H' S L l c c' xs) (two : Two H S L) (th : ∀ x ∈ ys, Thing H' x ∧ New H x) (nl : ∀ x ∈ ys, ∀ a, x = .ref a → a ≠ l) (few : ys.length ≤ 14) : Way H (upd H' l (.lst ys)) S L l c c' ys :=
  ⟨upd_same, fun x hx => ⟨(th x hx).1.frame fun a e => upd_ne (nl x hx a e), (th x hx).2⟩, few, w.st.put (w.off two).1 (w.off two).2, kept_upd w.kept w.new, w.c6, w.new⟩
section
variable {P : Program} {w : World} {K : PySem.W.Frag} {mg : Str → Option Value} {base : Heap} {f fD fP fO fN : Addr} {fd fdD fdP fdO fdN : FuncData}
abbrev nSp : List Str := ["_law_stream", "_law_setting", "_law_names_here", "_law_found", "_law_way"]
theorem scSp : FnScope nSp ["_law_stream", "_law_setting", "_law_names_here"] (defScope sSpoiled) := ⟨rfl, rfl, rfl, by decide +kernel, rfl, by decide +kernel, by decide +kernel⟩
theorem ok_spoiled (F : Fun K "_law_spoiled" "_law_spoiled" sSpoiled f fd) (GD : FnOk P w K mg base CX0 1 fD fdD ["_law_stream", "_law_many"] spDraw) (mD : mg "_law_draw" = some (.ref fD)) (kD : PySem.W.keepIn K (.ref fD) = true) (bD : L2.Binds K fdD ["_law_stream", "_law_many"] [])
    (GP : FnOk P w K mg base CX0 2 fP fdP ["_law_stream", "_law_things"] (spPickL K)) (mP : mg "_law_pick" = some (.ref fP)) (kP : PySem.W.keepIn K (.ref fP) = true) (bP : L2.Binds K fdP ["_law_stream", "_law_things"] [])
    (GO : FnOk P w K mg base CX0 3 fO fdO ["_law_stream", "_law_names_here"] (spOdd K)) (mO : mg "_law_odd" = some (.ref fO)) (kO : PySem.W.keepIn K (.ref fO) = true) (bO : L2.Binds K fdO ["_law_stream", "_law_names_here"] [])
    (GN : FnOk P w K mg base CX0 1 fN fdN ["_law_one"] spOpp) (mN : mg "_law_neg" = some (.ref fN)) (kN : PySem.W.keepIn K (.ref fN) = true) (bN : L2.Binds K fdN ["_law_one"] [])
    (ml : mg "len" = none) (mli : mg "list" = none) (mt : mg "tuple" = none) :
    FnOk P w K mg base CX0 4 f fd ["_law_stream", "_law_setting", "_law_names_here"] (spSpoiled K) := by
  refine F.ok scSp (fun vs H Q E h => ?_) (fun cdv A' outer s H vs Q E hr h => ?_)
  · obtain ⟨S, L, A, T, qs, ns, c, rfl, _⟩ := h
    rfl
  · obtain ⟨S, L, A, T, qs, ns, c, rfl, hA, hT0, hT, hn, good, gq, q12, hc, hS, k⟩ := h
    have hr1 : Room 1 _ := hr.mono (by decide)
    have hr2 : Room 2 _ := hr.mono (by decide)
    have two := hS.two
    obtain ⟨tt, htt, fin⟩ : ∃ tt, PSs (cxOf CX0 P w K mg base nSp "_law_spoiled" (defScope sSpoiled) f cdv A' outer s H E).nox ((defBody sSpoiled).drop 2) tt ∧ ∀ (H' : Hp) (l : Addr) (r : Int) (c' : Nat) (xs : List V), Way H H' S L l c c' xs →
        tt { nx := fun _ H' => Q .non H', rt := Q } [some (.ref S), some (.ref A), some (.ref T), some (.ref l), some (.int r)] H' := by
      refine ⟨_, pss_one (ps_ret (pe_ifExp (pt_cmpR op_eq (pe_call GD hr1 (by rfl) mD kD bD .nil pass0 (pa_cons (pv 0) (pa_cons pe_int pa_nil))) pe_int (nomark _)) (pv 3) (pe_callTy call_tuple_of (by rfl) mt (by decide +kernel) (pa_cons (pv 3) pa_nil)))), fun H' l r c' xs w => ?_⟩
      have c6 := w.c6
      have nl : New H (.ref l) := fun a e => by injection e with e; exact e ▸ w.new
      refine ⟨_, rfl, S, L, 2, c', rfl, by decide, by decide, by omega, w.st, fun r' H3 _ _ hS3 hk3 => ⟨rfl, _, rfl, ?_⟩⟩
      have h3 := hk3 _ _ w.at_ (w.off two).1 (w.off two).2
      have th3 : ∀ x ∈ xs, Thing H3 x := fun x hx => (w.th x hx).1.kept (w.th x hx).2 two hk3
      have w14 := w.few
      refine ite2 (fun _ => ?_) (fun _ => ?_)
      · exact ⟨_, rfl, k (.ref l) (some xs) (c' + 1) H3 (.lst h3 th3 (by omega)) ⟨nl, fun ys e x hx => (w.th x (by rw [Option.some.inj e]; exact hx)).2⟩ (by omega) hS3 (w.kept.trans hk3)⟩
      · refine ⟨_, rfl, l, xs, rfl, .inl ⟨SqL.of h3, fun p hp => ?_⟩⟩
        have sp : Same H3 (upd H3 p (.tup xs)) := same_new hp
        have offp := hS3.off hp
        have np : H p = none := (w.kept.trans hk3).none hp offp.1 offp.2
        exact k (.ref p) (some xs) (c' + 1) _ (.tup upd_same (fun x hx => (th3 x hx).same sp) (by omega)) ⟨fun a e => by injection e with e; exact e ▸ np, fun ys e x hx => (w.th x (by rw [Option.some.inj e]; exact hx)).2⟩ (by omega) (hS3.same sp) ((w.kept.trans hk3).trans fun b o e _ _ => sp b o e)
    refine ⟨_, pss_cons (ps_par (i := 3) (j := 4) rfl scSp.nd rfl rfl (by decide) rfl rfl (pa_cons (pe_callTy call_list_of (by rfl) mli (by decide +kernel) (pa_cons (pv 1) pa_nil)) (pa_cons (pe_call GD hr1 (by rfl) mD kD bD .nil pass0 (pa_cons (pv 0) (pa_cons pe_int pa_nil))) pa_nil)) rfl)
      (pss_cons (ps_if (pt_cmpR op_eq (pv 4) pe_int (nomark _))
        (pss_one (ps_expr (pe_bm PySem.F.plainAttrs_list PySem.F.slot_list_insert PySem.F.type_list_insert mt_insert (pv 3) (pa_cons (pe_call GD hr1 (by rfl) mD kD bD .nil pass0 (pa_cons (pv 0) (pa_cons (pe_op op_add (pe_callB call_len (by rfl) ml PySem.boot_len (pa_cons (pv 3) pa_nil)) pe_int) pa_nil))) (pa_cons (pe_call GO hr (by rfl) mO kO bO .nil pass0 (pa_cons (pv 0) (pa_cons (pv 2) pa_nil))) pa_nil)))))
        (pss_one (ps_if (PW.pt (pw_and (pt_cmpR op_eq (pv 4) pe_int (nomark _)) (pw_and1 (pt_cmpR (op_neD hr.units) (pv 3) (pe_lst pa_nil) (nomark _)))))
          (pss_one (ps_asg (pe_call GO hr (by rfl) mO kO bO .nil pass0 (pa_cons (pv 0) (pa_cons (pv 2) pa_nil))) (pg_sub (pv 3) (pe_call GD hr1 (by rfl) mD kD bD .nil pass0 (pa_cons (pv 0) (pa_cons (pe_callB call_len (by rfl) ml PySem.boot_len (pa_cons (pv 3) pa_nil)) pa_nil))) set_list)))
          (pss_one (ps_if (PW.pt (pw_and (pt_cmpR op_eq (pv 4) pe_int (nomark _)) (pw_and1 (pt_cmpR (op_neD hr.units) (pv 3) (pe_lst pa_nil) (nomark _)))))
            (pss_one (ps_expr (pe_bm PySem.F.plainAttrs_list PySem.F.slot_list_append PySem.F.type_list_append mt_append (pv 3) (pa_cons (pe_call GP hr2 (by rfl) mP kP bP .nil pass0 (pa_cons (pv 0) (pa_cons (pe_lst (pa_cons (pe_ix ix_list (pv 3) pe_int (fun _ _ => rfl)) (pa_cons (pe_call GN hr1 (by rfl) mN kN bN .nil pass0 (pa_cons (pe_ix ix_list (pv 3) pe_int (fun _ _ => rfl)) pa_nil)) pa_nil))) pa_nil))) pa_nil))))
            (pss_one (ps_if (pt_cmpR op_eq (pv 4) pe_int (nomark _))
              (pss_one (ps_ret (pe_call GP hr2 (by rfl) mP kP bP .nil pass0 (pa_cons (pv 0) (pa_cons (pe_lst (pa_cons pe_non (pa_cons pe_int (pa_cons pe_str (pa_cons pe_dnewK (pa_cons pe_bl (pa_cons pe_str pa_nil))))))) pa_nil)))))
              (pss_one (ps_if (pt_cmpR op_eq (pv 4) pe_int (nomark _)) (pss_one (ps_ret (pe_slice sl_list (pv 3) (po_some pe_int) po_none))) pss_nil)))))))))
      htt), ?_⟩
    refine ⟨_, rfl, A, _, rfl, Sq.any (b := true) hA, fun l hl => ?_⟩
    have sl : Same H _ := same_new (o := .lst ((qs.map lit).map V.str)) hl
    refine ⟨_, rfl, S, L, 6, c, rfl, by decide, by decide, by omega, hS.new hl, fun r H1 r0 r1 hS1 hk1 => ?_⟩
    have hSl := hS.new (o := .lst ((qs.map lit).map V.str)) hl
    have offl := hS.off hl
    have w1 : Way H H1 S L l c (c + 1) ((qs.map lit).map V.str) := ⟨hk1 _ _ upd_same offl.1 offl.2, fun x hx => by
      obtain ⟨z, hz, rfl⟩ := List.mem_map.mp hx
      obtain ⟨q, hq, rfl⟩ := List.mem_map.mp hz
      exact ⟨.lit (gq q hq), New.str⟩, by rw [List.length_map, List.length_map]; omega, hS1, (fun b o h n1 n2 => hk1 b o (sl b o h) n1 n2), by omega, hl⟩
    refine ⟨_, _, rfl, ?_⟩
    have w2 := w1
    have e0 : (qs.map lit).map V.str = [] ↔ qs = [] := by simp
    have lx : ((qs.map lit).map V.str).length = qs.length := by rw [List.length_map, List.length_map]
    have nref : ∀ x ∈ (qs.map lit).map V.str, ∀ a, x ≠ .ref a := fun x hx a e => by
      obtain ⟨z, _, rfl⟩ := List.mem_map.mp hx
      cases e
    have fits : ∀ z ∈ qs.map lit, Fit z := fun z hz => by
      obtain ⟨q, hq, rfl⟩ := List.mem_map.mp hz
      exact Fit.lit (gq q hq).fit
    have nonempty : ∀ {H9 : Hp} {pe : Addr}, Way H H9 S L l c (c + 1) ((qs.map lit).map V.str) → H9 pe = none → True := fun _ _ => trivial
    -- what is new at a draw behind the list
    have fresh : ∀ {H9 : Hp} {c9 : Nat} {v : V}, Way H H9 S L l c c9 ((qs.map lit).map V.str) → New H9 v → New H v ∧ ∀ a, v = .ref a → a ≠ l := fun {H9 c9 v} w9 nv =>
      ⟨nv.kept w9.kept w9.st.two, fun a e q => by have z := nv a e; rw [q, w9.at_] at z; cases z⟩
    have w2c := w2.c6
    obtain rfl | rfl | rfl | rfl | rfl | rfl : r = 0 ∨ r = 1 ∨ r = 2 ∨ r = 3 ∨ r = 4 ∨ r = 5 := by omega
    · -- a thing is put in
      refine ⟨_, rfl, rfl, _, rfl, ?_⟩
      rw [eqI_t]
      refine iteT ⟨_, rfl, .inl ⟨rfl, _, SqL.of w2.at_⟩, _, rfl, _, rfl, _, _, rfl, .inl ⟨_, SqL.of w2.at_, rfl⟩, _, _, rfl, rfl, S, L, _, c + 1, rfl, by omega, by rw [lx]; omega, by omega, w2.st, fun i H3 i0 i1 hS3 hk3 => ?_⟩
      have w3 := w2.step two hk3 hS3 (by omega)
      refine ⟨_, rfl, _, rfl, S, L, T, ns, _, rfl, (fun H' s' => hT H' (w3.kept.trans fun b o h _ _ => s' b o h)), hn, good, by omega, hS3, fun v H4 tv nv hS4 hk4 => ?_⟩
      have w4 := w3.step two hk4 hS4 (by omega)
      obtain ⟨nv1, nv2⟩ := fresh w3 nv
      rw [lx] at i1
      refine ⟨l, _, i, v, rfl, rfl, w4.at_, by rw [lx, sizeLine_eq]; omega, i0, by omega, fin _ l 0 _ _ (w4.put two (fun x hx => ?_) (fun x hx a e => ?_) ?_)⟩
      · rcases List.mem_append.mp hx with hx | hx
        · rcases List.mem_append.mp hx with hx | hx
          · exact w4.th x (List.mem_of_mem_take hx)
          · rw [List.mem_singleton.mp hx]
            exact ⟨tv, nv1⟩
        · exact w4.th x (List.mem_of_mem_drop hx)
      · rcases List.mem_append.mp hx with hx | hx
        · rcases List.mem_append.mp hx with hx | hx
          · exact (nref x (List.mem_of_mem_take hx) a e).elim
          · rw [List.mem_singleton.mp hx] at e
            exact nv2 a e
        · exact (nref x (List.mem_of_mem_drop hx) a e).elim
      · rw [List.length_append, List.length_append, List.length_take, List.length_drop, lx]
        show _ + 1 + _ ≤ 14
        omega
    · -- a thing in another's place
      refine ⟨_, rfl, rfl, _, rfl, ?_⟩
      rw [eqI_f (a := 1) (b := 0) (by decide)]
      refine iteF ⟨_, rfl, rfl, _, rfl, ?_⟩
      rw [eqI_t]
      refine iteT ⟨_, rfl, Nat.zero_le _, fun pe hpe => ?_⟩
      have w2' := w2.same two (same_new (o := .lst []) hpe)
      refine ⟨_, _, .lst (SqL.of w2'.at_) (dp_strs _), .lst (SqL.of upd_same) .nil, shaped_strs _ fits, rfl, _, rfl, ?_⟩
      rw [eqv_nilS]
      generalize upd H1 pe (.lst []) = H2' at w2' ⊢
      by_cases eq : qs.map lit = []
      · rw [decide_eq_true eq]
        refine iteF ⟨_, rfl, rfl, _, rfl, ?_⟩
        rw [eqI_f (a := 1) (b := 2) (by decide)]
        refine iteF (iteF ⟨_, rfl, rfl, _, rfl, ?_⟩)
        rw [eqI_f (a := 1) (b := 3) (by decide)]
        refine iteF ⟨_, rfl, rfl, _, rfl, ?_⟩
        rw [eqI_f (a := 1) (b := 4) (by decide)]
        exact iteF (fin _ l 1 _ _ w2')
      · rw [decide_eq_false eq]
        have q0 : 0 < qs.length := by
          cases qs with
          | nil => exact (eq rfl).elim
          | cons q r => exact Nat.succ_pos _
        refine iteT ⟨_, rfl, _, rfl, S, L, T, ns, _, rfl, (fun H' s' => hT H' (w2'.kept.trans fun b o h _ _ => s' b o h)), hn, good, by omega, w2'.st, fun v H3 tv nv hS3 hk3 => ?_⟩
        have w3 := w2'.step two hk3 hS3 (by omega)
        obtain ⟨nv1, nv2⟩ := fresh w2' nv
        refine ⟨_, rfl, _, rfl, _, rfl, _, _, rfl, .inl ⟨_, SqL.of w3.at_, rfl⟩, S, L, _, _, rfl, by rw [lx]; omega, by rw [lx]; omega, by omega, hS3, fun i H4 i0 i1 hS4 hk4 => ?_⟩
        have w4 := w3.step two hk4 hS4 (by omega)
        have tv4 : Thing H4 v := tv.kept nv1 two hk4
        rw [lx] at i1
        refine ⟨l, _, i, i.toNat, rfl, rfl, w4.at_, ?_, fin _ l 1 _ _ (w4.put two (fun x hx => ?_) (fun x hx a e => ?_) ?_)⟩
        · unfold ixN
          rw [if_pos i0, if_pos (by rw [lx]; omega)]
        · rcases List.mem_or_eq_of_mem_set hx with hx | rfl
          · exact w4.th x hx
          · exact ⟨tv4, nv1⟩
        · rcases List.mem_or_eq_of_mem_set hx with hx | rfl
          · exact (nref x hx a e).elim
          · exact nv2 a e
        · rw [List.length_set, lx]
          omega
    · -- the first one's name twice
      refine ⟨_, rfl, rfl, _, rfl, ?_⟩
      rw [eqI_f (a := 2) (b := 0) (by decide)]
      refine iteF ⟨_, rfl, rfl, _, rfl, ?_⟩
      rw [eqI_f (a := 2) (b := 1) (by decide)]
      refine iteF (iteF ⟨_, rfl, rfl, _, rfl, ?_⟩)
      rw [eqI_t]
      refine iteT ⟨_, rfl, Nat.zero_le _, fun pe hpe => ?_⟩
      have w2' := w2.same two (same_new (o := .lst []) hpe)
      refine ⟨_, _, .lst (SqL.of w2'.at_) (dp_strs _), .lst (SqL.of upd_same) .nil, shaped_strs _ fits, rfl, _, rfl, ?_⟩
      rw [eqv_nilS]
      generalize upd H1 pe (.lst []) = H2' at w2' ⊢
      by_cases eq : qs.map lit = []
      · rw [decide_eq_true eq]
        refine iteF ⟨_, rfl, rfl, _, rfl, ?_⟩
        rw [eqI_f (a := 2) (b := 3) (by decide)]
        refine iteF ⟨_, rfl, rfl, _, rfl, ?_⟩
        rw [eqI_f (a := 2) (b := 4) (by decide)]
        exact iteF (fin _ l 2 _ _ w2')
      · rw [decide_eq_false eq]
        obtain ⟨q, r, rfl⟩ : ∃ q r, qs = q :: r := by
          cases qs with
          | nil => exact (eq rfl).elim
          | cons q r => exact ⟨q, r, rfl⟩
        have g := gq q List.mem_cons_self
        have at0 := w2'.at_
        refine iteT ⟨_, rfl, .inl ⟨rfl, _, SqL.of at0⟩, _, rfl, _, rfl, l, _, 0, _, rfl, rfl, SqL.of at0, atI_0, _, rfl, l, _, 0, _, rfl, rfl, SqL.of at0, atI_0, q, rfl, g, by show 2 ≤ sizeLine; decide, fun m hm => ?_⟩
        have w3 := w2'.same two (same_new (o := .lst [.str (lit q), .str (lit (opp q))]) hm)
        have offm := w2'.st.off hm
        have hm3 : upd H2' m (.lst [.str (lit q), .str (lit (opp q))]) m = some (.lst [.str (lit q), .str (lit (opp q))]) := upd_same
        refine ⟨S, L, m, _, _, rfl, SqL.of hm3, (fun H' kk => SqL.of (kk _ _ hm3 offm.1 offm.2)), (by show 0 < 2; decide), (by show 2 ≤ 1000; decide), by omega, w3.st, fun i v H4 hv hS4 hk4 => ?_⟩
        have w4 := w3.step two hk4 hS4 (by omega)
        have tv : Thing H4 v ∧ ∀ a, v ≠ .ref a := by
          have mem := List.mem_of_getElem? hv
          simp only [List.mem_cons, List.not_mem_nil, or_false] at mem
          rcases mem with rfl | rfl
          · exact ⟨.lit g, fun a e => nomatch e⟩
          · exact ⟨.lit (q := opp q) g, fun a e => nomatch e⟩
        refine ⟨l, _, _, rfl, rfl, w4.at_, by rw [lx, sizeLine_eq]; omega, fin _ l 2 _ _ (w4.put two (fun x hx => ?_) (fun x hx a e => ?_) ?_)⟩
        · rcases List.mem_append.mp hx with hx | hx
          · exact w4.th x hx
          · rw [List.mem_singleton.mp hx]
            exact ⟨tv.1, fun a e => (tv.2 a e).elim⟩
        · rcases List.mem_append.mp hx with hx | hx
          · exact (nref x hx a e).elim
          · rw [List.mem_singleton.mp hx] at e
            exact (tv.2 a e).elim
        · rw [List.length_append, lx]
          show _ + 1 ≤ 14
          omega
    · -- no list
      refine ⟨_, rfl, rfl, _, rfl, ?_⟩
      rw [eqI_f (a := 3) (b := 0) (by decide)]
      refine iteF ⟨_, rfl, rfl, _, rfl, ?_⟩
      rw [eqI_f (a := 3) (b := 1) (by decide)]
      refine iteF (iteF ⟨_, rfl, rfl, _, rfl, ?_⟩)
      rw [eqI_f (a := 3) (b := 2) (by decide)]
      refine iteF (iteF ⟨_, rfl, rfl, _, rfl, ?_⟩)
      rw [eqI_t]
      refine iteT ⟨_, rfl, fun d hd => ⟨by show 6 ≤ sizeLine; decide, fun m hm => ?_⟩⟩
      have sd := same_new (o := .dK []) hd
      have smm := same_new (o := .lst [.non, .int 5, .str (Str.ofString "ab"), .ref d, .bl true, .str (Str.ofString "a")]) hm
      have w3 := (w2.same two sd).same two smm
      have offm := (w2.same two sd).st.off hm
      have offd := w2.st.off hd
      have hdd := smm _ _ (upd_same (H := H1) (a := d) (o := .dK []))
      have nd : H d = none := w2.kept.none hd offd.1 offd.2
      generalize eH : upd (upd H1 d (.dK [])) m (.lst [.non, .int 5, .str (Str.ofString "ab"), .ref d, .bl true, .str (Str.ofString "a")]) = H3 at w3 hdd ⊢
      have hm3 : H3 m = some (.lst [.non, .int 5, .str (Str.ofString "ab"), .ref d, .bl true, .str (Str.ofString "a")]) := eH ▸ upd_same
      refine ⟨S, L, m, _, _, rfl, SqL.of hm3, (fun H' kk => SqL.of (kk _ _ hm3 offm.1 offm.2)), (by show 0 < 6; decide), (by show 6 ≤ 1000; decide), by omega, w3.st, fun i v H4 hv hS4 hk4 => ?_⟩
      have hd4 := hk4 _ _ hdd offd.1 offd.2
      have mem := List.mem_of_getElem? hv
      simp only [List.mem_cons, List.not_mem_nil, or_false] at mem
      have out : ItemAt H4 v none ∧ New H v := by
        rcases mem with rfl | rfl | rfl | rfl | rfl | rfl
        · exact ⟨.non, fun _ e => nomatch e⟩
        · exact ⟨.five, fun _ e => nomatch e⟩
        · exact ⟨.str, fun _ e => nomatch e⟩
        · exact ⟨.dct hd4, fun a e => by injection e with e; exact e ▸ nd⟩
        · exact ⟨.bl true, fun _ e => nomatch e⟩
        · exact ⟨.str, fun _ e => nomatch e⟩
      exact k v none _ H4 out.1 ⟨out.2, fun _ e => nomatch e⟩ (by omega) hS4 (w3.kept.trans hk4)
    · -- without the first one
      refine ⟨_, rfl, rfl, _, rfl, ?_⟩
      rw [eqI_f (a := 4) (b := 0) (by decide)]
      refine iteF ⟨_, rfl, rfl, _, rfl, ?_⟩
      rw [eqI_f (a := 4) (b := 1) (by decide)]
      refine iteF (iteF ⟨_, rfl, rfl, _, rfl, ?_⟩)
      rw [eqI_f (a := 4) (b := 2) (by decide)]
      refine iteF (iteF ⟨_, rfl, rfl, _, rfl, ?_⟩)
      rw [eqI_f (a := 4) (b := 3) (by decide)]
      refine iteF ⟨_, rfl, rfl, _, rfl, ?_⟩
      rw [eqI_t]
      refine iteT ⟨_, rfl, _, rfl, l, _, rfl, SqL.of w2.at_, fun p hp => ?_⟩
      rw [show cutV ((qs.map lit).map V.str) (some 1) none = ((qs.map lit).map V.str).drop 1 from cutV_drop _ 1]
      have sp := same_new (o := .lst (((qs.map lit).map V.str).drop 1)) hp
      have offp := w2.st.off hp
      have np : H p = none := w2.kept.none hp offp.1 offp.2
      exact k (.ref p) (some _) _ _ (.lst upd_same (fun x hx => (w2.th x (List.mem_of_mem_drop hx)).1.same sp) (by rw [List.length_drop, lx]; omega)) ⟨fun a e => by injection e with e; exact e ▸ np, fun ys e x hx => (w2.th x (List.mem_of_mem_drop (by rw [Option.some.inj e]; exact hx))).2⟩ (by omega) (w2.st.same sp) (w2.kept.trans fun b o e _ _ => sp b o e)
    · -- as it is
      refine ⟨_, rfl, rfl, _, rfl, ?_⟩
      rw [eqI_f (a := 5) (b := 0) (by decide)]
      refine iteF ⟨_, rfl, rfl, _, rfl, ?_⟩
      rw [eqI_f (a := 5) (b := 1) (by decide)]
      refine iteF (iteF ⟨_, rfl, rfl, _, rfl, ?_⟩)
      rw [eqI_f (a := 5) (b := 2) (by decide)]
      refine iteF (iteF ⟨_, rfl, rfl, _, rfl, ?_⟩)
      rw [eqI_f (a := 5) (b := 3) (by decide)]
      refine iteF ⟨_, rfl, rfl, _, rfl, ?_⟩
      rw [eqI_f (a := 5) (b := 4) (by decide)]
      exact iteF (fin _ l 5 _ _ w2)
end
end K6
/-! try: .. and several clauses that give the exception the same name. -/
namespace LamX
open PySem PySem.Spec PyProof.Rows L2
abbrev Suite := Addr → Value → Option Addr → TS
/-- the wish of a chain of clauses, the name in slot i -/
def wChain (K : PySem.W.Frag) (i : Nat) (Wo : WX) (D : Ends) : List (Value × Suite) → WX
  | [] => Wo
  | p :: r => wAs K p.1 i p.2 (wChain K i Wo D r) D
inductive Chain (X : Cx) (n : Str) : List ExceptHandler → List (Value × Suite) → Prop
  | nil : Chain X n [] []
  | cons {y : Str} {cv : Value} {tt : Suite} {b1 : Stmt} {bs : List Stmt} {q1 q2 : Pos} {hs : List ExceptHandler} {l : List (Value × Suite)} (nm : Names X y cv)
      (run : ∀ (z : Addr) (oz : Obj) (cls : Value) (d : Option Addr) (pz : List (Addr × Obj)), Zc cls d oz → (∃ us, oz.data = .fields us) → PSs (X.suite z ((z, oz) :: pz)) (b1 :: bs) (tt z cls d))
      (rest : Chain X n hs l) : Chain X n (.ExceptHandler (some (.Name y q1)) (some n) (b1 :: bs) q2 :: hs) ((cv, tt) :: l)
section
variable {X : Cx} {n : Str} {i : Nat} {body : List Stmt} {g0 : ExceptHandler} {gs : List ExceptHandler} {l : List (Value × Suite)} {pos : Pos} {tb : WX → TS} {Wo : WX}
theorem ps_try_chain (e1 : X.stack = X.env :: X.outer) (e2 : X.env.frame = some X.env.locals) (e3 : X.N.Nodup) (e4 : X.N[i]? = some n) (e5 : X.env.kindOf n = some .local) (tk : Takes X Wo)
    (hb : ∀ (W : WX) (pz : List (Addr × Obj)) (xe : Value → Shared → Prop), Takes (X.tr pz xe) W → PassesOwn (model X.prog X.w) X.A X.env xe → PSs (X.tr pz xe) body (tb W))
    (ch : Chain X n (g0 :: gs) l) : PS X (.Try body (g0 :: gs) [] [] pos) (fun D σ H => tb (wChain X.K i Wo D l) D σ H) := by
  refine ⟨fun pins s σ H D I h => ?_⟩
  have okX := I.ok
  have fr := okX.frames.trans (congrArg some e1)
  have own : Loc X.env.scope n := .inl e5
  refine wpAny_Try_except (wpAny_mono ((hb (wChain X.K i Wo D l) (X.pn ++ pins) (fun e t1 => wpAny (model X.prog X.w) X.A (noteFrame e X.env) (fun _ t2 => wpAny (model X.prog X.w) X.A (setFlight e none) (fun _ t3 =>
    wpAny (model X.prog X.w) X.A (handleBy e X.env (g0 :: gs)) (SP X pins D) X.xe t3) X.xe t2) X.xe t1) ?land PassesOwn.looking).run [] s σ H D (I.toTry _) h) ?ends fun e s1 he => he)
  case ends =>
    intro fl s1 q
    cases fl with
    | next => exact let ⟨a1, a2, a3, a4⟩ := q; wpAny_execs_nil ⟨a1, a2, a3.ofTry okX, a4⟩
    | brk => exact let ⟨a1, a2, a3, a4⟩ := q; ⟨a1, a2, a3.ofTry okX, a4⟩
    | cont => exact let ⟨a1, a2, a3, a4⟩ := q; ⟨a1, a2, a3.ofTry okX, a4⟩
    | ret u => exact let ⟨a0, a1, a2, a3, a4, a5⟩ := q; ⟨a0, a1, a2, a3.ofTry okX, a4, a5⟩
  intro ev sv xx
  obtain ⟨z, B, sI, pins', σ', H', cls, d, rfl, J0, nb, up, sky, na, os, ag, ww⟩ := xx
  have J : Inv X pins σ' H' sI := J0.ofTry okX
  have sky2 : Sky B (X.env :: X.outer) z (Zc cls d) X.env.locals sv.heap := e1 ▸ sky
  show wpAny (model X.prog X.w) X.A (noteFrame (.ref z) X.env) _ _ _
  refine Sky.land Zc.steady fr e2 sky2 fun h3 fl3 up3 => ?_
  have J3 : Inv X pins σ' H' { sv with heap := h3 } := J.landed nb fl3.1 (up.trans up3) os ag
  obtain ⟨o3, us3, at3, z3, d3⟩ := fl3.there
  have away : ∀ {h : Heap} {o : Obj} {vs : Array Value}, h.FunFrames B (X.env :: X.outer) → h.get? z = some o → o.data = .fields vs → z ∉ frs (X.env :: X.outer) := fun ff e dd hm => by
    obtain ⟨_, o', e', ne⟩ := ff.mem hm
    cases e.symm.trans e'
    exact ne _ dd
  have off := away fl3.2.2.1 at3 d3
  have offL : z ≠ X.env.locals := fun q => off (List.mem_filterMap.mpr ⟨X.env, List.mem_cons_self, by rw [e2, q]⟩)
  have offF : z ∉ X.fs := fun hm => by
    obtain ⟨e, he, q⟩ := List.mem_filterMap.mp hm
    exact off (List.mem_filterMap.mpr ⟨e, List.mem_cons_of_mem _ he, q⟩)
  have S3 := J3.suite at3 d3 na offL offF
  have go : ∀ {hs' : List ExceptHandler} {l' : List (Value × Suite)}, Chain X n hs' l' → wChain X.K i Wo D l' cls d σ' H' → wpAny (model X.prog X.w) X.A (handleBy (.ref z) X.env hs') (SP X pins D) X.xe { sv with heap := h3 } := by
    intro hs' l' hk
    induction hk with
    | nil =>
      intro w0
      refine wpAny_handleBy_nil ?_
      obtain ⟨_, _, _, oe, vs, T, oT, ts', he, hz, hd, h1, _⟩ := id fl3
      unfold PySem.passOn
      refine wpAny_bind (wpAny_field he hd h1 ?_)
      rw [if_neg (show ¬ ((Value.ref T == Value.none) = true) from by simp)]
      have out : wpAny (model X.prog X.w) X.A (setFlight (.ref z) X.env.frame) (fun _ s4 => wpAny (model X.prog X.w) X.A (throw (.ref z) : Sem Flow) (SP X pins D) X.xe s4) X.xe { sv with heap := h3 } := by
        rw [e2]
        exact HandSPX.setFlight_upZ fl3 fun h4 hh4 up4 => wpAny_throw (tk _ _ ⟨z, B, sI, pins, σ', H', cls, d, rfl, J, nb, (up.trans up3).trans up4, .inr (.inr (by rw [e1]; exact hh4)), na, os, ag, w0⟩)
      first | exact wpAny_bind (wpAny_pure (wpAny_bind out)) | exact wpAny_bind out
    | @cons y cv tt b1 bs q1 q2 hs2 l2 nm run rest ih =>
      intro w0
      obtain ⟨b, hb1, yes, no⟩ := w0
      refine wpAny_handleBy_cons (codeAny_handlers_test ?_) (fun q => by cases q)
      have LT : PySem.W.Looks (model X.prog X.w) h3 (typeOf (.ref z)) cls := fun A Q E s k q => wpAny_typeOf_ref (k _ _ at3) (z3.1.symm ▸ q)
      have LM := PySem.W.exm_one (M := model X.prog X.w) J3.kIn LT hb1
      have reads : ∀ {Q E : Value → Shared → Prop}, Q cv { sv with heap := h3 } → wpAny (model X.prog X.w) (X.A.mark (some (.ref z))) (eval (.Name y q1) X.env) Q E { sv with heap := h3 } := fun {Q E} q => by
        obtain ⟨hg, hdbg, way⟩ := nm
        rcases way with hm | ⟨hm, hv, hnn⟩
        · exact ld_glob (X := X.suite z ((z, o3) :: (X.pn ++ pins))) S3 hg hm q hdbg
        · exact ld_blt (X := X.suite z ((z, o3) :: (X.pn ++ pins))) S3 hg hm hv q hnn hdbg
      refine reads (LM.here ?_)
      cases b with
      | false => exact ih (no rfl)
      | true =>
        refine codeAny_handlers_suite_as (HandSPX.lands_againZ fl3 fun h4 fl4 up4 => ?_)
        obtain ⟨o4, us4, at4, z4, d4⟩ := fl4.there
        have J4 : Inv X pins σ' H' { sv with heap := h4 } := J.landed nb fl4.1 ((up.trans up3).trans up4) os ag
        refine store_ok (X := X.suite z ((z, o4) :: (X.pn ++ pins))) (v := .ref z) (J4.suite at4 d4 na offL offF) e3 e4 own rfl (fun s5 S5 => ?_) (.inr e5)
        have tidy : ∀ {σ6 : L2.St} {H6 : Hp} {s6 : Shared} {Q : Shared → Prop}, Inv (X.suite z ((z, o4) :: (X.pn ++ pins))) [] σ6 H6 s6 → (∀ s7, Inv X pins (σ6.set i none) H6 s7 → Q s7) →
            wpAny (model X.prog X.w) X.A (do bindName X.env n .none; unbindBehindTheSuite X.env n q2) (fun _ s7 => Q s7) X.xe s6 := fun S6 hq => gone_ok (S6.unsuite okX) e3 e4 e5 hq
        refine wpAny_mono ((run z o4 cls d (X.pn ++ pins) z4 ⟨_, d4⟩).run [] s5 _ H' _ S5 (yes rfl z na)) (fun fl s6 q => ?_) (fun _ _ q => q.elim)
        cases fl with
        | next => exact let ⟨_, _, S6, q6⟩ := q; tidy S6 fun s7 J7 => ⟨_, _, J7, q6⟩
        | brk => exact let ⟨_, _, S6, q6⟩ := q; tidy S6 fun s7 J7 => ⟨_, _, J7, q6⟩
        | cont => exact let ⟨_, _, S6, q6⟩ := q; tidy S6 fun s7 J7 => ⟨_, _, J7, q6⟩
        | ret u => exact let ⟨_, _, _, S6, r6, q6⟩ := q; tidy S6 fun s7 J7 => ⟨_, _, _, J7, r6, q6⟩
  exact go ch ww
end
end LamX
/-! x(lambda: ..): the def that gets the lambda catches what it lets out, and reads its own names then -/
namespace LamX
open PySem PySem.Spec PyProof.Rows L2
section
variable {X : Cx} {pins : List (Addr × Obj)} {σ : L2.St} {H HZ : Hp} {s s1 : Shared}
theorem pe_act2 {CXg : CXT} {Eg : XK} {Ng : List Str} {qg : Str} {sg : Scope} {g f c' : Addr} {cdg pm ctv : Value} {params : Arguments} {body : Expr} {scope : Scope} {k i : Nat} {a : Str} {pn : List (Addr × Obj)} {xe : Value → Shared → Prop} {W : WX} {E : XK} {tb : TE} {p1 p2 : Pos}
    (I : Inv X pins σ H s) (L : LamS X.env.scope scope) (hf : s.heap.get? f = some (PySem.W.kla_obj "<lambda>" (X.env.qual ++ "<lambda>") params body scope (cloFrom X.env.cells scope.names []) pm c' ctv)) (hfn : H f = none) (hfr : f ∉ frs X.stack)
    (hbind : bindArgs (PySem.W.kla_fn "<lambda>" (X.env.qual ++ "<lambda>") params body scope (cloFrom X.env.cells scope.names []) pm (.ref c') ctv) ⟨[], []⟩ = pure [])
    (tk : Takes ((cxOf CXg X.prog X.w X.K X.mg X.base Ng qg sg g cdg X.A X.stack s H Eg).tr pn xe) W) (hr : Room (k + 1) (X.A.deeper (envOfC qg sg s.heap.objs.size g cdg)))
    (hbody : ∀ (A : Around) (outer : List Env) (s : Shared) (H : Hp), Room k (A.deeper (lamEnv X scope s.heap.objs.size f c')) → PE (lamCx X A outer s H E scope f c') body tb)
    (hN : Ng[i]? = some a) (hv : Vis sg a) (hd : (a == ("__debug__" : Str)) = false := by decide) (hcd : (a == ("__classdict__" : Str)) = false := by decide) :
    PE ((cxOf CXg X.prog X.w X.K X.mg X.base Ng qg sg g cdg X.A X.stack s H Eg).tr pn xe) (.Call (.Name a p1) [] [] p2)
      (fun σZ HZ Q => σZ[i]? = some (some (.ref f)) ∧ HZ c' = some (CodeO c' (X.env.qual ++ "<lambda>")) ∧ (∀ cls d H', E cls d H' → W cls d σZ H') ∧ tb σ HZ Q) := by
  refine ⟨fun pinsZ sZ σZ HZ Q IZ h => ?_⟩
  obtain ⟨hs, hc, hW, ht⟩ := h
  refine wpAny_Call_Name_kw (thn ((pe_var (pos := p1) (i := i) hN hv hd hcd).run pinsZ sZ σZ HZ (fun v H1 => v = .ref f ∧ H1 = HZ) IZ ⟨.ref f, hs, rfl, rfl⟩) fun u s1 ⟨v, H1, I1, r1, q1⟩ => ?_)
  obtain ⟨ev, eH⟩ := q1
  subst ev
  rw [eH] at I1
  obtain rfl : u = Value.ref f := r1
  have of1 : s1.heap.get? f = some (PySem.W.kla_obj "<lambda>" (X.env.qual ++ "<lambda>") params body scope (cloFrom X.env.cells scope.names []) pm c' ctv) := I1.base.keep f _ hf hfn hfr (fun z => nomatch (show f ∈ ([] : List Addr) from z))
  refine PySem.W.callWith_F0 ⟨_, _, _, _, of1⟩ ?_
  have un : Un (frs X.stack) [] H HZ s.heap s1.heap := I1.base
  obtain ⟨⟨oc, vs, t, hoc, hdc, hvc⟩, _, _⟩ := I1.hok c' _ hc
  have rc : codeAny (model X.prog X.w) (X.A.deeper (envOfC qg sg s.heap.objs.size g cdg)) (.call (.ref f) ⟨[], []⟩) (CR (L2.CX X.prog X.w) (envOfC qg sg s.heap.objs.size g cdg :: X.stack) X.prog X.w HZ s1 Q E) s1 := by
    refine PySem.W.kla_callFunE hr.depth of1 rfl L.co L.gen rfl ⟨c', oc, vs, t, rfl, hoc, hdc, hvc⟩ ?_
    rw [hbind]
    refine wpAny_pure (wpAny_newFunctionEnv (fun y hy => (L.own y hy).2) (fun y hy => absurd hy (by simp)) (fun h₁ hns hsb => ⟨I1.nolimit.fresh _ hsb, ?_⟩) L.kind)
    show codeAny _ _ (.expr body (lamEnv X scope s1.heap.objs.size f c')) _ _
    have kp : ∀ b o, s1.heap.get? b = some o → h₁.get? b = some o := fun b o e => hsb.extBut b o (Nat.ne_of_lt (Heap.lt_size e)) (Heap.get?_push_of_some _ e)
    have J : Inv (lamCx X (X.A.deeper (envOfC qg sg s.heap.objs.size g cdg)) (envOfC qg sg s.heap.objs.size g cdg :: X.stack) s1 HZ E scope f c') [] σ HZ { s1 with heap := h₁, toks := s1.toks + ([] : List (Str × Value)).length } :=
      lam_start2 I L I1.env0 hr.hd un hns kp
    refine PySem.W.kla_codeExpr (wpAny_mono ((hbody _ _ s1 HZ (hr.deeper _)).run [] _ _ HZ Q J ht) (fun v s' hq => ?_) fun e s' hq => hq)
    obtain ⟨w', H', J', rv, q⟩ := hq
    exact ⟨w', H', J'.os, J'.bare, J'.base, J'.hok, rv, q⟩
  refine wpAny_call (codeAny_mono rc fun r s' hq => ?_)
  cases r with
  | error e => exact tk e s' (XE.of_call I1 (fun cls d H' h => hW cls d H' h) hq)
  | ok fl =>
    cases fl with
    | ret u => exact I1.after hq
    | next => exact False.elim hq
    | brk => exact False.elim hq
    | cont => exact False.elim hq
end
/-- the def that calls what it got: a calls it, its names being told; TT: what it makes of the lambda's reading -/
def GivesTo1 (X : Cx) (Ng : List Str) (x : Str) (sg : Scope) (g : Addr) (cdg : Value) (bg : List Stmt) (a : Str) (q : Str) (TT : (XK → Hp → VK → Prop) → Hp → VK → Prop) : Prop :=
  ∀ (f c' : Addr) (s : Shared) (H : Hp) (Q : VK) (tl : XK → Hp → VK → Prop),
    (∀ (W : WX) (pn : List (Addr × Obj)) (xe : Value → Shared → Prop) (E : XK) (p1 p2 : Pos), Takes ((cxOf C8.CX0 X.prog X.w X.K X.mg X.base Ng x sg g cdg X.A X.stack s H C8.E0).tr pn xe) W →
      PE ((cxOf C8.CX0 X.prog X.w X.K X.mg X.base Ng x sg g cdg X.A X.stack s H C8.E0).tr pn xe) (.Call (.Name a p1) [] [] p2) (fun σZ HZ Q => σZ[0]? = some (some (.ref f)) ∧ HZ c' = some (CodeO c' q) ∧ (∀ cls d H', E cls d H' → W cls d σZ H') ∧ tl E HZ Q)) →
    H c' = some (CodeO c' q) → TT tl H Q →
    ∃ t, PSs (cxOf C8.CX0 X.prog X.w X.K X.mg X.base Ng x sg g cdg X.A X.stack s H C8.E0).nox bg t ∧ t { nx := fun _ H' => Q .non H', rt := Q } (L2.start Ng [.ref f]) H
section
variable {X : Cx}
theorem pe_lamcall1 {T : List (Addr × Str)} {TT : (XK → Hp → VK → Prop) → Hp → VK → Prop} {x a : Str} {g c P : Addr} {k : Nat} {pg : Arguments} {bg : List Stmt} {sg : Scope} {dV kV doc pm cdv ct oc : Value} {an od : Option Addr} {osl : Array (Option Value)} {Ng : List Str}
    {params : Arguments} {body : Expr} {scope : Scope} {t : XK → TE} {p lpos pos : Pos} (hg : Gl X x) (hm : X.mg x = some (.ref g)) (hk : PySem.W.keepIn X.K (.ref g) = true)
    (lk : X.K.lookup g = some ⟨oc, od, .func (PySem.W.fnOf x x pg bg sg dV kV doc pm an cdv ct), osl⟩) (hcg : PySem.W.codeIn X.K cdv x = true) (hb : L2.Binds X.K (PySem.W.fnOf x x pg bg sg dV kV doc pm an cdv ct) [a] []) (Sg : FnScope Ng [a] sg) (hNg : Ng[0]? = some a) (hva : Vis sg a)
    (hG : GivesTo1 X Ng x sg g cdv bg a (X.env.qual ++ "<lambda>") TT)
    (TB : TabB X.base X.mg c P) (hcode : X.env.code = .ref c) (hmT : (P, X.env.qual ++ "<lambda>") ∈ T) (hu : ∀ p ∈ T, p.1 = P → p.2 = X.env.qual ++ "<lambda>") (hr : Room (k + 3) X.A) (L : LamS X.env.scope scope) (hdef : defaultsOf params X.env = ([], []))
    (hbind : ∀ (q : Str) (cl : List (Str × Addr)) (pm cv ctv : Value), bindArgs (PySem.W.kla_fn "<lambda>" q params body scope cl pm cv ctv) ⟨[], []⟩ = pure [])
    (hbody : ∀ (A : Around) (outer : List Env) (s : Shared) (H : Hp) (E : XK) (f c' : Addr), Room (k + 1) (A.deeper (lamEnv X scope s.heap.objs.size f c')) → PE (lamCx X A outer s H E scope f c') body (t E))
    (hdb : (x == ("__debug__" : Str)) = false := by decide) (hd : (a == ("__debug__" : Str)) = false := by decide) (hcd : (a == ("__classdict__" : Str)) = false := by decide) :
    PE X (.Call (.Name x p) [.Lambda params body scope lpos] [] pos) (tLam T TT t) := by
  refine ⟨fun pins s σ H Q I h => ?_⟩
  obtain ⟨hT, h⟩ := h
  refine wpAny_Call_Name_kw (ld_glob I hg hm ?_ hdb)
  refine PySem.W.callWith_K (h₀ := X.base) I.ok.mod.kin hk ?_ (by rfl) (by rfl)
  show wpAny _ _ (spliced ((false, eval (.Lambda params body scope lpos) X.env) :: backTo pos (starEach [] X.env))) _ _ s
  refine Calls.spliced_cons (lam_make2 I TB hcode hmT hu hT hdef (L.has I.ok) fun f c' pm' ctv H1 s' I1 eN T1 hf hfn hfr hco => Calls.spliced_nil ⟨I1.kIn, ?_⟩)
  have rc : codeAny (model X.prog X.w) X.A (.call (.ref g) ⟨[.ref f], []⟩) (CR C8.CX0 X.stack X.prog X.w H1 s' Q C8.E0) s' := by
    refine run_ofS (N := Ng) (ps := [a]) (us := [.ref f]) (vs := [.ref f]) lk hcg Sg hr I1.env0 (hb s' [.ref f] I1.kIn rfl) (.cons rfl .nil) rfl fun hr' =>
      let ⟨t', ht', hq'⟩ := hG f c' s' H1 Q (fun E H' Q' => t E σ H' Q') (fun W pn xe E p1 p2 tk => pe_act2 (i := 0) I1 L hf hfn hfr (hbind _ _ _ _ _) tk hr' (fun A outer s H hr2 => hbody A outer s H E f c' hr2) hNg hva hd hcd) hco (h H1 eN T1)
      ⟨t', ht'.nox, hq'⟩
  refine wpAny_call (codeAny_mono rc fun z s2 hq => ?_)
  cases z with
  | error e => exact hq.elim
  | ok fl =>
    cases fl with
    | ret u => exact I1.after hq
    | next => exact False.elim hq
    | brk => exact False.elim hq
    | cont => exact False.elim hq
end
end LamX
namespace K6
open PySem PySem.Spec PyProof.Rows L2 LamX NdefX EV
/-! ### how a call ends -/
structure EXs (K : PySem.W.Frag) (CN CM CB CG : Addr) : Prop where
  nn : PySem.W.exmOne K (.ref CN) (.ref CN) = some true
  mn : PySem.W.exmOne K (.ref CM) (.ref CN) = some false
  mm : PySem.W.exmOne K (.ref CM) (.ref CM) = some true
  bn : PySem.W.exmOne K (.ref CB) (.ref CN) = some false
  bm : PySem.W.exmOne K (.ref CB) (.ref CM) = some false
  bb : PySem.W.exmOne K (.ref CB) (.ref CB) = some true
  gn : PySem.W.exmOne K (.ref CG) (.ref CN) = some false
  gm : PySem.W.exmOne K (.ref CG) (.ref CM) = some false
  gb : PySem.W.exmOne K (.ref CG) (.ref CB) = some false
  gg : PySem.W.exmOne K (.ref CG) (.ref CG) = some true
inductive EndW (CN CM CB CG : Addr) : Addr → Str → Str → Prop
  | names : EndW CN CM CB CG CN "names" "index"
  | many : EndW CN CM CB CG CM "many" "n"
  | setting : EndW CN CM CB CG CB "setting" "index"
  | sign : EndW CN CM CB CG CG "sign" "name"
def Pair2 (w : Str) (x : V) (H : Hp) (Q : VK) : Prop := ∀ t, H t = none → Q (.ref t) (upd H t (.tup [.str w, x]))
def endX (CN CM CB CG : Addr) (Q : VK) : XK := fun cls d H' => ∃ (C : Addr) (w fld : Str) (x : V) (e : Addr), EndW CN CM CB CG C w fld ∧ cls = .ref C ∧ d = some e ∧ H' e = some (.xd [(fld, x)]) ∧ Pair2 w x H' Q
def TEnd (CN CM CB CG : Addr) : (XK → Hp → VK → Prop) → Hp → VK → Prop := fun tl H Q => ∀ Kt : VK, (∀ v H', Pair2 "told" v H' Q → Kt v H') → tl (endX CN CM CB CG Q) H Kt
abbrev nEnd : List Str := ["_law_ask", "_law_found", "e"]
theorem scEnd : FnScope nEnd ["_law_ask"] (defScope sEnd) := ⟨rfl, rfl, rfl, by decide +kernel, rfl, by decide +kernel, by decide +kernel⟩
theorem end_gives {X : Cx} {g CN CM CB CG fN fM fB fG : Addr} {cdg : Value} {q : Str} (TN : XT X.K X.mg "BadNames" "index" CN fN) (TM : XT X.K X.mg "TooMany" "n" CM fM) (TB : XT X.K X.mg "BadSetting" "index" CB fB) (TG : XT X.K X.mg "NoSign" "name" CG fG) (EX : EXs X.K CN CM CB CG) :
    GivesTo1 X nEnd "_law_end" (defScope sEnd) g cdg (defBody sEnd) "_law_ask" q (TEnd CN CM CB CG) := by
  intro f c' s H Q tl act hc h
  refine ⟨_, pss_cons (ps_try_chain (X := (cxOf C8.CX0 X.prog X.w X.K X.mg X.base nEnd "_law_end" (defScope sEnd) g cdg X.A X.stack s H C8.E0).nox) (i := 2)
      (tb := fun W D σ H => ∃ Ech : XK, (∀ cls d H', Ech cls d H' → W cls d σ H') ∧ σ[0]? = some (some (.ref f)) ∧ H c' = some (CodeO c' q) ∧ tl Ech H (fun v H1 => 2 ≤ sizeLine ∧ ∀ t, H1 t = none → D.nx (σ.set 1 (some (.ref t))) (upd H1 t (.tup [.str "told", v]))))
      rfl rfl scEnd.nd rfl rfl LamX.takes0 (fun W pn xe tk _ => ?body)
      (.cons ⟨by rfl, by decide, .inl TN.g⟩ (fun a oe cls d pn hz hv => pss_one (ps_set (i := 1) scEnd.nd rfl (.inl rfl) (pe_tup (pa_cons pe_str (pa_cons (pe_xf TN.xf TN.n hz hv (pv 2)) pa_nil)))))
      (.cons ⟨by rfl, by decide, .inl TM.g⟩ (fun a oe cls d pn hz hv => pss_one (ps_set (i := 1) scEnd.nd rfl (.inl rfl) (pe_tup (pa_cons pe_str (pa_cons (pe_xf TM.xf TM.n hz hv (pv 2)) pa_nil)))))
      (.cons ⟨by rfl, by decide, .inl TB.g⟩ (fun a oe cls d pn hz hv => pss_one (ps_set (i := 1) scEnd.nd rfl (.inl rfl) (pe_tup (pa_cons pe_str (pa_cons (pe_xf TB.xf TB.n hz hv (pv 2)) pa_nil)))))
      (.cons ⟨by rfl, by decide, .inl TG.g⟩ (fun a oe cls d pn hz hv => pss_one (ps_set (i := 1) scEnd.nd rfl (.inl rfl) (pe_tup (pa_cons pe_str (pa_cons (pe_xf TG.xf TG.n hz hv (pv 2)) pa_nil)))))
      .nil))))) (pss_one (ps_ret (pv 1))), ?_⟩
  case body =>
    refine ⟨fun pins s' σ H' D I h' => ?_⟩
    obtain ⟨Ech, hW, h1, h2, h3⟩ := h'
    refine PSs.run (pss_one (ps_set (i := 1) scEnd.nd rfl (.inl rfl) (pe_tup (pa_cons pe_str (pa_cons (act W pn xe Ech _ _ tk) pa_nil))))) pins s' σ H' D I ?_
    exact ⟨h1, h2, hW, h3⟩
  · refine ⟨endX CN CM CB CG Q, fun cls d H' he => ?_, rfl, hc, h _ fun v H' k => ⟨by decide, fun t ht => ⟨_, rfl, k t ht⟩⟩⟩
    obtain ⟨C, w, fld, x, e, way, rfl, rfl, hd, k⟩ := he
    cases way with
    | names =>
      refine ⟨true, EX.nn, fun _ a ha => ⟨_, rfl, rfl, rfl, e, _, x, rfl, hd, rfl, by show 2 ≤ sizeLine; decide, fun t ht => ?_⟩, fun z => nomatch z⟩
      exact ⟨_, rfl, k t ht⟩
    | many =>
      refine ⟨false, EX.mn, (fun z => nomatch z), fun _ => ⟨true, EX.mm, fun _ a ha => ⟨_, rfl, rfl, rfl, e, _, x, rfl, hd, rfl, by show 2 ≤ sizeLine; decide, fun t ht => ?_⟩, fun z => nomatch z⟩⟩
      exact ⟨_, rfl, k t ht⟩
    | setting =>
      refine ⟨false, EX.bn, (fun z => nomatch z), fun _ => ⟨false, EX.bm, (fun z => nomatch z), fun _ => ⟨true, EX.bb, fun _ a ha => ⟨_, rfl, rfl, rfl, e, _, x, rfl, hd, rfl, by show 2 ≤ sizeLine; decide, fun t ht => ?_⟩, fun z => nomatch z⟩⟩⟩
      exact ⟨_, rfl, k t ht⟩
    | sign =>
      refine ⟨false, EX.gn, (fun z => nomatch z), fun _ => ⟨false, EX.gm, (fun z => nomatch z), fun _ => ⟨false, EX.gb, (fun z => nomatch z), fun _ => ⟨true, EX.gg, fun _ a ha => ⟨_, rfl, rfl, rfl, e, _, x, rfl, hd, rfl, by show 2 ≤ sizeLine; decide, fun t ht => ?_⟩, fun z => nomatch z⟩⟩⟩⟩
      exact ⟨_, rfl, k t ht⟩
/-! ### what the law says of the making of a rule -/
inductive Due : List V → List (Option (List V)) → Str → V → Prop
  | names {xs : List V} {ios : List (Option (List V))} {i : Nat} (c : CutN (some i) xs) : Due xs ios "names" (.int (i : Nat))
  | many {ns : List Str} {ios : List (Option (List V))} (nd : ns.Nodup) (good : ∀ z ∈ ns, Name1 z) (n6 : 6 < ns.length) : Due (ns.map V.str) ios "many" (.int (ns.length : Nat))
  | setting {ns : List Str} {ios : List (Option (List V))} {i : Nat} (nd : ns.Nodup) (good : ∀ z ∈ ns, Name1 z) (n6 : ns.length ≤ 6) (before : ∀ j io, j < i → ios[j]? = some io → GoodI ns io) (bad : ∃ io, ios[i]? = some io ∧ ¬ GoodI ns io) : Due (ns.map V.str) ios "setting" (.int (i : Nat))
  | told {ns : List Str} {ios : List (Option (List V))} (nd : ns.Nodup) (good : ∀ z ∈ ns, Name1 z) (n6 : ns.length ≤ 6) (all : ∀ io ∈ ios, GoodI ns io) : Due (ns.map V.str) ios "told" (.bl true)
theorem first_bad {α : Type} (p : α → Prop) : ∀ xs : List α, (∀ x ∈ xs, p x) ∨ ∃ i : Nat, (∀ (j : Nat) x, j < i → xs[j]? = some x → p x) ∧ ∃ x, xs[i]? = some x ∧ ¬ p x
  | [] => .inl fun _ h => nomatch h
  | x :: xs => by
    rcases Classical.em (p x) with h | h
    · rcases first_bad p xs with a | ⟨i, b, c⟩
      · exact .inl fun y hy => (List.mem_cons.mp hy).elim (fun e => e ▸ h) (a y)
      · refine .inr ⟨i + 1, fun j y hj hy => ?_, c⟩
        cases j with
        | zero => exact (Option.some.inj hy) ▸ h
        | succ j => exact b j y (by omega) hy
    · exact .inr ⟨0, fun j y hj => absurd hj (Nat.not_lt_zero j), x, rfl, h⟩
theorem due_ex (xs : List V) (ios : List (Option (List V))) : ∃ w x, Due xs ios w x := by
  obtain ⟨o, c⟩ := cutN xs
  cases c with
  | bad nd good b => exact ⟨_, _, .names (.bad nd good b)⟩
  | @ok ns nd good =>
    by_cases n6 : ns.length ≤ 6
    · rcases first_bad (GoodI ns) ios with a | ⟨i, b, c⟩
      · exact ⟨_, _, .told nd good n6 a⟩
      · exact ⟨_, _, .setting nd good n6 b c⟩
    · exact ⟨_, _, .many nd good (by omega)⟩
theorem Due.split {xs : List V} {ios : List (Option (List V))} {w : Str} {x : V} (d : Due xs ios w x) : (∃ i : Nat, CutN (some i) xs ∧ w = "names" ∧ x = .int (i : Nat)) ∨ (∃ ns : List Str, xs = ns.map V.str ∧ ns.Nodup ∧ (∀ z ∈ ns, Name1 z) ∧ 6 < ns.length ∧ w = "many" ∧ x = .int (ns.length : Nat)) ∨
    ∃ (ns : List Str) (o : Option Nat), xs = ns.map V.str ∧ ns.Nodup ∧ (∀ z ∈ ns, Name1 z) ∧ ns.length ≤ 6 ∧ (∀ (j : Nat) io, (∀ i0, o = some i0 → j < i0) → ios[j]? = some io → GoodI ns io) ∧
      ((∃ i0 : Nat, o = some i0 ∧ (∃ io, ios[i0]? = some io ∧ ¬ GoodI ns io) ∧ w = "setting" ∧ x = .int (i0 : Nat)) ∨ (o = none ∧ w = "told" ∧ x = .bl true)) := by
  cases d with
  | names c => exact .inl ⟨_, c, rfl, rfl⟩
  | many nd good n6 => exact .inr (.inl ⟨_, rfl, nd, good, n6, rfl, rfl⟩)
  | setting nd good n6 before bad => exact .inr (.inr ⟨_, some _, rfl, nd, good, n6, fun j io h => before j io (h _ rfl), .inl ⟨_, rfl, bad, rfl, rfl⟩⟩)
  | told nd good n6 all => exact .inr (.inr ⟨_, none, rfl, nd, good, n6, fun j io _ h => all io (List.mem_of_getElem? h), .inr ⟨rfl, rfl, rfl⟩⟩)
def spDue (K : PySem.W.Frag) : Sp := fun vs H Q _ => ∃ (S0 T0 : Addr) (xs its : List V) (ios : List (Option (List V))) (w : Str) (x : V), vs = [.ref S0, .ref T0] ∧ H S0 = some (.lst xs) ∧ H T0 = some (.lst its) ∧ (∀ x ∈ xs, Thing H x) ∧ Paired (ItemAt H) its ios ∧ xs.length ≤ 60 ∧ its.length ≤ 60 ∧ Due xs ios w x ∧ ∀ H', Same H H' → Pair2 w x H' Q
section
variable {P : Program} {w : World} {K : PySem.W.Frag} {mg : Str → Option Value} {base : Heap} {f fB fO : Addr} {fd fdB fdO : FuncData}
abbrev nDue : List Str := ["_law_signs", "_law_settings", "_law_index", "_law_one"]
theorem scDue : FnScope nDue ["_law_signs", "_law_settings"] (defScope sDue) := ⟨rfl, rfl, rfl, by decide +kernel, rfl, by decide +kernel, by decide +kernel⟩
theorem ok_due (F : Fun K "_law_due" "_law_due" sDue f fd) (GB : FnOk P w K mg base CX0 2 fB fdB ["_law_things"] (spFirstBad K)) (mB : mg "_law_first_bad" = some (.ref fB)) (kB : PySem.W.keepIn K (.ref fB) = true) (bB : L2.Binds K fdB ["_law_things"] [])
    (GO : FnOk P w K mg base CX0 2 fO fdO ["_law_thing", "_law_names_here"] (spFirstOdd K)) (mO : mg "_law_first_odd" = some (.ref fO)) (kO : PySem.W.keepIn K (.ref fO) = true) (bO : L2.Binds K fdO ["_law_thing", "_law_names_here"] []) (ml : mg "len" = none) (me : mg "enumerate" = none) :
    FnOk P w K mg base CX0 3 f fd ["_law_signs", "_law_settings"] (spDue K) := by
  refine F.ok scDue (fun vs H Q E h => ?_) (fun cdv A outer s H vs Q E hr h => ?_)
  · obtain ⟨S0, T0, xs, its, ios, ww, x, rfl, _⟩ := h
    rfl
  · obtain ⟨S0, T0, xs, its, ios, ww, x, rfl, hS, hT, th, items, x60, i60, due, k⟩ := h
    refine ⟨_, pss_cons (ps_if (pt_cmpR op_notN (pe_call GB hr (by rfl) mB kB bB .nil pass0 (pa_cons (pv 0) pa_nil)) pe_non rfl) (pss_one (ps_ret (pe_tup (pa_cons pe_str (pa_cons (pe_call GB hr (by rfl) mB kB bB .nil pass0 (pa_cons (pv 0) pa_nil)) pa_nil))))) pss_nil)
      (pss_cons (ps_if (pt_cmpR op_gt (pe_callB call_len (by rfl) ml PySem.boot_len (pa_cons (pv 0) pa_nil)) pe_int (nomark _)) (pss_one (ps_ret (pe_tup (pa_cons pe_str (pa_cons (pe_callB call_len (by rfl) ml PySem.boot_len (pa_cons (pv 0) pa_nil)) pa_nil))))) pss_nil)
      (pss_cons (ps_for PassesOwn.never rfl (pi_enumB (by rfl) me (pa_cons (pv 1) pa_nil)) (pg_tup rfl (pgs_cons (pg_name (i := 2) scDue.nd rfl (.inl rfl)) (pgs_cons (pg_name (i := 3) scDue.nd rfl (.inl rfl)) pgs_nil)))
        (pss_one (ps_if (PW.pt (pw_or (pt_cmpR op_notN (pe_call GO hr (by rfl) mO kO bO .nil pass0 (pa_cons (pv 3) (pa_cons (pv 0) pa_nil))) pe_non rfl) (pw_or1 (pt_cmpR op_ne (pe_callB call_len (by rfl) ml PySem.boot_len (pa_cons (pv 3) pa_nil)) (pe_callB call_len (by rfl) ml PySem.boot_len (pa_cons (pv 0) pa_nil)) (nomark _))))) (pss_one (ps_ret (pe_tup (pa_cons pe_str (pa_cons (pv 2) pa_nil))))) pss_nil)))
      (pss_one (ps_ret (pe_tup (pa_cons pe_str (pa_cons pe_bl pa_nil))))))), ?_⟩
    have hSq : ∀ {H'}, Same H H' → ∀ H2, Same H' H2 → Sq K true H2 S0 xs := fun s1 H2 s2 => SqL.of (s2 _ _ (s1 _ _ hS))
    have fb : ∀ {H'} (_ : Same H H') (o : Option Nat) (_ : CutN o xs) (Q' : VK), (∀ H2, Same H' H2 → Q' (oV o) H2) → spFirstBad K [.ref S0] H' Q' C8.E0 := fun s1 o c Q' q => ⟨S0, true, xs, o, rfl, hSq s1, (fun y hy => (th y hy).same s1), c, x60, q⟩
    rcases due.split with ⟨i, c, rfl, rfl⟩ | ⟨ns, rfl, nd, good, n6, rfl, rfl⟩ | ⟨ns, o, rfl, nd, good, n6, before, last⟩
    · skip
      refine ⟨_, rfl, S0, true, xs, _, rfl, hSq (Same.refl H), th, c, x60, fun H1 sm1 => ⟨rfl, _, rfl, ?_⟩⟩
      rw [show (!decide (oV (some i) = V.non)) = true from by rw [decide_eq_false (fun e => nomatch e)]; rfl]
      refine iteT ⟨_, rfl, S0, true, xs, _, rfl, hSq sm1, (fun y hy => (th y hy).same sm1), c, x60, fun H2 sm2 => ⟨by show 2 ≤ sizeLine; decide, fun t ht => ?_⟩⟩
      exact k H2 (sm1.trans sm2) t ht
    · skip
      refine ⟨_, rfl, S0, true, _, _, rfl, hSq (Same.refl H), th, .ok nd good, x60, fun H1 sm1 => ⟨rfl, _, rfl, ?_⟩⟩
      rw [show (!decide (oV none = V.non)) = false from by rw [decide_eq_true (show oV none = V.non from rfl)]; rfl]
      have ll : (ns.map V.str).length = ns.length := List.length_map _
      refine iteF ⟨_, rfl, _, _, rfl, .inl ⟨_, SqL.of (sm1 _ _ hS), rfl⟩, _, _, rfl, rfl, _, rfl, ?_⟩
      rw [decide_eq_true (by rw [ll]; omega)]
      refine iteT ⟨_, rfl, _, _, rfl, .inl ⟨_, SqL.of (sm1 _ _ hS), rfl⟩, by show 2 ≤ sizeLine; decide, fun t ht => ?_⟩
      rw [ll]
      exact k H1 sm1 t ht
    · have ll : (ns.map V.str).length = ns.length := List.length_map _
      refine ⟨_, rfl, S0, true, _, _, rfl, hSq (Same.refl H), th, .ok nd good, x60, fun H1 sm1 => ⟨rfl, _, rfl, ?_⟩⟩
      rw [show (!decide (oV none = V.non)) = false from by rw [decide_eq_true (show oV none = V.non from rfl)]; rfl]
      refine iteF ⟨_, rfl, _, _, rfl, .inl ⟨_, SqL.of (sm1 _ _ hS), rfl⟩, _, _, rfl, rfl, _, rfl, ?_⟩
      rw [decide_eq_false (by rw [ll]; omega)]
      have li : its.length = ios.length := Paired.length items
      refine iteF ⟨_, rfl, true, T0, _, rfl, SqL.of (sm1 _ _ hT), for_it walk_enumB (fun i σ H3 => ∃ o2 o3, σ = [some (.ref S0), some (.ref T0), o2, o3] ∧ (∀ i0, o = some i0 → i ≤ i0) ∧ Same H H3) ⟨_, _, rfl, fun _ _ => Nat.zero_le _, sm1⟩ (fun i σ H3 _ ⟨_, _, _, _, sm⟩ => SqL.of (sm _ _ hT)) ?_ ?_⟩
      · rintro i y σ H3 H4 hi ⟨o2, o3, rfl, ile, sm⟩ ⟨t, v1, v2, rfl, ht, rfl, hv1, hv2⟩
        obtain rfl := Option.some.inj hv1
        replace hv2 : its[i]? = some v2 := hv2
        have sm3 := sm.trans (same_new (o := .tup [.int (i : Nat), v2]) ht)
        obtain ⟨io, hio, item0⟩ := paired_get items i v2 hv2
        have item : ItemAt (upd H3 t (.tup [.int (i : Nat), v2])) v2 io := item0.same sm3
        obtain ⟨oc, cutc⟩ := cutI ns io
        refine ⟨t, _, rfl, SqT.of upd_same, rfl, _, _, rfl, _, _, rfl, rfl, _, rfl, _, rfl, v2, S0, ns, io, oc, rfl, (fun H' s' => SqL.of (s' _ _ (sm3 _ _ hS))), by omega, good, item, cutc, fun H5 sm5 => ⟨rfl, _, rfl, ?_⟩⟩
        have sm05 := sm3.trans sm5
        have item5 := item.same sm5
        generalize upd H3 t (.tup [.int (i : Nat), v2]) = H4 at *
        have out : ¬ GoodI ns io → Pair2 "setting" (.int (i : Nat)) H5 Q := fun ng => by
          rcases last with ⟨i0, rfl, _, rfl, rfl⟩ | ⟨rfl, _, _⟩
          · have e : i = i0 := Nat.le_antisymm (ile i0 rfl) (Nat.not_lt.mp fun lt => ng (before i io (fun j q => by rw [← Option.some.inj q]; exact lt) hio))
            rw [e]
            exact k H5 sm05
          · exact (ng (before i io (fun j q => nomatch q) hio)).elim
        have go : GoodI ns io → ∀ i0, o = some i0 → i + 1 ≤ i0 := fun g i0 e0 => by
          rcases last with ⟨i1, e1, ⟨io', h1, h2⟩, _, _⟩ | ⟨e1, _, _⟩
          · have e : i1 = i0 := Option.some.inj (e1.symm.trans e0)
            have ne : i ≠ i0 := fun q => by
              rw [← q] at e
              rw [e, hio] at h1
              exact h2 (Option.some.inj h1 ▸ g)
            have := ile i0 e0
            omega
          · rw [e1] at e0
            cases e0
        cases oc with
        | some j =>
          rw [show (!decide (oV (some j) = V.non)) = true from by rw [decide_eq_false (fun e => nomatch e)]; rfl]
          exact iteT ⟨_, rfl, by show 2 ≤ sizeLine; decide, fun t' ht' => out (fun g => nomatch goodI_cut good g cutc) t' ht'⟩
        | none =>
          rw [show (!decide (oV none = V.non)) = false from by rw [decide_eq_true (show oV none = V.non from rfl)]; rfl]
          cases io with
          | none => exact nomatch (show (none : Option Nat) = some 0 from cutc)
          | some ys =>
            obtain ⟨qs, tail, hq, rfl, h1, h2⟩ := Cut.split (show Cut ns none ys from cutc)
            have et : tail = [] := by
              cases tail with
              | nil => rfl
              | cons x r => exact nomatch (h2 x r rfl).1
            subst et
            rw [List.append_nil] at *
            have lq : ((qs.map lit).map V.str).length = qs.length := by rw [List.length_map, List.length_map]
            obtain ⟨Aa, bb, rfl, hA, _, _⟩ := item5.seq (K := K)
            refine iteF ⟨_, rfl, _, _, rfl, Sq.len (hA _ (Same.refl _)), _, rfl, _, _, rfl, .inl ⟨_, SqL.of (sm05 _ _ hS), rfl⟩, rfl, _, rfl, ?_⟩
            rw [lq, ll]
            by_cases e : qs.length = ns.length
            · rw [e, eqI_t]
              exact iteF ⟨_, _, rfl, go ⟨qs, rfl, hq, e⟩, sm05⟩
            · rw [eqI_f (fun q => e (by omega))]
              refine iteT ⟨_, rfl, by show 2 ≤ sizeLine; decide, fun t' ht' => out (fun ⟨qs', e1, _, e2⟩ => ?_) t' ht'⟩
              have z := congrArg List.length (Option.some.inj e1)
              simp only [List.length_map] at z
              omega
      · rintro σ H3 ⟨o2, o3, rfl, ile, sm⟩
        rcases last with ⟨i0, rfl, ⟨io, h1, _⟩, _, _⟩ | ⟨rfl, rfl, rfl⟩
        · have z := ile i0 rfl
          have := (List.getElem?_eq_some_iff.mp h1).1
          omega
        · exact ⟨by show 2 ≤ sizeLine; decide, fun t ht => k H3 sm t ht⟩
end
end K6
/-! &, |, -, ~, < of instances with methods of their own for them: the answer is an object. -/
namespace EV
open PySem PySem.Spec PyProof.Rows L2
section
variable {X : Cx} {CX : CXT} {n : Nat} {C f : Addr} {fd : FuncData} {ps : List Str} {sp : Sp} {E : XK}
/-- what an own operator asks: it answers with an object -/
def rBin (C : Addr) (sp : Sp) (E : XK) (x y : V) (H : Hp) (Q : VK) : Prop := ∃ a dx fs, x = .ref a ∧ H a = some (.ins C dx fs) ∧ sp [.ref a, y] H (fun v H' => ∃ p, v = .ref p ∧ Q (.ref p) H') E
/-- x op y, both of this class -/
theorem op_binOwn {op : Operator} (F : FnOk X.prog X.w X.K X.mg X.base CX n f fd ps sp) (hc : PySem.W.selfFirst X.K C = true) (hs : PySem.W.findIn X.K (.ref C) (PySem.dunder op.info.2) = some (some (.ref f))) (hf : PySem.W.isFn X.K (.ref f) = true) (hb : L2.Binds X.K fd ps []) (hx : Passes CX X E) (hr : Room n X.A) :
    OpR X (binaryOp op) fun x y H Q => TyX X.K H y (.ref C) ∧ rBin C sp E x y H Q := by
  intro pins s σ H x y v u Q I rx ry h
  obtain ⟨ty, a, dx, fs, rfl, ha, hsp⟩ := h
  obtain rfl : v = Value.ref a := rx
  obtain ⟨mA, J, _⟩ := ins_get I.hok ha
  obtain ⟨od, J, _⟩ := J.look
  obtain ⟨m, hF⟩ := I.fr
  obtain ⟨P, Z, hP, _⟩ := kit_of I ry ty
  refine PySem.W.binop_K hF I.ok.mod.kin J (Z.ty _ _ I.kIn hP) hc hs hf (wpAny_mono (own_call (Q := fun v H' => ∃ p, v = .ref p ∧ Q (.ref p) H') ⟨hr, rfl⟩ I F hb hx (.cons (show RelV (.ref a) (.ref a) from rfl) (.cons ry .nil)) hsp) (fun w s' z => ?_) fun _ _ e => e)
  obtain ⟨z, H', I', rz, p, rfl, q⟩ := z
  obtain rfl : w = Value.ref p := rz
  exact ⟨.ref p, H', I', rfl, q⟩
/-- x op y, y a text -/
theorem op_binStr {op : Operator} (F : FnOk X.prog X.w X.K X.mg X.base CX n f fd ps sp) (hc : PySem.W.selfFirst X.K C = true) (hs : PySem.W.findIn X.K (.ref C) (PySem.dunder op.info.2) = some (some (.ref f))) (hf : PySem.W.isFn X.K (.ref f) = true)
    (hro : PySem.W.findIn X.K (.ref C) (dunderR op.info.2) = some none) (h1 : PySem.W.findIn X.K (.type "str") (PySem.dunder op.info.2) = some none) (h2 : PySem.W.findIn X.K (.type "str") (dunderR op.info.2) = some none) (hsub : PySem.W.subIn X.K (.type "str") (.ref C) = some false)
    (hb : L2.Binds X.K fd ps []) (hx : Passes CX X E) (hr : Room n X.A) :
    OpR X (binaryOp op) fun x y H Q => (∃ z, y = .str z) ∧ rBin C sp E x y H Q := by
  intro pins s σ H x y v u Q I rx ry h
  obtain ⟨⟨z, rfl⟩, a, dx, fs, rfl, ha, hsp⟩ := h
  obtain rfl : v = Value.ref a := rx
  obtain ⟨t, rfl⟩ := id ry
  obtain ⟨mA, J, _⟩ := ins_get I.hok ha
  obtain ⟨od, J, _⟩ := J.look
  obtain ⟨m, hF⟩ := I.fr
  refine PySem.W.ksp_binT (T := "str") hF I.ok.mod.kin J rfl hc hs hf hro (.inl rfl) h1 h2 hsub (wpAny_mono (own_call (Q := fun v H' => ∃ p, v = .ref p ∧ Q (.ref p) H') ⟨hr, rfl⟩ I F hb hx (.cons (show RelV (.ref a) (.ref a) from rfl) (.cons ry .nil)) hsp) (fun w s' z => ?_) fun _ _ e => e)
  obtain ⟨z, H', I', rz, p, rfl, q⟩ := z
  obtain rfl : w = Value.ref p := rz
  exact ⟨.ref p, H', I', rfl, q⟩
/-- ~x -/
theorem un_invOwn (F : FnOk X.prog X.w X.K X.mg X.base CX n f fd ps sp) (hs : PySem.W.findIn X.K (.ref C) "__invert__" = some (some (.ref f))) (hf : PySem.W.isFn X.K (.ref f) = true) (hb : L2.Binds X.K fd ps []) (hx : Passes CX X E) (hr : Room n X.A) :
    UnR X (unaryOp .Invert) fun x H Q => ∃ a dx fs, x = .ref a ∧ H a = some (.ins C dx fs) ∧ sp [.ref a] H Q E := by
  intro pins s σ H x v Q I rx h
  obtain ⟨a, dx, fs, rfl, ha, hsp⟩ := h
  obtain rfl : v = Value.ref a := rx
  obtain ⟨mA, J, _⟩ := ins_get I.hok ha
  obtain ⟨od, J, _⟩ := J.look
  obtain ⟨m, hF⟩ := I.fr
  exact PySem.W.ksp_inv hF I.ok.mod.kin J hs hf (own_call (Q := Q) ⟨hr, rfl⟩ I F hb hx (.cons (show RelV (.ref a) (.ref a) from rfl) .nil) hsp)
/-- < -/
theorem op_ltOwn (F : FnOk X.prog X.w X.K X.mg X.base CX n f fd ps sp) (hs : PySem.W.findIn X.K (.ref C) "__lt__" = some (some (.ref f))) (hf : PySem.W.isFn X.K (.ref f) = true) (hb : L2.Binds X.K fd ps []) (hx : Passes CX X E) (hr : Room n X.A) :
    OpR X (compareOp .Lt) fun x y H Q => ∃ t, TyX X.K H y t ∧ PySem.W.notFirst X.K C t = true ∧ rOwn C sp E x y H fun b H' => Q (.bl b) H' := by
  intro pins s σ H x y v u Q I rx ry h
  obtain ⟨t, ty, nf, a, dx, fs, rfl, ha, hsp⟩ := h
  obtain rfl : v = Value.ref a := rx
  obtain ⟨mA, J, _⟩ := ins_get I.hok ha
  obtain ⟨od, J, _⟩ := J.look
  obtain ⟨m, hF⟩ := I.fr
  obtain ⟨P, Z, hP, _⟩ := kit_of I ry ty
  show wpAny (model X.prog X.w) X.A (richCompare .Lt (.ref a) u) (EP X pins σ Q) X.xe s
  refine PySem.W.cmp_K (op := .Lt) (tb := t) hr.units0 hF I.ok.mod.kin J (Z.ty _ _ I.kIn hP) nf hs hf (wpAny_mono (own_call (Q := fun v H' => ∃ b, v = .bl b ∧ Q (.bl b) H') ⟨hr, rfl⟩ I F hb hx (.cons (show RelV (.ref a) (.ref a) from rfl) (.cons ry .nil)) hsp) (fun w s' z => ?_) fun _ _ e => e)
  obtain ⟨z, H', I', rz, b, rfl, q⟩ := z
  obtain rfl : w = Value.bool b := rz
  exact ⟨.bl b, H', I', rfl, q⟩
end
/-! ### xs[::k], k a small number -/
section
variable {X : Cx}
/-- each k-th one -/
def pickK {α : Type} (k : Nat) (xs : List α) : List α := (sliceRange 0 (xs.length : Int) (k : Int)).filterMap fun i => xs[i]?
def tStepL (K : PySem.W.Frag) (k : Nat) (te : TE) : TE := fun σ H Q => te σ H fun x H1 => ∃ a xs, x = .ref a ∧ SqL K H1 a xs ∧ ∀ p, H1 p = none → Q (.ref p) (upd H1 p (.lst (pickK k xs)))
end
end EV
/-! x op y, x an instance with an own method for it, y of a built-in type; contracts with several ways out. -/
namespace PySem.W
open PySem.Calls PyProof.Rows PySem.HandSPX
section
variable {prog : Program} {w : World} {A : Around} {E : Value → Shared → Prop} {s : Shared} {K : Frag} {x C L f : Addr} {h₀ : Heap} {m : Str → Option Value} {ox : Obj} {od : Option Obj} {T : String}
theorem own_left {op : Operator} {y : Value} {fo ro rc : Option Value} {Q : Value → Shared → Prop} (F : Fr h₀ L s.heap m) (X₀ : K.In h₀) (I : InstAt s.heap x ox C od) (ty : Looks (model prog w) s.heap (typeOf y) (.type T)) (first : selfFirst K C = true)
    (own : findIn K (.ref C) (PySem.dunder op.info.2) = some (some (.ref f))) (isf : isFn K (.ref f) = true) (rev : findIn K (.ref C) (dunderR op.info.2) = some rc) (rvp : rc = none ∨ ∃ g : Addr, rc = some (.ref g))
    (t1 : findIn K (.type T) (PySem.dunder op.info.2) = some fo) (t2 : findIn K (.type T) (dunderR op.info.2) = some ro) (far : subIn K (.type T) (.ref C) = some false)
    (go : wpAny (model prog w) A (call (.ref f) [.ref x, y]) (CmpBack Q) E s) : wpAny (model prog w) A (binaryOp op (.ref x) y) Q E s := by
  have Xs := X₀.keeps F.keep
  obtain ⟨cd, more, c1, c2⟩ := ksp_first first
  rcases hop : op.info with ⟨sym, nm⟩
  rw [hop] at own rev t1 t2
  replace own : findIn K (.ref C) (PySem.dunder nm) = some (some (.ref f)) := own
  replace rev : findIn K (.ref C) (dunderR nm) = some rc := rev
  replace t1 : findIn K (.type T) (PySem.dunder nm) = some fo := t1
  replace t2 : findIn K (.type T) (dunderR nm) = some ro := t2
  have step := ksp_try Xs I own isf go
  obtain ⟨hp, gs, dr, tk, os⟩ := s
  have K1 : Looks (model prog w) hp (typeOf (.ref x)) (.ref C) := I.type
  have K2 : Looks (model prog w) hp (typeOf y) (.type T) := ty
  have K3 : Looks (model prog w) hp (fillsNumberSlot (.ref C) nm) true := fills_K Xs c1 c2 own
  have K4 := ksp_fillsT (M := model prog w) Xs t1 t2
  have K5 : Looks (model prog w) hp (isSubtype (.type T) (.ref C)) false := looks_subIn Xs far
  have K6 : Looks (model prog w) hp (numberSlotInPython (.ref C) nm) true := ksp_inPy Xs own rev rvp
  have K7 : Looks (model prog w) hp (numberSlotInPython (.type T) nm) false := Looks.of_pure rfl
  have K8 : Looks (model prog w) hp (typeLookup (.type T) (dunderR nm)) ro := looks_findIn Xs t2
  generalize ((fo.isSome && !isSeqSlot fo) || (ro.isSome && !isSeqSlot ro)) = rt at K4
  have unlike : (Value.ref C == Value.type T) = false := Bool.eq_false_iff.mpr fun q => by
    have z := beq_iff_eq.mp q
    cases z
  simp only [binaryOp, hop]
  unfold binaryOp1
  refine wpAny_holding (wpAny_bind (wpAny_bind (K1.at (wpAny_bind (K2.at (wpAny_bind (K3.at ?_)))))))
  simp only [unlike, Bool.false_eq_true, if_false]
  cases rt <;>
    (ksp_lk
     refine wpAny_mono step (fun r s' hr' => ?_) (fun _ _ e => e)
     obtain ⟨v, rfl, hq⟩ := hr'
     ksp_lk
     exact hq)
end
end PySem.W
namespace EV
open PySem PySem.Spec PyProof.Rows L2
/-- what a type of the right side must keep for this operator -/
def RightOk (K : PySem.W.Frag) (C : Addr) (nm : String) (T : String) : Prop := (∃ fo, PySem.W.findIn K (.type T) (PySem.dunder nm) = some fo) ∧ (∃ ro, PySem.W.findIn K (.type T) (dunderR nm) = some ro) ∧ PySem.W.subIn K (.type T) (.ref C) = some false
section
variable {X : Cx} {CX : CXT} {n : Nat} {C f : Addr} {fd : FuncData} {ps : List Str} {sp : Sp} {E : XK}
theorem op_leftOwn {op : Operator} (F : FnOk X.prog X.w X.K X.mg X.base CX n f fd ps sp) (hc : PySem.W.selfFirst X.K C = true) (hs : PySem.W.findIn X.K (.ref C) (PySem.dunder op.info.2) = some (some (.ref f))) (hf : PySem.W.isFn X.K (.ref f) = true)
    (hro : PySem.W.findIn X.K (.ref C) (dunderR op.info.2) = some none) (hb : L2.Binds X.K fd ps []) (hx : Passes CX X E) (hr : Room n X.A) :
    OpR X (binaryOp op) fun x y H Q => (∃ T, TyX X.K H y (.type T) ∧ RightOk X.K C op.info.2 T) ∧ rBin C sp E x y H Q := by
  intro pins s σ H x y v u Q I rx ry h
  obtain ⟨⟨T, ty, ⟨fo, t1⟩, ⟨ro, t2⟩, far⟩, a, dx, fs, rfl, ha, hsp⟩ := h
  obtain rfl : v = Value.ref a := rx
  obtain ⟨mA, J, _⟩ := ins_get I.hok ha
  obtain ⟨od, J, _⟩ := J.look
  obtain ⟨m, hF⟩ := I.fr
  obtain ⟨P, Z, hP, _⟩ := kit_of I ry ty
  refine PySem.W.own_left (T := T) hF I.ok.mod.kin J (Z.ty _ _ I.kIn hP) hc hs hf hro (.inl rfl) t1 t2 far (wpAny_mono (own_call (Q := fun v H' => ∃ p, v = .ref p ∧ Q (.ref p) H') ⟨hr, rfl⟩ I F hb hx (.cons (show RelV (.ref a) (.ref a) from rfl) (.cons ry .nil)) hsp) (fun w s' z => ?_) fun _ _ e => e)
  obtain ⟨z, H', I', rz, p, rfl, q⟩ := z
  obtain rfl : w = Value.ref p := rz
  exact ⟨.ref p, H', I', rfl, q⟩
end
/-! ### contracts with several ways -/
section
variable {P : Program} {w : World} {K : PySem.W.Frag} {mg : Str → Option Value} {base : Heap} {CX : CXT} {k : Nat} {f : Addr} {fd : FuncData} {ps : List Str} {s1 s2 : Sp}
def orSp (s1 s2 : Sp) : Sp := fun vs H Q E => s1 vs H Q E ∨ s2 vs H Q E
theorem fn_or (a : FnOk P w K mg base CX k f fd ps s1) (b : FnOk P w K mg base CX k f fd ps s2) : FnOk P w K mg base CX k f fd ps (orSp s1 s2) :=
  ⟨fun vs H Q E h => h.elim (a.len vs H Q E) (b.len vs H Q E), fun A o s H args us vs Q E hr e0 hb r h => h.elim (a.run A o s H args us vs Q E hr e0 hb r) (b.run A o s H args us vs Q E hr e0 hb r)⟩
theorem fn_calm (a : FnOk P w K mg base CX0 k f fd ps s1) : FnOk P w K mg base CX k f fd ps s1 :=
  ⟨a.len, fun A o s H args us vs Q E hr e0 hb r h => codeAny_mono (a.run A o s H args us vs Q E hr e0 hb r h) fun z s' hq => by
    cases z with
    | error e => exact hq.elim
    | ok fl =>
      cases fl with
      | ret u => exact hq
      | next => exact hq.elim
      | brk => exact hq.elim
      | cont => exact hq.elim⟩
end
end EV
namespace K6
open PySem PySem.Spec PyProof.Rows L2 LamX NdefX EV
theorem sub_filter : ∀ {s l : List (List Str)}, s.Sublist l → l.Nodup → l.filter (fun r => decide (r ∈ s)) = s := by
  intro s l h
  induction h with
  | slnil => intro _; rfl
  | @cons s l a h ih =>
    intro nd
    obtain ⟨h1, h2⟩ := List.nodup_cons.mp nd
    have na : a ∉ s := fun q => h1 (h.subset q)
    rw [List.filter_cons_of_neg (by rw [decide_eq_false na]; decide)]
    exact ih h2
  | @cons_cons s l a h ih =>
    intro nd
    obtain ⟨h1, h2⟩ := List.nodup_cons.mp nd
    rw [List.filter_cons_of_pos (p := fun r => decide (r ∈ a :: s)) (decide_eq_true List.mem_cons_self)]
    have e : l.filter (fun r => decide (r ∈ a :: s)) = l.filter (fun r => decide (r ∈ s)) := List.filter_congr fun r hr => decide_eq_decide.mpr ⟨fun q => (List.mem_cons.mp q).resolve_left fun e => h1 (e ▸ hr), fun q => List.mem_cons_of_mem _ q⟩
    rw [e, ih h2]
/-- a drawn rule -/
structure Draw2 (sg : List Str) (rs : List (List Str)) : Prop where
  n6 : sg.length ≤ 6
  nd : sg.Nodup
  good : ∀ z ∈ sg, Name1 z
  sub : rs.Sublist (fulls sg)
theorem Draw2.few {sg : List Str} {rs : List (List Str)} (D : Draw2 sg rs) : rs.length ≤ 64 := Nat.le_trans D.sub.length_le (fulls_few D.n6)
theorem full_of {sg r : List Str} (nd : sg.Nodup) (h : r ∈ fulls sg) : FullOf sg r := by
  obtain ⟨qs, e, rfl⟩ := fulls_mem.mp h
  refine ⟨qs, ⟨by rw [e]; exact nd, fun q hq => by rw [← e]; exact List.mem_map_of_mem hq⟩, ?_, rfl⟩
  rw [← e, List.length_map]
theorem Draw2.full {sg : List Str} {rs : List (List Str)} (D : Draw2 sg rs) : ∀ r ∈ rs, FullOf sg r := fun r hr => full_of D.nd (D.sub.subset hr)
theorem Draw2.rnd {sg : List Str} {rs : List (List Str)} (D : Draw2 sg rs) : rs.Nodup := D.sub.nodup (fulls_nodup sg)
section
variable {P : Program} {w : World} {K : PySem.W.Frag} {mg : Str → Option Value} {base : Heap} {f fD fN fF : Addr} {fd fdD fdN fdF : FuncData}
end
end K6
namespace K6
open PySem PySem.Spec PyProof.Rows L2 LamX NdefX EV
theorem full_texts {ns r : List Str} (good : ∀ z ∈ ns, Name1 z) (h : FullOf ns r) : r.length = ns.length ∧ ∀ z ∈ r, Fit z ∧ z.length ≤ 9 := by
  obtain ⟨qs, hq, lq, rfl⟩ := h
  refine ⟨by rw [List.length_map, lq], fun z hz => ?_⟩
  obtain ⟨q, hq', rfl⟩ := List.mem_map.mp hz
  have g := good _ (hq.sub q hq')
  refine ⟨g.fit.lit, ?_⟩
  have l8 : q.2.length ≤ 8 := g.2.1
  unfold lit
  split
  · rw [neg_len]; omega
  · omega
theorem small_allowed {sg : List Str} {rs : List (List Str)} (n7 : sg.length ≤ 7) (good : ∀ z ∈ sg, Name1 z) (full : ∀ r ∈ rs, FullOf sg r) : SmallAll (rs.map fun r => PyData.tuple (r.map PyData.str)) (((9 + 1) * 7 + 1) * rs.length) 3 :=
  small_rows (n := 9) (m := 7) rs fun r hr => ⟨by rw [(full_texts good (full r hr)).1]; omega, (full_texts good (full r hr)).2⟩
theorem small_names {sg : List Str} (n7 : sg.length ≤ 7) (good : ∀ z ∈ sg, Name1 z) : SmallAll (sg.map PyData.str) 70 2 := by
  have z := small_strs (n := 9) sg fun z hz => ⟨(good z hz).fit, by have l8 : z.length ≤ 8 := (good z hz).2.1; omega⟩
  exact ⟨z.ls, Nat.le_trans z.bk (by omega), z.sh, z.dp⟩
section
variable {P : Program} {w : World} {K : PySem.W.Frag} {mg : Str → Option Value} {base : Heap} {f fS f1 f2 f3 f4 C : Addr} {fd fdS fd1 fd2 fd3 fd4 : FuncData}
end
end K6
namespace K6
open PySem PySem.Spec PyProof.Rows L2 LamX NdefX EV
/-! ### full settings in order -/
theorem asc_full : ∀ (ns : List Str) (qs : List (Bool × Str)), ns.Nodup → (∀ z ∈ ns, Name1 z) → qs.map Prod.snd = ns → asc ns (qs.map lit) = qs.map lit
  | [], qs, _, _, e => by
    obtain rfl : qs = [] := by simpa using e
    rfl
  | n :: ns, [], _, _, e => nomatch e
  | n :: ns, (b, m) :: qs, nd, good, e => by
    injection e with e1 e2
    have e1 : m = n := e1
    subst e1
    obtain ⟨h1, h2⟩ := List.nodup_cons.mp nd
    have goodr : ∀ z ∈ ns, Name1 z := fun z hz => good z (List.mem_cons_of_mem _ hz)
    have ln : (m :: neg m :: lits ns).Nodup := lits_nodup (m :: ns) nd good
    obtain ⟨l1, l2⟩ := List.nodup_cons.mp ln
    obtain ⟨l3, l4⟩ := List.nodup_cons.mp l2
    have m1 : m ∉ lits ns := fun q => l1 (List.mem_cons_of_mem _ q)
    have sub : ∀ l ∈ qs.map lit, l ∈ lits ns := fun l hl => by
      obtain ⟨q, hq, rfl⟩ := List.mem_map.mp hl
      exact lit_mem (by rw [← e2]; exact List.mem_map_of_mem hq)
    have ih := asc_full ns qs h2 goodr e2
    have tail : (lits ns).filter (fun l => decide (l ∈ ((b, m) :: qs).map lit)) = qs.map lit := by
      rw [← ih]
      unfold asc
      refine List.filter_congr fun l hl => decide_eq_decide.mpr ⟨fun q => ?_, fun q => ?_⟩
      · rw [List.map_cons] at q
        rcases List.mem_cons.mp q with q | q
        · cases b
          · exact absurd (show l = m from q) fun e => m1 (e ▸ hl)
          · exact absurd (show l = neg m from q) fun e => l3 (e ▸ hl)
        · exact q
      · exact List.mem_cons_of_mem _ q
    show (m :: neg m :: lits ns).filter (fun l => decide (l ∈ ((b, m) :: qs).map lit)) = lit (b, m) :: qs.map lit
    cases b with
    | false =>
      have y1 : m ∈ ((false, m) :: qs).map lit := List.mem_cons_self
      have y2 : neg m ∉ ((false, m) :: qs).map lit := fun q => by
        rw [List.map_cons] at q
        rcases List.mem_cons.mp q with q | q
        · exact neg_ne m (show neg m = m from q).symm
        · exact l3 (sub _ q)
      rw [List.filter_cons, if_pos (decide_eq_true y1), List.filter_cons, if_neg (by rw [decide_eq_false y2]; decide), tail]
      rfl
    | true =>
      have y1 : m ∉ ((true, m) :: qs).map lit := fun q => by
        rw [List.map_cons] at q
        rcases List.mem_cons.mp q with q | q
        · exact neg_ne m (show m = neg m from q)
        · exact m1 (sub _ q)
      have y2 : neg m ∈ ((true, m) :: qs).map lit := List.mem_cons_self
      rw [List.filter_cons, if_neg (by rw [decide_eq_false y1]; decide), List.filter_cons, if_pos (decide_eq_true y2), tail]
      rfl
theorem asc_fulls {ns r : List Str} (nd : ns.Nodup) (good : ∀ z ∈ ns, Name1 z) (h : r ∈ fulls ns) : asc ns r = r := by
  obtain ⟨qs, e, rfl⟩ := fulls_mem.mp h
  exact asc_full ns qs nd good e
/-- literals of all names, in any order: brought into order they are a full setting -/
theorem asc_any {ns : List Str} {qs : List (Bool × Str)} (nd : ns.Nodup) (good : ∀ z ∈ ns, Name1 z) (hq : Lits ns qs) (lq : qs.length = ns.length) : asc ns (qs.map lit) ∈ fulls ns := by
  -- the literals, taken name by name
  have back : ∀ n ∈ ns, ∃ b, (b, n) ∈ qs := fun n hn => by
    have z := nodup_back hq.nd (by rw [List.length_map]; exact lq) (fun x hx => by
      obtain ⟨q, hq', rfl⟩ := List.mem_map.mp hx
      exact hq.sub q hq') n hn
    obtain ⟨⟨b, m⟩, hq', e⟩ := List.mem_map.mp z
    exact ⟨b, by rw [← show m = n from e]; exact hq'⟩
  have go : ∀ ms : List Str, (∀ n ∈ ms, n ∈ ns) → ∃ ps : List (Bool × Str), ps.map Prod.snd = ms ∧ ∀ p ∈ ps, p ∈ qs := by
    intro ms
    induction ms with
    | nil => intro _; exact ⟨[], rfl, fun _ h => nomatch h⟩
    | cons m ms ih =>
      intro h
      obtain ⟨ps, e, hp⟩ := ih fun n hn => h n (List.mem_cons_of_mem _ hn)
      obtain ⟨b, hb⟩ := back m (h m List.mem_cons_self)
      refine ⟨(b, m) :: ps, by rw [List.map_cons, e], fun p hpm => ?_⟩
      rcases List.mem_cons.mp hpm with rfl | hpm
      · exact hb
      · exact hp p hpm
  obtain ⟨ps, e, hp⟩ := go ns fun _ h => h
  have pn : (ps.map Prod.snd).Nodup := by rw [e]; exact nd
  have sub2 : ∀ q ∈ qs, q ∈ ps := by
    have ndp : ps.Nodup := List.Pairwise.of_map Prod.snd (fun a b h e => h (congrArg _ e)) pn
    have ndq : qs.Nodup := List.Pairwise.of_map Prod.snd (fun a b h e => h (congrArg _ e)) hq.nd
    have lp : ps.length = qs.length := by rw [lq, ← e, List.length_map]
    intro q hq'
    by_cases h : q ∈ ps
    · exact h
    · have z := nodup_le (q :: ps) qs (List.nodup_cons.mpr ⟨h, ndp⟩) fun a ha => (List.mem_cons.mp ha).elim (fun e => e ▸ hq') (hp a)
      rw [List.length_cons] at z
      omega
  have e3 : asc ns (qs.map lit) = asc ns (ps.map lit) := asc_congr fun l => by
    constructor
    · intro h
      obtain ⟨q, hq', rfl⟩ := List.mem_map.mp h
      exact List.mem_map_of_mem (sub2 q hq')
    · intro h
      obtain ⟨q, hq', rfl⟩ := List.mem_map.mp h
      exact List.mem_map_of_mem (hp q hq')
  rw [e3, asc_full ns ps nd good e]
  exact fulls_mem.mpr ⟨ps, e, rfl⟩
/-! ### the allowed settings -/
theorem allow_congr {ns : List Str} {a b : List (List Str)} (h : ∀ r ∈ fulls ns, r ∈ a ↔ r ∈ b) : allow ns a = allow ns b := by
  unfold allow
  exact List.filter_congr fun r hr => decide_eq_decide.mpr (h r hr)
theorem allow_mem {ns r : List Str} {gs : List (List Str)} : r ∈ allow ns gs ↔ r ∈ fulls ns ∧ r ∈ gs := by
  unfold allow
  rw [List.mem_filter]
  exact ⟨fun h => ⟨h.1, of_decide_eq_true h.2⟩, fun h => ⟨h.1, decide_eq_true h.2⟩⟩
theorem allow_sub {ns : List Str} {gs : List (List Str)} (h : gs.Sublist (fulls ns)) : allow ns gs = gs := sub_filter h (fulls_nodup ns)
theorem make_rule {K : PySem.W.Frag} {C : Addr} {H : Hp} {S0 T0 x dx : Addr} {b1 b2 : Bool} {sg : List Str} {xs : List V} {qss : List (List (Bool × Str))} {W : VK} (hx : H x = none) (hdx : H dx = none) (hS : Sq K b1 H S0 (sg.map V.str)) (hT : Sq K b2 H T0 xs) (n6 : sg.length ≤ 6) (nd : sg.Nodup) (good : ∀ z ∈ sg, Name1 z)
    (giv : Paired (Handed K H sg) xs qss) (lens : ∀ qs ∈ qss, qs.length = sg.length) (few : qss.length ≤ 1000) (k : ∀ r H', Same H H' → RuleR K C H' x sg (allow sg (rowsOf sg qss)) r → H r = none → W .non H') :
    spInit K C [.ref x, .ref S0, .ref T0] (upd (upd H dx (.own x)) x (.ins C dx [])) W E0 := by
  have sm0 : Same H (upd (upd H dx (.own x)) x (.ins C dx [])) := fun c o e => (upd_ne (ne_of_none e hx)).trans ((upd_ne (ne_of_none e hdx)).trans e)
  have g : ∀ H', Grow x (upd (upd H dx (.own x)) x (.ins C dx [])) H' → Same H H' := fun H' gg c o e => gg c o (ne_of_none e hx) (sm0 c o e)
  refine ⟨x, dx, S0, T0, b1, b2, sg, xs, qss, rfl, upd_same, fun H' gg => Sq.same hS (g H' gg), fun H' gg => Sq.same hT (g H' gg), n6, nd, good, Paired.mapP giv (fun v qs h => Handed.given h g), lens, few, fun H' r gg c fresh => k r H' (g H' gg) c ?_⟩
  cases e : H r with
  | none => rfl
  | some o =>
    rw [sm0 r o e] at fresh
    cases fresh
/-- rows as they stand, handed over -/
theorem handed_full {K : PySem.W.Frag} {H : Hp} {sg : List Str} : ∀ {ts : List Addr} {rs : List (List Str)}, RowsAt H ts rs → (∀ r ∈ rs, FullOf sg r) →
    ∃ qss, Paired (Handed K H sg) (ts.map V.ref) qss ∧ rs = qss.map (fun qs => qs.map lit) ∧ ∀ qs ∈ qss, qs.length = sg.length
  | [], [], _, _ => ⟨[], .nil, rfl, fun _ h => nomatch h⟩
  | t :: ts, r :: rs, .cons h tl, full => by
    obtain ⟨qs, hq, lq, rfl⟩ := full r List.mem_cons_self
    obtain ⟨qss, h1, h2, h3⟩ := handed_full tl fun x hx => full x (List.mem_cons_of_mem _ hx)
    refine ⟨qs :: qss, .cons ⟨hq, false, t, rfl, Sq.tup h⟩ h1, by rw [List.map_cons, h2], fun x hx => ?_⟩
    rcases List.mem_cons.mp hx with rfl | hx
    · exact lq
    · exact h3 x hx
theorem rowsOf_fulls {sg : List Str} {rs : List (List Str)} {qss : List (List (Bool × Str))} (nd : sg.Nodup) (good : ∀ z ∈ sg, Name1 z) (e : rs = qss.map (fun qs => qs.map lit)) (h : ∀ r ∈ rs, r ∈ fulls sg) : allow sg (rowsOf sg qss) = allow sg rs := by
  refine allow_congr fun r hr => ?_
  rw [rowsOf_iff]
  constructor
  · rintro ⟨qs, hqs, rfl⟩
    have m : qs.map lit ∈ rs := by rw [e]; exact List.mem_map_of_mem hqs
    rw [asc_fulls nd good (h _ m)]
    exact m
  · intro m
    have m2 := m
    rw [e] at m2
    obtain ⟨qs, hqs, rfl⟩ := List.mem_map.mp m2
    exact ⟨qs, hqs, (asc_fulls nd good (h _ m)).symm⟩
end K6
/-! ### xs[::k], k a number from 1 on -/
namespace EV
open PySem PySem.Spec PyProof.Rows L2
def stepIx (k n : Nat) : List Nat := sliceRange (sliceBounds none none (some (k : Int)) n).1 (sliceBounds none none (some (k : Int)) n).2.1 (sliceBounds none none (some (k : Int)) n).2.2
def pickS {α : Type} (k : Nat) (xs : List α) : List α := (stepIx k xs.length).filterMap fun i => xs[i]?
theorem vals_pick {xs : List V} {us : List Value} (h : Vals xs us) : ∀ ix : List Nat, Vals (ix.filterMap fun i => xs[i]?) (ix.filterMap fun i => us[i]?)
  | [] => .nil
  | i :: ix => by
    have ih := vals_pick h ix
    have rel : ∀ {xs : List V} {us : List Value}, Vals xs us → ∀ i : Nat, (xs[i]? = none ∧ us[i]? = none) ∨ ∃ x u, xs[i]? = some x ∧ us[i]? = some u ∧ RelV x u := by
      intro xs us h
      induction h with
      | nil => exact fun i => .inl ⟨rfl, rfl⟩
      | cons a _ ih =>
        intro i
        cases i with
        | zero => exact .inr ⟨_, _, rfl, rfl, a⟩
        | succ i => exact ih i
    rcases rel h i with ⟨e1, e2⟩ | ⟨x, u, e1, e2, r⟩
    · rw [List.filterMap_cons_none e1, List.filterMap_cons_none e2]
      exact ih
    · rw [List.filterMap_cons_some e1, List.filterMap_cons_some e2]
      exact .cons r ih
def tStepS (K : PySem.W.Frag) (k : Nat) (te : TE) : TE := fun σ H Q => te σ H fun x H1 => ∃ a xs, x = .ref a ∧ SqL K H1 a xs ∧ (pickS k xs).length ≤ sizeLine ∧ ∀ p, H1 p = none → Q (.ref p) (upd H1 p (.lst (pickS k xs)))
theorem pe_stepS {X : Cx} {e : Expr} {te : TE} {n k : Nat} {p1 p3 pos : Pos} (hn : some (n : Int) ≠ some 0) (he : PE X e te) : PE X (.Subscript e (.Slice none none (some (.Constant (.int (n : Int)) k p1)) p3) pos) (tStepS X.K n te) := by
  refine ⟨fun pins s σ H Q I h => ?_⟩
  refine Subscript_ (thn (he.run pins s σ H _ I h) fun v s1 ⟨x, H1, I1, r1, q1⟩ => ?_)
  obtain ⟨a, xs, ex, hx, lp, q⟩ := q1
  subst ex
  cases r1
  have hst : PO X (some (.Constant (.int (n : Int)) k p1)) (tPart (tC (.int (n : Int)))) := po_some pe_int
  refine wpAny_Slice (thn (po_none.run pins s1 σ H1 (fun o H2 => o = none ∧ H2 = H1) I1 ⟨rfl, rfl⟩) fun vl s2 ⟨l, H2, I2, pl, el, e2⟩ => ?_)
  subst el e2
  refine thn (po_none.run pins s2 σ H2 (fun o H3 => o = none ∧ H3 = H2) I2 ⟨rfl, rfl⟩) fun vu s3 ⟨u, H3, I3, pu, eu, e3⟩ => ?_
  subst eu e3
  refine thn (hst.run pins s3 σ H3 (fun o H4 => o = some (n : Int) ∧ H4 = H3) I3 ⟨_, rfl, rfl, rfl⟩) fun vs s4 ⟨o, H4, I4, ps, eo, e4⟩ => ?_
  subst eo e4
  have I5 : Inv X pins σ H4 { s4 with heap := s4.heap.push { cls := .type "slice", data := .fields #[vl, vu, vs] } } := I4.kept (t' := s4.toks) fun b ob q => Heap.get?_push_of_some _ q
  obtain ⟨its, r, ht, hz⟩ := I5.list hx
  have hlen := r.length
  show wpAny (model X.prog X.w) X.A (subscriptTail e (.Slice none none (some (.Constant (.int (n : Int)) k p1)) p3) (.ref a) (.ref s4.heap.objs.size)) (EP X pins σ Q) X.xe { s4 with heap := s4.heap.push { cls := .type "slice", data := .fields #[vl, vu, vs] } }
  refine tail_any (ops := [.ref a, .ref s4.heap.objs.size]) ht.isList.typeIs (PySem.slot_list_getitem.lookup) ?_ (by with_unfolding_all rfl)
  refine wpAny_getItem_list_slice ht.isList (Heap.IsSliceOf.new _ vl vu vs) pl pu ps hn ?_ (by rw [List.size_toArray]; omega)
  have vp : Vals (pickS n xs) ((stepIx n xs.length).filterMap fun i => its[i]?) := vals_pick r _
  have e : slicePick its.toArray none none (some (n : Int)) = ((stepIx n xs.length).filterMap fun i => its[i]?).toArray := by
    unfold slicePick stepIx
    rw [List.size_toArray, ← hlen]
    simp only [List.getElem?_toArray]
  rw [e]
  refine ⟨.ref _, _, I5.laid (t' := s4.toks) (o := .lst (pickS n xs)) (fun b ob q => Heap.get?_push_of_some _ q) (Nat.le_refl _) ?_, rfl, q _ (I5.hok.fresh (Nat.le_refl _))⟩
  exact ⟨lp, _, 0, vp, Heap.get?_push_size _ rfl⟩
end EV
namespace K6
open PySem PySem.Spec PyProof.Rows L2 LamX NdefX EV
/-! ### what the law reckons of two rules together -/
theorem pick_map {α β : Type} {f : α → β} {k : Nat} {xs : List α} : pickS k (xs.map f) = (pickS k xs).map f := by
  unfold pickS
  rw [List.map_filterMap, List.length_map]
  congr 1
  funext i
  exact List.getElem?_map
theorem pick_mem {α : Type} {k : Nat} {xs : List α} {x : α} (h : x ∈ pickS k xs) : x ∈ xs := by
  obtain ⟨i, _, e⟩ := List.mem_filterMap.mp h
  exact List.mem_of_getElem? e
theorem rows_pickI {H : Hp} {ts : List Addr} {rs : List (List Str)} (h : RowsAt H ts rs) : ∀ ix : List Nat, RowsAt H (ix.filterMap fun i => ts[i]?) (ix.filterMap fun i => rs[i]?)
  | [] => .nil
  | i :: ix => by
    have ih := rows_pickI h ix
    cases e : ts[i]? with
    | none =>
      have e2 : rs[i]? = none := by
        have l : ts.length = rs.length := Paired.length h
        rw [List.getElem?_eq_none_iff] at e ⊢
        omega
      rw [List.filterMap_cons_none e, List.filterMap_cons_none e2]
      exact ih
    | some t =>
      obtain ⟨r, e2, ht⟩ := RowsAt.get h i t e
      rw [List.filterMap_cons_some e, List.filterMap_cons_some e2]
      exact .cons ht ih
theorem rows_pick {H : Hp} {k : Nat} {ts : List Addr} {rs : List (List Str)} (h : RowsAt H ts rs) : RowsAt H (pickS k ts) (pickS k rs) := by
  have l : ts.length = rs.length := Paired.length h
  unfold pickS
  rw [l]
  exact rows_pickI h _
section
variable {P : Program} {w : World} {K : PySem.W.Frag} {mg : Str → Option Value} {base : Heap} {f C : Addr} {fd : FuncData}
end
end K6
namespace K6
open PySem PySem.Spec PyProof.Rows L2 LamX NdefX EV
/-! ### pairs that are shown -/
theorem int_short : ∀ i : Nat, i < 61 → (PyData.int (i : Int)).leavesShort 40 = true ∧ (PyData.int (i : Int)).showable = true := by decide +kernel
/-- a thing that is shown within few signs -/
structure Few (d : PyData) : Prop where
  ls : d.leavesShort 40 = true
  bk : d.bulk ≤ 60
  sh : d.showable = true
  dp : d.depth ≤ 6
theorem Few.str {z : Str} (f : Fit z) (l : z.length ≤ 60) : Few (.str z) := ⟨name_short f, l, rfl, Nat.zero_le _⟩
theorem Few.int {i : Nat} (h : i < 61) : Few (.int (i : Int)) := ⟨(int_short i h).1, Nat.zero_le _, (int_short i h).2, Nat.zero_le _⟩
theorem Few.pair {w : Str} {d : PyData} (hw : Few (.str w)) (hd : Few d) : Small (.tuple [.str w, d]) 200 := by
  have all := SmallAll.cons (m := 8) hw.ls hw.bk hw.sh (Nat.le_trans hw.dp (by decide)) (.cons (m := 8) hd.ls hd.bk hd.sh (Nat.le_trans hd.dp (by decide)) SmallAll.nil)
  obtain ⟨c1, c2, c3, c4⟩ := small_tup all
  exact ⟨c1, Nat.le_trans c2 (by decide), c3, by omega⟩
theorem dq_pair {K : PySem.W.Frag} {H : Hp} {t : Addr} {w : Str} {x : V} {d : PyData} (h : H t = some (.tup [.str w, x])) (hx : Dq K H x d) : Dq K H (.ref t) (.tuple [.str w, d]) := .tup (SqT.of h) (.cons (.str w) (.cons hx .nil))
theorem CutN.lt {i : Nat} {xs : List V} (c : CutN (some i) xs) : i < xs.length := by
  obtain ⟨ns, tail, _, _, rfl, h1, h2⟩ := c.split
  cases tail with
  | nil => cases h1 rfl
  | cons x r =>
    have e := Option.some.inj (h2 x r rfl).1
    rw [e, List.length_append, List.length_map, List.length_cons]
    omega
/-- what is due is shown in few signs -/
theorem Due.few {K : PySem.W.Frag} {H : Hp} {xs : List V} {ios : List (Option (List V))} {w : Str} {x : V} (d : Due xs ios w x) (l1 : xs.length ≤ 60) (l2 : ios.length ≤ 60) : ∃ dx, Few (.str w) ∧ Few dx ∧ Dq K H x dx := by
  cases d with
  | names c => exact ⟨_, .str (fit_of (by decide)) (by decide), .int (by have := c.lt; omega), .int _⟩
  | many nd good n6 => exact ⟨_, .str (fit_of (by decide)) (by decide), .int (by rw [List.length_map] at l1; omega), .int _⟩
  | setting nd good n6 before bad =>
    obtain ⟨io, h, _⟩ := bad
    have := (List.getElem?_eq_some_iff.mp h).1
    exact ⟨_, .str (fit_of (by decide)) (by decide), .int (by omega), .int _⟩
  | told nd good n6 all => exact ⟨.bool true, .str (fit_of (by decide)) (by decide), ⟨rfl, by decide, rfl, by decide⟩, .bl true⟩
/-! ### the things that are no signs -/
def rightTypes : List String := ["str", "NoneType", "int", "bool", "list", "dict"]
inductive OddS (ns : List Str) (H : Hp) : V → PyData → String → Prop
  | str {z : Str} (n : z ∉ ns) (f : Fit z) (l : z.length ≤ 20) : OddS ns H (.str z) (.str z) "str"
  | non : OddS ns H .non .none "NoneType"
  | five : OddS ns H (.int 5) (.int 5) "int"
  | bl : OddS ns H (.bl true) (.bool true) "bool"
  | lst {a : Addr} (h : H a = some (.lst [.str (Str.ofString "a")])) (n : a ≠ sysModules) : OddS ns H (.ref a) (.list [.str (Str.ofString "a")]) "list"
  | dct {a : Addr} (h : H a = some (.dK [])) : OddS ns H (.ref a) (.dict []) "dict"
theorem OddS.ext {ns : List Str} {H H' : Hp} {v : V} {d : PyData} {T : String} (o : OddS ns H v d T) (e : ExtN H H') : OddS ns H' v d T := by
  cases o with
  | str n f l => exact .str n f l
  | non => exact .non
  | five => exact .five
  | bl => exact .bl
  | lst h n => exact .lst (e _ _ h fun ps z => nomatch z) n
  | dct h => exact .dct (e _ _ h fun ps z => nomatch z)
theorem OddS.thing {ns : List Str} {H : Hp} {v : V} {d : PyData} {T : String} (o : OddS ns H v d T) : Thing H v := by
  cases o with
  | str n f l => exact .str f (by omega)
  | non => exact .non
  | five => exact .five
  | bl => exact .bl true
  | lst h n => exact .lst h (fit_of (by decide)) (by decide)
  | dct h => exact .dct h
theorem OddS.no {ns : List Str} {H : Hp} {v : V} {d : PyData} {T : String} (o : OddS ns H v d T) : ∀ z, v = .str z → z ∉ ns := by
  cases o with
  | str n f l => exact fun z e => by injection e with e; exact e ▸ n
  | _ => exact fun z e => nomatch e
theorem OddS.dq {K : PySem.W.Frag} {ns : List Str} {H : Hp} {v : V} {d : PyData} {T : String} (o : OddS ns H v d T) : Dq K H v d := by
  cases o with
  | str n f l => exact .str _
  | non => exact .non
  | five => exact .int 5
  | bl => exact .bl true
  | lst h n => exact .lst (SqL.of h) n (.cons (.str _) .nil)
  | dct h => exact .dct h .nil
theorem OddS.ty {K : PySem.W.Frag} {ns : List Str} {H : Hp} {v : V} {d : PyData} {T : String} (o : OddS ns H v d T) : TyX K H v (.type T) ∧ T ∈ rightTypes := by
  cases o with
  | str n f l => exact ⟨.base (.str _), by decide⟩
  | non => exact ⟨.base .non, by decide⟩
  | five => exact ⟨.base (.int 5), by decide⟩
  | bl => exact ⟨.base (.bl true), by decide⟩
  | lst h n => exact ⟨.base (.lst h), by decide⟩
  | dct h => exact ⟨.base (.dK h), by decide⟩
theorem OddS.few {ns : List Str} {H : Hp} {v : V} {d : PyData} {T : String} (o : OddS ns H v d T) : Few d := by
  cases o with
  | str n f l => exact .str f (by omega)
  | non => exact ⟨rfl, by decide, rfl, by decide⟩
  | five => exact .int (i := 5) (by decide)
  | bl => exact ⟨rfl, by decide, rfl, by decide⟩
  | lst h n => exact ⟨by decide +kernel, by decide +kernel, rfl, by decide +kernel⟩
  | dct h => exact ⟨rfl, by decide, rfl, by decide⟩
/-! ### each second setting -/
theorem fm_congr {α β : Type} {f g : α → Option β} : ∀ l : List α, (∀ x ∈ l, f x = g x) → l.filterMap f = l.filterMap g
  | [], _ => rfl
  | x :: l, h => by
    have ih := fm_congr l fun y hy => h y (List.mem_cons_of_mem _ hy)
    have e := h x List.mem_cons_self
    cases q : f x with
    | none => rw [List.filterMap_cons_none q, List.filterMap_cons_none (e ▸ q), ih]
    | some y => rw [List.filterMap_cons_some q, List.filterMap_cons_some (e ▸ q), ih]
theorem sub_pick {α : Type} : ∀ (xs : List α) (ix : List Nat), ix.Pairwise (· < ·) → (ix.filterMap fun i => xs[i]?).Sublist xs
  | [], ix, _ => by
    have e : (ix.filterMap fun i => ([] : List α)[i]?) = [] := by
      induction ix with
      | nil => rfl
      | cons i r ih => rw [List.filterMap_cons_none (by simp)]; exact ih (by rename_i h; exact (List.pairwise_cons.mp h).2)
    rw [e]
    exact List.Sublist.refl _
  | x :: xs, ix, h => by
    have low : ∀ jx : List Nat, jx.Pairwise (· < ·) → (∀ j ∈ jx, 0 < j) → (jx.filterMap fun i => (x :: xs)[i]?).Sublist xs := fun jx hj pos => by
      have e : (jx.filterMap fun i => (x :: xs)[i]?) = ((jx.map (· - 1)).filterMap fun i => xs[i]?) := by
        rw [List.filterMap_map]
        refine fm_congr _ fun j hj' => ?_
        have := pos j hj'
        obtain ⟨k, rfl⟩ : ∃ k, j = k + 1 := ⟨j - 1, by omega⟩
        simp
      rw [e]
      refine sub_pick xs _ ?_
      refine List.pairwise_map.mpr ((List.Pairwise.and_mem.mp hj).imp fun {a b} hab => ?_)
      have := pos a hab.1
      have := hab.2.2
      omega
    cases ix with
    | nil => exact List.nil_sublist _
    | cons i r =>
      obtain ⟨h1, h2⟩ := List.pairwise_cons.mp h
      cases i with
      | zero =>
        rw [List.filterMap_cons_some (b := x) (by simp)]
        exact (low r h2 fun j hj => h1 j hj).cons_cons x
      | succ i => exact (low ((i + 1) :: r) h fun j hj => (List.mem_cons.mp hj).elim (fun e => by rw [e]; exact Nat.succ_pos _) fun q => by have := h1 j q; omega).cons x
theorem step_up : ∀ k : Nat, k ≤ 5 → (stepIx 2 (2 ^ k)).Pairwise (· < ·) := by decide +kernel
theorem evens_sub {ns : List Str} (h : ns.length ≤ 5) : (pickS 2 (fulls ns)).Sublist (fulls ns) := by
  unfold pickS
  rw [fulls_len]
  exact sub_pick _ _ (step_up _ h)
end K6
namespace K6
open PySem PySem.Spec PyProof.Rows L2 LamX NdefX EV
def spAll (K : PySem.W.Frag) (C CN CM CB : Addr) : Sp := orSp (spInit K C) (orSp (spInitN K C CN) (orSp (spInitM K C CM) (spInitS K C CB)))
/-- all that the law asks of the text -/
structure LW3 (P : Program) (w : World) (K : PySem.W.Frag) (mg : Str → Option Value) (base : Heap) (C CN CM CB CG : Addr) : Prop where
  T : RTxt K mg C
  CI : CIs K C
  kit : PySem.W.kitOne K (.ref C) (.ref C) = some true
  self1 : PySem.W.selfFirst K C = true
  subro : PySem.W.findIn K (.ref C) (dunderR Operator.Sub.info.2) = some none
  right : ∀ T ∈ rightTypes, RightOk K C Operator.Sub.info.2 T
  range : mg "range" = none
  isi : mg "isinstance" = none
  draw : Has P w K mg base 1 "_law_draw" ["_law_stream", "_law_many"] spDraw
  pick : Has P w K mg base 2 "_law_pick" ["_law_stream", "_law_things"] (spPickL K)
  names : Has P w K mg base 4 "_law_names" ["_law_stream", "_law_many"] spNames
  fulls : Has P w K mg base 1 "_law_fulls" ["_law_names_here"] (spFulls K)
  half : Has P w K mg base 3 "_law_half" ["_law_stream", "_law_names_here"] (spHalf K)
  sided : Has P w K mg base 3 "_law_sided" ["_law_stream", "_law_names_here"] (spSided K)
  spoiled : Has P w K mg base 4 "_law_spoiled" ["_law_stream", "_law_setting", "_law_names_here"] (spSpoiled K)
  firstOdd : Has P w K mg base 2 "_law_first_odd" ["_law_thing", "_law_names_here"] (spFirstOdd K)
  due : Has P w K mg base 3 "_law_due" ["_law_signs", "_law_settings"] (spDue K)
  sameP : HasG P w K mg base 1 "_law_same" ["_law_found", "_law_due_here"] (spSameP K)
  same : HasG P w K mg base 1 "_law_same" ["_law_found", "_law_due_here"] (spSame K)
  end_ : ∃ g fd, Fun K "_law_end" "_law_end" sEnd g fd ∧ mg "_law_end" = some (.ref g) ∧ L2.Binds K fd ["_law_ask"] []
  tn : ∃ f, XT K mg "BadNames" "index" CN f
  tm : ∃ f, XT K mg "TooMany" "n" CM f
  tb : ∃ f, XT K mg "BadSetting" "index" CB f
  tg : ∃ f, XT K mg "NoSign" "name" CG f
  ex : EXs K CN CM CB CG
  make : ∃ fI fdI, Mk K C fI ∧ FnOk P w K mg base CX0 5 fI fdI psInit (spInit K C) ∧ FnOk P w K mg base (L2.CX P w) 5 fI fdI psInit (spAll K C CN CM CB) ∧ L2.Binds K fdI psInit []
  forced : ∃ f fd, FnOk P w K mg base (L2.CX P w) 4 f fd ["self", "setting"] (spForcedX K C CB) ∧ Meth K C "forced" f ∧ L2.Binds K fd ["self", "setting"] []
  turned : ∃ f fd, FnOk P w K mg base (L2.CX P w) 4 f fd ["self", "name"] (spSignX K C CG) ∧ Meth K C "turned" f ∧ L2.Binds K fd ["self", "name"] []
  sub : ∃ f fd, FnOk P w K mg base (L2.CX P w) 4 f fd ["self", "name"] (spSignX K C CG) ∧ PySem.W.findIn K (.ref C) (PySem.dunder Operator.Sub.info.2) = some (some (.ref f)) ∧ PySem.W.isFn K (.ref f) = true ∧ L2.Binds K fd ["self", "name"] []
  settings : ∃ f fd, FnOk P w K mg base CX0 1 f fd ["self"] (spSettings K C) ∧ Meth K C "settings" f ∧ L2.Binds K fd ["self"] []
abbrev nLaw3 : List Str := ["_law_script", "_law_stream", "_law_turn", "_law_names_here", "_law_settings", "_law_signs", "_law_odd_here", "_law_rule", "_law_half_here", "_law_wrong", "_law_k"]
theorem scLaw3 : FnScope nLaw3 ["_law_script"] (defScope sLaw) := ⟨rfl, rfl, rfl, by decide +kernel, rfl, by decide +kernel, by decide +kernel⟩
def turn3 : List Stmt := forBody ((defBody sLaw).getD 1 (.Pass ⟨0, 0, 0, 0⟩))
def qL3 : Str := (envOfC "law" (defScope sLaw) 0 0 .none).qual ++ "<lambda>"
def SigT3 (a S : Addr) (σ : L2.St) : Prop := ∃ o2 o3 o4 o5 o6 o7 o8 o9 o10, σ = [some (.ref a), some (.ref S), o2, o3, o4, o5, o6, o7, o8, o9, o10]
theorem sqT_ext {K : PySem.W.Frag} {H H' : Hp} {a : Addr} {xs : List V} (h : SqT K H a xs) (k : ExtN H H') : SqT K H' a xs := by
  rcases h with h | h
  · refine .inl ?_
    rcases h with h | ⟨o, h⟩
    · exact .inl (k _ _ h fun ps z => nomatch z)
    · exact .inr ⟨o, k _ _ h fun ps z => nomatch z⟩
  · exact .inr h
theorem RuleR.ext {K : PySem.W.Frag} {C : Addr} {H H' : Hp} {x r : Addr} {sg : List Str} {rs : List (List Str)} (c : RuleR K C H x sg rs r) (k : ExtN H H') : RuleR K C H' x sg rs r := by
  obtain ⟨dx, a, pl, h1, h2, h4, h5⟩ := c.at_
  exact ⟨dx, a, pl, k _ _ h1 (fun ps z => nomatch z), fun H2 s2 => (sqT_ext (h2 H (Same.refl H)) k).ext s2, k _ _ h4 (fun ps z => nomatch z), k _ _ h5 (fun ps z => nomatch z)⟩
abbrev XL3 (P : Program) (w : World) (K : PySem.W.Frag) (mg : Str → Option Value) (base : Heap) (f : Addr) (cdv : Value) (A : Around) (outer : List Env) (s0 : Shared) (HH : Hp) (E : XK) : Cx := (cxOf CX0 P w K mg base nLaw3 "law" (defScope sLaw) f cdv A outer s0 HH E).nox
theorem ExtN.same {H H' : Hp} (s : Same H H') : ExtN H H' := fun b o h _ => s b o h
section
variable {P : Program} {w : World} {K : PySem.W.Frag} {mg : Str → Option Value} {base : Heap} {C CN CM CB CG cO Pt : Addr}
variable {f : Addr} {A : Around} {outer : List Env} {s0 : Shared} {HH : Hp} {E : XK}
/-- the rows of a rule compared with each second setting -/
theorem segA (T : LW3 P w K mg base C CN CM CB CG) (TB : TabB base mg cO Pt) (hg : (XL3 P w K mg base f (.ref cO) A outer s0 HH E).A.guards = some []) (hr : Room 9 (XL3 P w K mg base f (.ref cO) A outer s0 HH E).A) :
    ∃ tt, PSs (XL3 P w K mg base f (.ref cO) A outer s0 HH E) (turn3.drop 10) tt ∧ ∀ (D : Ends) (pn p r : Addr) (ns : List Str) (σ : L2.St) (H : Hp), σ[3]? = some (some (.ref pn)) → σ[7]? = some (some (.ref p)) → RuleR K C H p ns (pickS 2 (fulls ns)) r → H pn = some (.lst (ns.map V.str)) → ns.length ≤ 5 → ns.Nodup → (∀ z ∈ ns, Name1 z) →
      (∀ H', Same H H' → D.nx σ H') → tt D σ H := by
  obtain ⟨fS, fdS, GS, mS, bS⟩ := T.settings
  have TT := T.T
  have hr1 : Room 1 _ := hr.mono (by decide)
  refine ⟨_, pss_one (ps_if (pt_not (pt_val (pe_callHG T.sameP hg hr1 (by rfl) (pa_cons (pe_meth0 (pv 7) TT.cl mS GS hr1 bS .nil pass0) (pa_cons (pe_stepS (n := 2) (by decide) (pe_callH T.fulls hr1 (by rfl) (pa_cons (pv 3) pa_nil))) pa_nil))))) (pss_one (ps_ret pe_bl)) pss_nil), ?_⟩
  intro D pn p r ns σ H h3 h7 cx hpn n5 nd good k
  obtain ⟨dx, a, pl, hx, ha, _, _⟩ := cx.at_
  refine ⟨_, h7, p, dx, _, rfl, hx, fl_no (by decide +kernel), p, r, ns, _, rfl, cx, fun q ts hq rows => ?_⟩
  have sq := same_new (o := .lst (ts.map V.ref)) hq
  refine ⟨_, h3, pn, ns, rfl, (fun H' s' => SqL.of (s' _ _ (sq _ _ hpn))), by omega, (fun z hz => (good z hz).2.1), fun pf us H2 hpf0 hpf rows2 sm2 => ?_⟩
  have f64 := fulls_few (ns := ns) (by omega)
  have sub := evens_sub (ns := ns) n5
  have lp := sub.length_le
  have lu : (pickS 2 (us.map V.ref)).length ≤ sizeLine := by
    rw [pick_map, List.length_map]
    have z : (pickS 2 us).length = (pickS 2 (fulls ns)).length := Paired.length (rows_pick rows2)
    rw [z, sizeLine_eq]
    omega
  refine ⟨pf, _, rfl, SqL.of hpf, lu, fun m hm => ?_⟩
  rw [pick_map]
  have s4 := same_new (o := .lst ((pickS 2 us).map V.ref)) hm
  have smm := (sq.trans sm2).trans s4
  have full : ∀ q ∈ pickS 2 (fulls ns), FullOf ns q := fun q hq => full_of nd (sub.subset hq)
  obtain ⟨c1, c2, c3, c4⟩ := small_list (small_allowed (sg := ns) (by omega) good full)
  refine ⟨.ref q, .ref m, .list ((pickS 2 (fulls ns)).map fun r => .tuple (r.map PyData.str)), 6000, rfl, .lst (SqL.of (s4 _ _ (sm2 _ _ upd_same))) (RowsAt.lift ((rows.same sq).same (sm2.trans s4))), .lst (SqL.of upd_same) (RowsAt.lift ((rows_pick rows2).same s4)), ⟨c1, ?_, c3, by omega⟩, by decide, ?_⟩
  · have bk : ((9 + 1) * 7 + 1) * (pickS 2 (fulls ns)).length ≤ 6000 := by omega
    exact Nat.le_trans c2 bk
  · exact ⟨_, rfl, iteF (k _ smm)⟩
end
end K6
namespace K6
open PySem PySem.Spec PyProof.Rows L2 LamX NdefX EV
def tSX (K : PySem.W.Frag) (C CG : Addr) (i j : Nat) (E : XK) : TE := tOp (fun x y H Q => (∃ T, TyX K H y (.type T) ∧ RightOk K C Operator.Sub.info.2 T) ∧ rBin C (spSignX K C CG) E x y H Q) (tVar i) (tVar j)
def tTX (K : PySem.W.Frag) (C CG : Addr) (i j : Nat) (E : XK) : TE := tMeth C "turned" (spSignX K C CG) [] E (tVar i) (tCons (tVar j) tNil)
theorem neg_out {ns : List Str} {m : Str} (good : ∀ z ∈ ns, Name1 z) : neg m ∉ ns := fun h => by
  have z := (good _ h).2.2 45 (by rw [neg_list]; exact List.mem_cons_self)
  omega
theorem join_one (n : Str) : Txt.join (Str.ofString "") [n] = n := rfl
theorem join_none : Txt.join (Str.ofString "") [] = Str.ofString "" := rfl
theorem word_out {ns : List Str} (good : ∀ z ∈ ns, Name1 z) (w : Str) (h : ¬ Name1 w) : w ∉ ns := fun m => h (good w m)
section
variable {P : Program} {w : World} {K : PySem.W.Frag} {mg : Str → Option Value} {base : Heap} {C CN CM CB CG cO Pt : Addr}
variable {f : Addr} {A : Around} {outer : List Env} {s0 : Shared} {HH : Hp} {E : XK}
theorem segB (T : LW3 P w K mg base C CN CM CB CG) (TB : TabB base mg cO Pt) (hg : (XL3 P w K mg base f (.ref cO) A outer s0 HH E).A.guards = some []) (hr : Room 9 (XL3 P w K mg base f (.ref cO) A outer s0 HH E).A) :
    ∃ tt, PSs (XL3 P w K mg base f (.ref cO) A outer s0 HH E) (turn3.drop 9) tt ∧ ∀ (D : Ends) (a S pn p r : Addr) (ns : List Str) (o2 o4 o5 o6 o8 o9 o10 : Option V) (H : Hp), RuleR K C H p ns (pickS 2 (fulls ns)) r → H pn = some (.lst (ns.map V.str)) → ns.length ≤ 5 → ns.Nodup → (∀ z ∈ ns, Name1 z) → Tabs [(Pt, qL3)] H →
      (∀ σ' H', SigT3 a S σ' → ExtN H H' → Tabs [(Pt, qL3)] H' → D.nx σ' H') → tt D [some (.ref a), some (.ref S), o2, some (.ref pn), o4, o5, o6, some (.ref p), o8, o9, o10] H := by
  obtain ⟨ttA, pA, kA⟩ := segA (f := f) (A := A) (outer := outer) (s0 := s0) (HH := HH) (E := E) T TB hg hr
  obtain ⟨g, fd, FE, mE, bE⟩ := T.end_
  obtain ⟨oc, od, kV, doc, pm, an, cdR, ct, osl, rfl, lkE, hcE⟩ := FE.ex
  obtain ⟨xN, TN⟩ := T.tn
  obtain ⟨xM, TM⟩ := T.tm
  obtain ⟨xB, TBd⟩ := T.tb
  obtain ⟨xG, TG⟩ := T.tg
  obtain ⟨fS, fdS, GS, hsS, hfS, bS⟩ := T.sub
  obtain ⟨fT, fdT, GT, mT, bT⟩ := T.turned
  have TT := T.T
  have hr1 : Room 1 _ := hr.mono (by decide)
  have hr7 : Room 7 _ := hr.mono (by decide)
  refine ⟨_, pss_cons (ps_for PassesOwn.never rfl (pi_list (pe_lst (pa_cons pe_str (pa_cons pe_str (pa_cons pe_non (pa_cons pe_int (pa_cons (pe_lstB (pa_cons pe_str pa_nil)) (pa_cons pe_dnewK (pa_cons pe_bl (pa_cons (pe_op op_add_str pe_str (pe_join pe_str (pe_slice sl_list (pv 3) po_none (po_some pe_int)))) pa_nil)))))))))) (pg_name (i := 6) scLaw3.nd rfl (.inr rfl))
      (pss_cons (ps_if (pt_not (pt_val (pe_callHG T.same hg hr1 (by rfl) (pa_cons (pe_lamcall1 (k := 4) (T := [(Pt, qL3)]) (t := tSX K C CG 7 6) (by rfl) mE FE.kp lkE hcE bE scEnd rfl (.inl rfl) (end_gives TN TM TBd TG T.ex) TB rfl (List.mem_singleton.mpr rfl) (fun p hp _ => by rw [List.mem_singleton.mp hp]; rfl) hr7 (lamS_by (sc := defScope sLaw) (by decide +kernel)) rfl (fun _ _ _ _ _ => rfl)
          (fun _ _ _ _ E _ _ h => pe_op (op_leftOwn (E := E) GS T.self1 hsS hfS T.subro bS (passes_call (takes_of rfl rfl rfl rfl) fun _ _ _ _ h => h) (h.mono (by decide))) (pv 7) (pv 6))) (pa_cons (pe_tup (pa_cons pe_str (pa_cons (pv 6) pa_nil))) pa_nil))))) (pss_one (ps_ret pe_bl)) pss_nil)
      (pss_one (ps_if (pt_not (pt_val (pe_callHG T.same hg hr1 (by rfl) (pa_cons (pe_lamcall1 (k := 4) (T := [(Pt, qL3)]) (t := tTX K C CG 7 6) (by rfl) mE FE.kp lkE hcE bE scEnd rfl (.inl rfl) (end_gives TN TM TBd TG T.ex) TB rfl (List.mem_singleton.mpr rfl) (fun p hp _ => by rw [List.mem_singleton.mp hp]; rfl) hr7 (lamS_by (sc := defScope sLaw) (by decide +kernel)) rfl (fun _ _ _ _ _ => rfl)
          (fun _ _ _ _ E _ _ h => pe_meth (E := E) (pv 7) TT.cl mT GT (h.mono (by decide)) bT .nil (passes_call (takes_of rfl rfl rfl rfl) fun _ _ _ _ h => h) (pa_cons (pv 6) pa_nil))) (pa_cons (pe_tup (pa_cons pe_str (pa_cons (pv 6) pa_nil))) pa_nil))))) (pss_one (ps_ret pe_bl)) pss_nil))))
    pA, ?_⟩
  intro D a S pn p r ns o2 o4 o5 o6 o8 o9 o10 H cx hpn n5 nd good hT k
  have e1 : cutV (ns.map V.str) none (some 1) = (ns.take 1).map V.str := by
    rw [show cutV (ns.map V.str) none (some 1) = (ns.map V.str).take 1 from cutV_take _ 1, List.map_take]
  obtain ⟨m, em, mfit, mlen, msum⟩ : ∃ m : Str, Txt.join (Str.ofString "") (ns.take 1) = m ∧ Fit m ∧ m.length ≤ 8 ∧ ((ns.take 1).map (·.length)).sum + (ns.take 1).length * (Str.ofString "").length ≤ 16777216 := by
    cases ns with
    | nil => exact ⟨_, join_none, fit_of (by decide), by decide, by decide⟩
    | cons n rest =>
      have g := good n List.mem_cons_self
      refine ⟨n, join_one n, g.fit, g.2.1, ?_⟩
      have := g.2.1
      show n.length + 0 + 1 * 0 ≤ 16777216
      omega
  refine ⟨by show 1 ≤ sizeLine; decide, fun l hl nl => fun d hd => ⟨⟨_, rfl⟩, _, rfl, _, rfl, pn, _, rfl, SqL.of ((same_new hd) _ _ ((same_new hl) _ _ hpn)), fun z hz => ?_⟩⟩
  have q1 := same_new (o := .lst [.str (Str.ofString "a")]) hl
  have q2 := same_new (o := .dK []) hd
  rw [e1]
  have q3 := same_new (o := .lst ((ns.take 1).map V.str)) hz
  refine ⟨_, z, ns.take 1, rfl, rfl, .inl (SqL.of upd_same), msum, _, _, rfl, rfl, ?_, by show 8 ≤ sizeLine; decide, fun L8 hL8 => ?_⟩
  · rw [em]
    show 1 + m.length ≤ sizeLine
    rw [sizeLine_eq]; omega
  rw [em]
  have q4 := same_new (o := .lst [.str (Str.ofString ""), .str (Str.ofString "Zz"), .non, .int 5, .ref l, .ref d, .bl true, .str (Str.ofString "-" ++ m)]) hL8
  have odd : ∀ x ∈ ([.str (Str.ofString ""), .str (Str.ofString "Zz"), .non, .int 5, .ref l, .ref d, .bl true, .str (Str.ofString "-" ++ m)] : List V), ∃ dx Ty, OddS ns (upd (upd (upd (upd H l (.lst [.str (Str.ofString "a")])) d (.dK [])) z (.lst ((ns.take 1).map V.str))) L8 (.lst [.str (Str.ofString ""), .str (Str.ofString "Zz"), .non, .int 5, .ref l, .ref d, .bl true, .str (Str.ofString "-" ++ m)])) x dx Ty := by
    intro x hx
    simp only [List.mem_cons, List.not_mem_nil, or_false] at hx
    rcases hx with rfl | rfl | rfl | rfl | rfl | rfl | rfl | rfl
    · exact ⟨_, _, .str (word_out good _ fun g => absurd g.1 (by decide)) (fit_of (by decide)) (by decide)⟩
    · exact ⟨_, _, .str (word_out good _ fun g => absurd (g.2.2 90 (by decide)).1 (by decide)) (fit_of (by decide)) (by decide)⟩
    · exact ⟨_, _, .non⟩
    · exact ⟨_, _, .five⟩
    · exact ⟨_, _, .lst (q4 _ _ (q3 _ _ (q2 _ _ upd_same))) nl⟩
    · exact ⟨_, _, .dct (q4 _ _ (q3 _ _ upd_same))⟩
    · exact ⟨_, _, .bl⟩
    · refine ⟨_, _, .str (neg_out (m := m) good) (Fit.neg mfit) ?_⟩
      show (neg m).length ≤ 20
      rw [neg_len]; omega
  have sm04 := ((q1.trans q2).trans q3).trans q4
  have hL8' : upd (upd (upd (upd H l (.lst [.str (Str.ofString "a")])) d (.dK [])) z (.lst ((ns.take 1).map V.str))) L8 (.lst [.str (Str.ofString ""), .str (Str.ofString "Zz"), .non, .int 5, .ref l, .ref d, .bl true, .str (Str.ofString "-" ++ m)]) L8 = some (.lst _) := upd_same
  generalize ([.str (Str.ofString ""), .str (Str.ofString "Zz"), .non, .int 5, .ref l, .ref d, .bl true, .str (Str.ofString "-" ++ m)] : List V) = items at *
  generalize upd (upd (upd (upd H l (.lst [.str (Str.ofString "a")])) d (.dK [])) z (.lst ((ns.take 1).map V.str))) L8 (.lst items) = H4 at *
  have cx4 := cx.same sm04
  have hT4 : Tabs [(Pt, qL3)] H4 := hT.ext sm04
  refine ⟨L8, rfl, ⟨_, SqL.of hL8'⟩, for_list (K := K) (a := L8) (xs := items) (fun i σ H5 => ∃ o6, σ = [some (.ref a), some (.ref S), o2, some (.ref pn), o4, o5, o6, some (.ref p), o8, o9, o10] ∧ ExtN H4 H5 ∧ Tabs [(Pt, qL3)] H5) ⟨_, rfl, ExtN.refl _, hT4⟩ (fun i σ H5 _ ⟨_, _, e5, _⟩ => SqL.of (e5 _ _ hL8' fun ps z => nomatch z)) ?_ ?_⟩
  · rintro i v σ H5 hv ⟨o6, rfl, e5, T5⟩
    obtain ⟨dx, Ty, od4⟩ := odd v (List.mem_of_getElem? hv)
    obtain ⟨dxi, pa, ppl, hp4, _, _, _⟩ := cx4.at_
    refine ⟨T5, fun H6 eN T6 => fun Kt hK => ?_⟩
    have e6 := e5.trans eN
    have od6 := od4.ext e6
    have cx6 := cx4.ext e6
    have hp6 := e6 _ _ hp4 fun ps z => nomatch z
    obtain ⟨ty6, tm6⟩ := od6.ty (K := K)
    refine ⟨_, rfl, _, rfl, ⟨Ty, ty6, T.right Ty tm6⟩, p, dxi, _, rfl, hp6, p, r, v, ns, _, rfl, cx6, od6.thing, od6.no, fun dd H7 hd7 sm7 => ⟨CG, "sign", "name", v, dd, .sign, rfl, rfl, hd7, fun t ht => ?_⟩⟩
    refine ⟨_, rfl, by show 2 ≤ sizeLine; decide, fun t2 ht2 => ?_⟩
    have s7 := same_new (o := .tup [.str (Str.ofString "sign"), v]) ht
    have s8 := same_new (o := .tup [.str (Str.ofString "sign"), v]) ht2
    have sm68 := (sm7.trans s7).trans s8
    have od8 := od6.ext (ExtN.same sm68)
    have few := Few.pair (w := Str.ofString "sign") (.str (fit_of (by decide)) (by decide)) od8.few
    refine ⟨.ref t, .ref t2, _, rfl, dq_pair (s8 _ _ upd_same) od8.dq, dq_pair upd_same od8.dq, few.sh, few.fits (by decide), Nat.le_trans few.dp (by decide), ⟨_, rfl, iteF ?_⟩⟩
    have T8 := T6.ext sm68
    have e8 := e6.trans (ExtN.same sm68)
    generalize upd (upd H7 t (.tup [.str (Str.ofString "sign"), v])) t2 (.tup [.str (Str.ofString "sign"), v]) = H8 at *
    refine ⟨T8, fun H9 eN9 T9 => fun Kt9 hK9 => ?_⟩
    have e9 := e8.trans eN9
    have od9 := od4.ext e9
    have cx9 := cx4.ext e9
    have hp9 := e9 _ _ hp4 fun ps z => nomatch z
    refine ⟨_, rfl, p, dxi, _, rfl, hp9, fl_no (by decide +kernel), _, rfl, p, r, v, ns, _, rfl, cx9, od9.thing, od9.no, fun dd Ha hda sma => ⟨CG, "sign", "name", v, dd, .sign, rfl, rfl, hda, fun t3 ht3 => ?_⟩⟩
    refine ⟨_, rfl, by show 2 ≤ sizeLine; decide, fun t4 ht4 => ?_⟩
    have sa := same_new (o := .tup [.str (Str.ofString "sign"), v]) ht3
    have sb := same_new (o := .tup [.str (Str.ofString "sign"), v]) ht4
    have smab := (sma.trans sa).trans sb
    have odb := od9.ext (ExtN.same smab)
    have fewb := Few.pair (w := Str.ofString "sign") (.str (fit_of (by decide)) (by decide)) odb.few
    refine ⟨.ref t3, .ref t4, _, rfl, dq_pair (sb _ _ upd_same) odb.dq, dq_pair upd_same odb.dq, fewb.sh, fewb.fits (by decide), Nat.le_trans fewb.dp (by decide), ⟨_, rfl, iteF ?_⟩⟩
    exact ⟨_, rfl, e9.trans (ExtN.same smab), T9.ext smab⟩
  · rintro σ H5 ⟨o6, rfl, e5, T5⟩
    refine kA D pn p r ns _ H5 rfl rfl (cx4.ext e5) (e5 _ _ (sm04 _ _ hpn) fun ps z => nomatch z) n5 nd good fun H6 s6 => ?_
    exact k _ H6 ⟨_, _, _, _, _, _, _, _, _, rfl⟩ (((ExtN.same sm04).trans e5).trans (ExtN.same s6)) (T5.ext s6)
end
end K6
namespace K6
open PySem PySem.Spec PyProof.Rows L2 LamX NdefX EV
def tFX (K : PySem.W.Frag) (C CB : Addr) (i j : Nat) (E : XK) : TE := tMeth C "forced" (spForcedX K C CB) [] E (tVar i) (tCons (tVar j) tNil)
theorem ItemAt.ext {H H' : Hp} {v : V} {io : Option (List V)} (i : ItemAt H v io) (e : ExtN H H') : ItemAt H' v io := by
  have th : ∀ {x : V}, Thing H x → Thing H' x := fun {x} t => t.frame fun a ea => by
    subst ea
    cases t with
    | tup h f l => rw [h, e _ _ h fun ps z => nomatch z]
    | lst h f l => rw [h, e _ _ h fun ps z => nomatch z]
    | dct h => rw [h, e _ _ h fun ps z => nomatch z]
  cases i with
  | lst h t few => exact .lst (e _ _ h fun ps z => nomatch z) (fun x hx => th (t x hx)) few
  | tup h t few => exact .tup (e _ _ h fun ps z => nomatch z) (fun x hx => th (t x hx)) few
  | non => exact .non
  | five => exact .five
  | bl b => exact .bl b
  | str => exact .str
  | dct h => exact .dct (e _ _ h fun ps z => nomatch z)
theorem CutI.lt {ns : List Str} {io : Option (List V)} {i : Nat} (c : CutI ns io (some i)) (few : ∀ xs, io = some xs → xs.length ≤ 20) : i < 61 := by
  cases io with
  | none =>
    have e : some i = some 0 := c
    rw [Option.some.inj e]
    decide
  | some xs =>
    have c : Cut ns (some i) xs := c
    obtain ⟨qs, tail, hq, rfl, h1, h2⟩ := c.split
    cases tail with
    | nil => cases h1 rfl
    | cons x r =>
      have e := Option.some.inj (h2 x r rfl).1
      have z := few _ rfl
      rw [List.length_append, List.length_map, List.length_map, List.length_cons] at z
      omega
theorem ItemAt.few {H : Hp} {v : V} {io : Option (List V)} (i : ItemAt H v io) : ∀ xs, io = some xs → xs.length ≤ 20 := by
  cases i with
  | lst h t few => exact fun xs e => by rw [← Option.some.inj e]; exact few
  | tup h t few => exact fun xs e => by rw [← Option.some.inj e]; exact few
  | _ => exact fun xs e => nomatch e
section
variable {P : Program} {w : World} {K : PySem.W.Frag} {mg : Str → Option Value} {base : Heap} {C CN CM CB CG cO Pt : Addr}
variable {f : Addr} {A : Around} {outer : List Env} {s0 : Shared} {HH : Hp} {E : XK}
theorem segC (T : LW3 P w K mg base C CN CM CB CG) (TB : TabB base mg cO Pt) (hg : (XL3 P w K mg base f (.ref cO) A outer s0 HH E).A.guards = some []) (hr : Room 9 (XL3 P w K mg base f (.ref cO) A outer s0 HH E).A) :
    ∃ tt, PSs (XL3 P w K mg base f (.ref cO) A outer s0 HH E) (turn3.drop 7) tt ∧ ∀ (D : Ends) (a S pn p r : Addr) (ns : List Str) (v : V) (io : Option (List V)) (o2 o4 o5 o6 o9 o10 : Option V) (H : Hp), RuleR K C H p ns (pickS 2 (fulls ns)) r → H pn = some (.lst (ns.map V.str)) → ns.length ≤ 5 → ns.Nodup → (∀ z ∈ ns, Name1 z) → ItemAt H v io → Tabs [(Pt, qL3)] H →
      (∀ σ' H', SigT3 a S σ' → ExtN H H' → Tabs [(Pt, qL3)] H' → D.nx σ' H') → tt D [some (.ref a), some (.ref S), o2, some (.ref pn), o4, o5, o6, some (.ref p), some v, o9, o10] H := by
  obtain ⟨ttA, pA, kA⟩ := segB (f := f) (A := A) (outer := outer) (s0 := s0) (HH := HH) (E := E) T TB hg hr
  obtain ⟨g, fd, FE, mE, bE⟩ := T.end_
  obtain ⟨oc, od, kV, doc, pm, an, cdR, ct, osl, rfl, lkE, hcE⟩ := FE.ex
  obtain ⟨xN, TN⟩ := T.tn
  obtain ⟨xM, TM⟩ := T.tm
  obtain ⟨xB, TBd⟩ := T.tb
  obtain ⟨xG, TG⟩ := T.tg
  obtain ⟨fF, fdF, GF, mF, bF⟩ := T.forced
  have TT := T.T
  have hr1 : Room 1 _ := hr.mono (by decide)
  have hr2 : Room 2 _ := hr.mono (by decide)
  have hr7 : Room 7 _ := hr.mono (by decide)
  refine ⟨_, pss_cons (ps_set (i := 9) scLaw3.nd rfl (.inl rfl) (pe_callH T.firstOdd hr2 (by rfl) (pa_cons (pv 8) (pa_cons (pv 3) pa_nil))))
    (pss_cons (ps_if (PW.pt (pw_and (pt_cmpR op_notN (pv 9) pe_non rfl) (pw_and1 (pt_not (pt_val (pe_callHG T.same hg hr1 (by rfl) (pa_cons (pe_lamcall1 (k := 4) (T := [(Pt, qL3)]) (t := tFX K C CB 7 8) (by rfl) mE FE.kp lkE hcE bE scEnd rfl (.inl rfl) (end_gives TN TM TBd TG T.ex) TB rfl (List.mem_singleton.mpr rfl) (fun p hp _ => by rw [List.mem_singleton.mp hp]; rfl) hr7 (lamS_by (sc := defScope sLaw) (by decide +kernel)) rfl (fun _ _ _ _ _ => rfl)
          (fun _ _ _ _ E _ _ h => pe_meth (E := E) (pv 7) TT.cl mF GF (h.mono (by decide)) bF .nil (passes_call (takes_of rfl rfl rfl rfl) fun _ _ _ _ h => h) (pa_cons (pv 8) pa_nil))) (pa_cons (pe_tup (pa_cons pe_str (pa_cons (pv 9) pa_nil))) pa_nil)))))))) (pss_one (ps_ret pe_bl)) pss_nil)
    pA), ?_⟩
  intro D a S pn p r ns v io o2 o4 o5 o6 o9 o10 H cx hpn n5 nd good item hT k
  obtain ⟨oc', cut⟩ := cutI ns io
  refine ⟨_, rfl, _, rfl, v, pn, ns, io, oc', rfl, (fun H' s' => SqL.of (s' _ _ hpn)), by omega, good, item, cut, fun H1 sm1 => ?_⟩
  cases oc' with
  | none =>
    refine ⟨_, rfl, rfl, _, rfl, ?_⟩
    rw [show (!decide (oV none = V.non)) = false from by rw [decide_eq_true (show oV none = V.non from rfl)]; rfl]
    exact iteF (iteF (kA D a S pn p r ns _ _ _ _ _ _ _ H1 (cx.same sm1) (sm1 _ _ hpn) n5 nd good (hT.ext sm1) fun σ' H' h1 h2 h3 => k σ' H' h1 ((ExtN.same sm1).trans h2) h3))
  | some i =>
    refine ⟨_, rfl, rfl, _, rfl, ?_⟩
    rw [show (!decide (oV (some i) = V.non)) = true from by rw [decide_eq_false (fun e => nomatch e)]; rfl]
    have i61 := cut.lt item.few
    refine iteT ⟨hT.ext sm1, fun H6 eN T6 => fun Kt hK => ?_⟩
    have e6 := (ExtN.same sm1).trans eN
    have cx6 := cx.ext e6
    obtain ⟨dxi, pa, ppl, hp6, _, _, _⟩ := cx6.at_
    refine ⟨_, rfl, p, dxi, _, rfl, hp6, fl_no (by decide +kernel), _, rfl, p, r, v, ns, _, io, i, rfl, cx6, by omega, nd, good, item.ext e6, cut, fun dd H7 hd7 sm7 => ⟨CB, "setting", "index", .int (i : Nat), dd, .setting, rfl, rfl, hd7, fun t ht => ?_⟩⟩
    refine ⟨_, rfl, by show 2 ≤ sizeLine; decide, fun t2 ht2 => ?_⟩
    have s7 := same_new (o := .tup [.str (Str.ofString "setting"), .int (i : Nat)]) ht
    have s8 := same_new (o := .tup [.str (Str.ofString "setting"), .int (i : Nat)]) ht2
    have sm68 := (sm7.trans s7).trans s8
    have few := Few.pair (w := Str.ofString "setting") (.str (fit_of (by decide)) (by decide)) (Few.int i61)
    refine ⟨.ref t, .ref t2, _, rfl, dq_pair (s8 _ _ upd_same) (.int _), dq_pair upd_same (.int _), few.sh, few.fits (by decide), Nat.le_trans few.dp (by decide), ⟨_, rfl, iteF ?_⟩⟩
    have e8 := e6.trans (ExtN.same sm68)
    exact kA D a S pn p r ns _ _ _ _ _ _ _ _ (cx.ext e8) (e8 _ _ hpn fun ps z => nomatch z) n5 nd good (T6.ext sm68) fun σ' H' h1 h2 h3 => k σ' H' h1 (e8.trans h2) h3
end
end K6
namespace K6
open PySem PySem.Spec PyProof.Rows L2 LamX NdefX EV
theorem StreamAt.ext {H H' : Hp} {S L : Addr} {c : Nat} (h : StreamAt H S L c) (e : ExtN H H') : StreamAt H' S L c := by
  obtain ⟨ns, a, m, h1, h2, r⟩ := h
  exact ⟨ns, a, m, e _ _ h1 (fun ps z => nomatch z), e _ _ h2 (fun ps z => nomatch z), r⟩
theorem tabs_kept {T : List (Addr × Str)} {H H' : Hp} {S L : Addr} {c : Nat} (t : Tabs T H) (hs : StreamAt H S L c) (k : Kept S L H H') : Tabs T H' := fun q hq => by
  obtain ⟨⟨_, g1⟩, ⟨_, g2⟩⟩ := hs.two
  obtain ⟨ps, h1, h2, h3⟩ := t q hq
  refine ⟨ps, k _ _ h1 (ne_of h1 g1 fun z => nomatch z) (ne_of h1 g2 fun z => nomatch z), h2, fun pos cv hc => ?_⟩
  obtain ⟨x, e1, e2⟩ := h3 pos cv hc
  have nl : ∀ xs, CodeO x q.2 ≠ .lst xs := fun xs z => by
    unfold CodeO at z
    cases z
  exact ⟨x, e1, k _ _ e2 (ne_of e2 g1 (nl _)) (ne_of e2 g2 (nl _))⟩
section
variable {P : Program} {w : World} {K : PySem.W.Frag} {mg : Str → Option Value} {base : Heap} {C CN CM CB CG cO Pt : Addr}
variable {f : Addr} {A : Around} {outer : List Env} {s0 : Shared} {HH : Hp} {E : XK}
theorem segD (T : LW3 P w K mg base C CN CM CB CG) (TB : TabB base mg cO Pt) (hg : (XL3 P w K mg base f (.ref cO) A outer s0 HH E).A.guards = some []) (hr : Room 9 (XL3 P w K mg base f (.ref cO) A outer s0 HH E).A) :
    ∃ tt, PSs (XL3 P w K mg base f (.ref cO) A outer s0 HH E) (turn3.drop 5) tt ∧ ∀ (D : Ends) (a S Ls pn : Addr) (nn : List Str) (o2 o4 o5 o6 o7 o8 o9 o10 : Option V) (H : Hp) (c : Nat), H pn = some (.lst (nn.map V.str)) → nn.length ≤ 8 → nn.Nodup → (∀ z ∈ nn, Name1 z) → StreamAt H S Ls c → c ≤ 70000 → Tabs [(Pt, qL3)] H →
      (∀ σ' H' c', SigT3 a S σ' → StreamAt H' S Ls c' → c' ≤ c + 200 → Tabs [(Pt, qL3)] H' → D.nx σ' H') → tt D [some (.ref a), some (.ref S), o2, some (.ref pn), o4, o5, o6, o7, o8, o9, o10] H := by
  obtain ⟨ttA, pA, kA⟩ := segC (f := f) (A := A) (outer := outer) (s0 := s0) (HH := HH) (E := E) T TB hg hr
  obtain ⟨fI, fdI, M, GI, _, bI⟩ := T.make
  have TT := T.T
  have hr1 : Room 1 _ := hr.mono (by decide)
  have hr3 : Room 3 _ := hr.mono (by decide)
  have hr4 : Room 4 _ := hr.mono (by decide)
  have hr6 : Room 6 _ := hr.mono (by decide)
  refine ⟨_, pss_cons (ps_set (i := 3) scLaw3.nd rfl (.inr rfl) (pe_slice sl_list (pv 3) po_none (po_some pe_int)))
    (pss_cons (ps_asg (pe_tup (pa_cons (pe_make M GI hr6 (by rfl) TT.mgC bI .nil pass0 (pa_cons (pv 3) (pa_cons (pe_stepS (n := 2) (by decide) (pe_callH T.fulls hr1 (by rfl) (pa_cons (pv 3) pa_nil))) pa_nil)))
        (pa_cons (pe_callH T.spoiled hr4 (by rfl) (pa_cons (pv 1) (pa_cons (pe_callH T.half hr3 (by rfl) (pa_cons (pv 1) (pa_cons (pv 3) pa_nil))) (pa_cons (pv 3) pa_nil)))) pa_nil)))
        (pg_tup (by rfl) (pgs_cons (pg_name (i := 7) scLaw3.nd rfl (.inr rfl)) (pgs_cons (pg_name (i := 8) scLaw3.nd rfl (.inr rfl)) pgs_nil))))
    pA), ?_⟩
  intro D a S Ls pn nn o2 o4 o5 o6 o7 o8 o9 o10 H c hpn n8 nd good hS hc hT k
  have e5 : cutV (nn.map V.str) none (some 5) = (nn.take 5).map V.str := by
    rw [show cutV (nn.map V.str) none (some 5) = (nn.map V.str).take 5 from cutV_take _ 5, List.map_take]
  refine ⟨_, rfl, _, rfl, pn, _, rfl, SqL.of hpn, fun p5 hp5 => ?_⟩
  rw [e5]
  have s1 : Same H _ := same_new (o := .lst ((nn.take 5).map V.str)) hp5
  have hp51 : upd H p5 (.lst ((nn.take 5).map V.str)) p5 = some (.lst ((nn.take 5).map V.str)) := upd_same
  have n5 : (nn.take 5).length ≤ 5 := by rw [List.length_take]; omega
  have nd5 : (nn.take 5).Nodup := nd.sublist (List.take_sublist _ _)
  have good5 : ∀ z ∈ nn.take 5, Name1 z := fun z hz => good z (List.mem_of_mem_take hz)
  have hS1 := hS.same s1
  have hT1 := hT.ext s1
  generalize nn.take 5 = ns at *
  generalize upd H p5 (.lst (ns.map V.str)) = H1 at *
  refine ⟨_, rfl, _, rfl, p5, ns, rfl, (fun H' s' => SqL.of (s' _ _ hp51)), by omega, (fun z hz => (good5 z hz).2.1), fun pf us H2 hpf0 hpf rows sm2 => ?_⟩
  have f64 := fulls_few (ns := ns) (by omega)
  have sub := evens_sub (ns := ns) n5
  have lp := sub.length_le
  have lu : (pickS 2 (us.map V.ref)).length ≤ sizeLine := by
    rw [pick_map, List.length_map]
    have z : (pickS 2 us).length = (pickS 2 (fulls ns)).length := Paired.length (rows_pick rows)
    rw [z, sizeLine_eq]
    omega
  refine ⟨pf, _, rfl, SqL.of hpf, lu, fun m hm => ?_⟩
  rw [pick_map]
  have s3 := same_new (o := .lst ((pickS 2 us).map V.ref)) hm
  have rows3 := (rows_pick (k := 2) rows).same s3
  have full : ∀ q ∈ pickS 2 (fulls ns), FullOf ns q := fun q hq => full_of nd5 (sub.subset hq)
  obtain ⟨qss, u1, u2, u3⟩ := handed_full (K := K) rows3 full
  have lq : qss.length ≤ 64 := by
    have z := congrArg List.length u2
    rw [List.length_map] at z
    omega
  have hm3 : upd H2 m (.lst ((pickS 2 us).map V.ref)) m = some (.lst ((pickS 2 us).map V.ref)) := upd_same
  have sm13 := sm2.trans s3
  generalize upd H2 m (.lst ((pickS 2 us).map V.ref)) = H3 at *
  intro y dy hy hdy _
  refine make_rule (b1 := true) (b2 := true) hy hdy (SqL.of (sm13 _ _ hp51)) (SqL.of hm3) (by omega) nd5 good5 u1 u3 (by omega) fun r H4 sm4 cx fr => ⟨rfl, ?_⟩
  rw [rowsOf_fulls nd5 good5 u2 (fun q hq => sub.subset hq), allow_sub sub] at cx
  have sm14 := sm13.trans sm4
  have hS4 := hS1.same sm14
  have hp54 := sm14 _ _ hp51
  have off5 := hS.off hp5
  refine ⟨_, rfl, _, rfl, _, rfl, S, Ls, p5, ns, c, rfl, SqL.of hp54, (fun H' kk => SqL.of (kk _ _ hp54 off5.1 off5.2)), by omega, nd5, good5, by omega, hS4, fun qs q c5 H5 hl hq0 hq5 hc5 hS5 hk5 => ?_⟩
  have offq := hS4.off hq0
  have hp55 := hk5 _ _ hp54 off5.1 off5.2
  have lqs := hl.few
  refine ⟨_, rfl, S, Ls, q, p5, qs, ns, c5, rfl, SqL.of hq5, SqL.of hp55, (fun H' kk => SqL.of (kk _ _ hp55 off5.1 off5.2)), by omega, good5, (fun z hz => good5 _ (hl.sub z hz)), by omega, by omega, hS5, fun v io c6 H6 item nv hc6 hS6 hk6 => ?_⟩
  have cx6 := (cx.kept hS4.two hk5).kept hS5.two hk6
  have hp56 := hk6 _ _ hp55 off5.1 off5.2
  have hT6 := tabs_kept (tabs_kept (hT1.ext sm14) hS4 hk5) hS5 hk6
  refine ⟨by show 2 ≤ sizeLine; decide, fun t ht => ⟨t, _, rfl, SqT.of upd_same, rfl, _, _, rfl, _, _, rfl, rfl, ?_⟩⟩
  have st := same_new (o := .tup [.ref y, v]) ht
  exact kA D a S p5 y r ns v io _ _ _ _ _ _ _ (cx6.same st) (st _ _ hp56) n5 nd5 good5 (item.same st) (hT6.ext st) fun σ' H' h1 h2 h3 => k σ' H' c6 h1 ((hS6.same st).ext h2) (by omega) h3
end
end K6
namespace K6
open PySem PySem.Spec PyProof.Rows L2 LamX NdefX EV
theorem end_call {CN CM CB CG : Addr} {tl : XK → Hp → VK → Prop} {H : Hp} {Q : VK} {w : Str} {x : V} (cont : ∀ Hx, Same H Hx → Pair2 w x Hx Q) (go : ∀ Kt : VK, (∀ v H', Pair2 "told" v H' Q → Kt v H') → (∀ Hx, Same H Hx → Pair2 w x Hx Q) → tl (endX CN CM CB CG Q) H Kt) : TEnd CN CM CB CG tl H Q := fun Kt hK => go Kt hK cont
theorem handed_items {K : PySem.W.Frag} {H : Hp} {ns : List Str} : ∀ {its : List V} {ios : List (Option (List V))}, Paired (ItemAt H) its ios → (∀ io ∈ ios, GoodI ns io) → ∃ qss, Paired (Handed K H ns) its qss ∧ ∀ qs ∈ qss, qs.length = ns.length
  | [], [], _, _ => ⟨[], .nil, fun _ h => nomatch h⟩
  | v :: its, io :: ios, .cons h tl, g => by
    obtain ⟨qs, rfl, hq, lq⟩ := g _ List.mem_cons_self
    obtain ⟨qss, h1, h2⟩ := handed_items (K := K) tl fun x hx => g x (List.mem_cons_of_mem _ hx)
    obtain ⟨Aa, b, rfl, hA, _, _⟩ := h.seq (K := K)
    refine ⟨qs :: qss, .cons ⟨hq, b, Aa, rfl, hA H (Same.refl H)⟩ h1, fun x hx => ?_⟩
    rcases List.mem_cons.mp hx with rfl | hx
    · exact lq
    · exact h2 x hx
theorem items_same {H H' : Hp} (sm : Same H H') {its : List V} {ios : List (Option (List V))} (h : Paired (ItemAt H) its ios) : Paired (ItemAt H') its ios := by
  induction h with
  | nil => exact .nil
  | cons a _ ih => exact .cons (a.same sm) ih
theorem items_ext {H H' : Hp} (e : ExtN H H') {its : List V} {ios : List (Option (List V))} (h : Paired (ItemAt H) its ios) : Paired (ItemAt H') its ios := by
  induction h with
  | nil => exact .nil
  | cons a _ ih => exact .cons (a.ext e) ih
theorem Thing.ext {H H' : Hp} {x : V} (t : Thing H x) (e : ExtN H H') : Thing H' x := t.frame fun a ea => by
  subst ea
  cases t with
  | tup h f l => rw [h, e _ _ h fun ps z => nomatch z]
  | lst h f l => rw [h, e _ _ h fun ps z => nomatch z]
  | dct h => rw [h, e _ _ h fun ps z => nomatch z]
theorem spInit_E0 {K : PySem.W.Frag} {C : Addr} {vs : List V} {H : Hp} {Q : VK} {E E' : XK} (h : spInit K C vs H Q E) : spInit K C vs H Q E' := h
def tRX (K : PySem.W.Frag) (C CN CM CB : Addr) (E : XK) : TE := tCB (rIsi K) (tCons (tMake C (spAll K C CN CM CB) [] E (tCons (tVar 5) (tCons (tVar 4) tNil))) (tCons (tC (.ref C)) tNil))
section
variable {P : Program} {w : World} {K : PySem.W.Frag} {mg : Str → Option Value} {base : Heap} {C CN CM CB CG cO Pt : Addr}
variable {f : Addr} {A : Around} {outer : List Env} {s0 : Shared} {HH : Hp} {E : XK}
theorem segE (T : LW3 P w K mg base C CN CM CB CG) (TB : TabB base mg cO Pt) (hg : (XL3 P w K mg base f (.ref cO) A outer s0 HH E).A.guards = some []) (hr : Room 9 (XL3 P w K mg base f (.ref cO) A outer s0 HH E).A) :
    ∃ tt, PSs (XL3 P w K mg base f (.ref cO) A outer s0 HH E) (turn3.drop 4) tt ∧ ∀ (D : Ends) (a S Ls pn S0 T0 : Addr) (nn : List Str) (xs its : List V) (ios : List (Option (List V))) (o2 o6 o7 o8 o9 o10 : Option V) (H : Hp) (c : Nat), H pn = some (.lst (nn.map V.str)) → nn.length ≤ 8 → nn.Nodup → (∀ z ∈ nn, Name1 z) →
      H S0 = some (.lst xs) → (∀ x ∈ xs, Thing H x) → xs.length ≤ 60 → H T0 = some (.lst its) → Paired (ItemAt H) its ios → its.length ≤ 60 → StreamAt H S Ls c → c ≤ 70000 → Tabs [(Pt, qL3)] H →
      (∀ σ' H' c', SigT3 a S σ' → StreamAt H' S Ls c' → c' ≤ c + 200 → Tabs [(Pt, qL3)] H' → D.nx σ' H') → tt D [some (.ref a), some (.ref S), o2, some (.ref pn), some (.ref T0), some (.ref S0), o6, o7, o8, o9, o10] H := by
  obtain ⟨ttA, pA, kA⟩ := segD (f := f) (A := A) (outer := outer) (s0 := s0) (HH := HH) (E := E) T TB hg hr
  obtain ⟨g, fd, FE, mE, bE⟩ := T.end_
  obtain ⟨oc, od, kV, doc, pm, an, cdR, ct, osl, rfl, lkE, hcE⟩ := FE.ex
  obtain ⟨xN, TN⟩ := T.tn
  obtain ⟨xM, TM⟩ := T.tm
  obtain ⟨xB, TBd⟩ := T.tb
  obtain ⟨xG, TG⟩ := T.tg
  obtain ⟨fI, fdI, M, _, GX, bI⟩ := T.make
  have TT := T.T
  have hr1 : Room 1 _ := hr.mono (by decide)
  have hr3 : Room 3 _ := hr.mono (by decide)
  have hr8 : Room 8 _ := hr.mono (by decide)
  refine ⟨_, pss_cons (ps_if (pt_not (pt_val (pe_callHG T.same hg hr1 (by rfl) (pa_cons (pe_lamcall1 (k := 5) (T := [(Pt, qL3)]) (t := tRX K C CN CM CB) (by rfl) mE FE.kp lkE hcE bE scEnd rfl (.inl rfl) (end_gives TN TM TBd TG T.ex) TB rfl (List.mem_singleton.mpr rfl) (fun p hp _ => by rw [List.mem_singleton.mp hp]; rfl) hr8 (lamS_by (sc := defScope sLaw) (by decide +kernel)) rfl (fun _ _ _ _ _ => rfl)
          (fun _ _ _ _ E _ _ h => pe_callB call_isi (by rfl) T.isi (by decide +kernel) (pa_cons (pe_make (E := E) M GX h (by rfl) TT.mgC bI .nil (passes_call (takes_of rfl rfl rfl rfl) fun _ _ _ _ h => h) (pa_cons (pv 5) (pa_cons (pv 4) pa_nil))) (pa_cons (pe_glob (v := .ref C) (by rfl) TT.mgC rfl) pa_nil)))) (pa_cons (pe_callH T.due hr3 (by rfl) (pa_cons (pv 5) (pa_cons (pv 4) pa_nil))) pa_nil))))) (pss_one (ps_ret pe_bl)) pss_nil)
    pA, ?_⟩
  intro D a S Ls pn S0 T0 nn xs its ios o2 o6 o7 o8 o9 o10 H c hpn n8 nd good hS0 th x60 hT0 items i60 hS hc hT k
  obtain ⟨ww, x, due⟩ := due_ex xs ios
  have li : its.length = ios.length := Paired.length items
  refine ⟨hT, fun H6 e6 T6 => end_call (w := ww) (x := x) (fun Hx sx => fun t ht => ?cont) (fun Kt hK cont => ?go)⟩
  case cont =>
    have st := same_new (o := .tup [.str ww, x]) ht
    have e7 := (e6.trans (ExtN.same sx)).trans (ExtN.same st)
    have T7 := (T6.ext sx).ext st
    have ht7 : upd Hx t (.tup [.str ww, x]) t = some (.tup [.str ww, x]) := upd_same
    generalize upd Hx t (.tup [.str ww, x]) = H7 at *
    refine ⟨_, rfl, _, rfl, S0, T0, xs, its, ios, ww, x, rfl, e7 _ _ hS0 (fun ps z => nomatch z), e7 _ _ hT0 (fun ps z => nomatch z), (fun y hy => (th y hy).ext e7), items_ext e7 items, x60, i60, due, fun H8 sm8 => fun t2 ht2 => ?_⟩
    have s9 := same_new (o := .tup [.str ww, x]) ht2
    obtain ⟨dx, f1, f2, dq⟩ := due.few (K := K) (H := upd H8 t2 (.tup [.str ww, x])) x60 (by omega)
    have few := Few.pair f1 f2
    refine ⟨.ref t, .ref t2, _, rfl, dq_pair (s9 _ _ (sm8 _ _ ht7)) dq, dq_pair upd_same dq, few.sh, few.fits (by decide), Nat.le_trans few.dp (by decide), ⟨_, rfl, iteF ?_⟩⟩
    have e9 := e7.trans (ExtN.same (sm8.trans s9))
    exact kA D a S Ls pn nn _ _ _ _ _ _ _ _ _ c (e9 _ _ hpn fun ps z => nomatch z) n8 nd good (hS.ext e9) hc ((T7.ext sm8).ext s9) k
  case go =>
    have hS06 := e6 _ _ hS0 fun ps z => nomatch z
    have hT06 := e6 _ _ hT0 fun ps z => nomatch z
    have th6 : ∀ y ∈ xs, Thing H6 y := fun y hy => (th y hy).ext e6
    have items6 := items_ext e6 items
    refine ⟨_, rfl, _, rfl, fun y dy hy hdy _ => ?_⟩
    have sm : Same H6 (upd (upd H6 dy (.own y)) y (.ins C dy [])) := fun b o e => (upd_ne (ne_of_none e hy)).trans ((upd_ne (ne_of_none e hdy)).trans e)
    have hyy : upd (upd H6 dy (.own y)) y (.ins C dy []) y = some (.ins C dy []) := upd_same
    cases due with
    | @names _ _ i cut =>
      refine .inr (.inl ⟨y, dy, S0, T0, xs, i, rfl, hyy, sm _ _ hS06, (fun z hz => (th6 z hz).same sm), cut, x60, fun d H7 hd s7 => ?_⟩)
      exact ⟨CN, _, _, _, d, .names, rfl, rfl, hd, cont H7 (sm.trans s7)⟩
    | @many ns _ nd' good' n6 =>
      refine .inr (.inr (.inl ⟨y, dy, S0, T0, ns, rfl, hyy, sm _ _ hS06, nd', good', n6, by rw [List.length_map] at x60; exact x60, fun d H7 hd s7 => ?_⟩))
      exact ⟨CM, _, _, _, d, .many, rfl, rfl, hd, cont H7 (sm.trans s7)⟩
    | @setting ns _ i0 nd' good' n6 before bad =>
      refine .inr (.inr (.inr ⟨y, dy, S0, T0, ns, its, ios, i0, rfl, hyy, sm _ _ hS06, sm _ _ hT06, nd', good', n6, items_same sm items6, before, bad, fun d H7 hd s7 => ?_⟩))
      exact ⟨CB, _, _, _, d, .setting, rfl, rfl, hd, cont H7 (sm.trans s7)⟩
    | @told ns _ nd' good' n6 all =>
      obtain ⟨qss, u1, u2⟩ := handed_items (K := K) items6 all
      have lq : its.length = qss.length := Paired.length u1
      refine .inl (spInit_E0 (make_rule (b1 := true) (b2 := true) hy hdy (SqL.of hS06) (SqL.of hT06) n6 nd' good' u1 u2 (by omega) fun r H7 s7 cx fr => ⟨rfl, ?_⟩))
      obtain ⟨dx, pa, ppl, hp, _, _, _⟩ := cx.at_
      exact ⟨.ref y, .ref C, .ref C, .ref C, true, rfl, .own C, .base (.ins hp TT.cl T.CI.cl T.CI.gt T.CI.tk T.CI.ob), T.kit, hK _ _ (cont H7 s7)⟩
end
end K6
namespace K6
open PySem PySem.Spec PyProof.Rows L2 LamX NdefX EV
/-! ### items whose addresses were free at HD -/
def ItN (HD H : Hp) (v : V) (io : Option (List V)) : Prop := ItemAt H v io ∧ NewI HD v io
theorem itN_step {HD H H' : Hp} (k : ∀ b o, HD b = none → H b = some o → H' b = some o) {its : List V} {ios : List (Option (List V))} (h : Paired (ItN HD H) its ios) : Paired (ItN HD H') its ios := by
  have th : ∀ {x : V}, Thing H x → New HD x → Thing H' x := fun {x} t n => t.frame fun a e => by
    have hn := n a e
    subst e
    obtain ⟨o, ho⟩ := t.at_
    rw [ho, k a o hn ho]
  induction h with
  | nil => exact .nil
  | cons a _ ih =>
    refine .cons ⟨a.1.frame (fun b e => ?_) fun xs e x hx t => th t (a.2.2 xs e x hx), a.2⟩ ih
    have hn := a.2.1 b e
    have i := a.1
    subst e
    obtain ⟨o, ho⟩ := i.at_
    rw [ho, k b o hn ho]
theorem itN_items {HD H : Hp} {its : List V} {ios : List (Option (List V))} (h : Paired (ItN HD H) its ios) : Paired (ItemAt H) its ios := by
  induction h with
  | nil => exact .nil
  | cons a _ ih => exact .cons a.1 ih
theorem itN_more {HD H : Hp} {l : Addr} {o : HO} (hl : H l = none) {its : List V} {ios : List (Option (List V))} (h : Paired (ItN HD H) its ios) : Paired (ItN (upd HD l o) H) its ios := by
  have nn : ∀ {x : V}, (∀ a, x = .ref a → ∃ u, H a = some u) → New HD x → New (upd HD l o) x := fun {x} ex n a e => by
    obtain ⟨u, hu⟩ := ex a e
    exact (upd_ne fun q => by rw [q, hl] at hu; cases hu).trans (n a e)
  induction h with
  | nil => exact .nil
  | @cons v io _ _ a _ ih =>
    refine .cons ⟨a.1, nn (fun x e => (e ▸ a.1 : ItemAt H (.ref x) io).at_) a.2.1, fun xs e x hx => nn (fun z ez => ?_) (a.2.2 xs e x hx)⟩ ih
    have i := a.1
    subst ez
    cases i with
    | lst h t few => exact (t _ (by rw [Option.some.inj e]; exact hx)).at_
    | tup h t few => exact (t _ (by rw [Option.some.inj e]; exact hx)).at_
    | _ => cases e
theorem tabs_put {T : List (Addr × Str)} {H : Hp} {l : Addr} {xs : List V} {o : HO} (t : Tabs T H) (hl : H l = some (.lst xs)) : Tabs T (upd H l o) := fun q hq => by
  obtain ⟨ps, h1, h2, h3⟩ := t q hq
  refine ⟨ps, (upd_ne (ne_of h1 hl fun z => nomatch z)).trans h1, h2, fun pos cv hc => ?_⟩
  obtain ⟨x, e1, e2⟩ := h3 pos cv hc
  have nl : CodeO x q.2 ≠ .lst xs := fun z => by
    unfold CodeO at z
    cases z
  exact ⟨x, e1, (upd_ne (ne_of e2 hl nl)).trans e2⟩
theorem itN_snoc {HD H : Hp} {its : List V} {ios : List (Option (List V))} {v : V} {io : Option (List V)} (h : Paired (ItN HD H) its ios) (a : ItN HD H v io) : Paired (ItN HD H) (its ++ [v]) (ios ++ [io]) := paired_app h (.cons a .nil)
section
variable {P : Program} {w : World} {K : PySem.W.Frag} {mg : Str → Option Value} {base : Heap} {C CN CM CB CG cO Pt : Addr}
variable {f : Addr} {A : Around} {outer : List Env} {s0 : Shared} {HH : Hp} {E : XK}
theorem segF (T : LW3 P w K mg base C CN CM CB CG) (TB : TabB base mg cO Pt) (hg : (XL3 P w K mg base f (.ref cO) A outer s0 HH E).A.guards = some []) (hr : Room 9 (XL3 P w K mg base f (.ref cO) A outer s0 HH E).A) :
    ∃ tt, PSs (XL3 P w K mg base f (.ref cO) A outer s0 HH E) (turn3.drop 2) tt ∧ ∀ (D : Ends) (a S Ls pn T0 : Addr) (nn : List Str) (its : List V) (ios : List (Option (List V))) (o2 o5 o6 o7 o8 o9 o10 : Option V) (H HD : Hp) (c : Nat), H pn = some (.lst (nn.map V.str)) → nn.length ≤ 8 → nn.Nodup → (∀ z ∈ nn, Name1 z) →
      H T0 = some (.lst its) → Paired (ItN HD H) its ios → its.length ≤ 60 → HD S ≠ none → HD Ls ≠ none → StreamAt H S Ls c → T0 ≠ S ∧ T0 ≠ Ls → pn ≠ S ∧ pn ≠ Ls → c ≤ 69000 → Tabs [(Pt, qL3)] H →
      (∀ σ' H' c', SigT3 a S σ' → StreamAt H' S Ls c' → c' ≤ c + 210 → Tabs [(Pt, qL3)] H' → D.nx σ' H') → tt D [some (.ref a), some (.ref S), o2, some (.ref pn), some (.ref T0), o5, o6, o7, o8, o9, o10] H := by
  obtain ⟨ttA, pA, kA⟩ := segE (f := f) (A := A) (outer := outer) (s0 := s0) (HH := HH) (E := E) T TB hg hr
  have TT := T.T
  have hr1 : Room 1 _ := hr.mono (by decide)
  have hr2 : Room 2 _ := hr.mono (by decide)
  refine ⟨_, pss_cons (ps_set (i := 5) scLaw3.nd rfl (.inr rfl) (pe_callTy call_list_of (by rfl) TT.list (by decide +kernel) (pa_cons (pv 3) pa_nil)))
    (pss_cons (ps_if (pt_cmpR op_eq (pe_callH T.draw hr1 (by rfl) (pa_cons (pv 1) (pa_cons pe_int pa_nil))) pe_int (nomark _))
      (pss_cons (ps_set (i := 6) scLaw3.nd rfl (.inr rfl) (pe_op op_cat (pe_lst (pa_cons pe_non (pa_cons pe_int (pa_cons pe_str (pa_cons pe_str (pa_cons pe_str (pa_cons (pe_lst (pa_cons pe_str pa_nil)) (pa_cons (pe_tup (pa_cons pe_str pa_nil)) (pa_cons pe_bl (pa_cons pe_dnewK (pa_cons pe_str (pa_cons pe_str pa_nil)))))))))))) (pe_slice sl_list (pv 3) po_none (po_some pe_int))))
      (pss_one (ps_expr (pe_bm PySem.F.plainAttrs_list PySem.F.slot_list_insert PySem.F.type_list_insert mt_insert (pv 5) (pa_cons (pe_callH T.draw hr1 (by rfl) (pa_cons (pv 1) (pa_cons (pe_op op_add (pe_callB call_len (by rfl) TT.len PySem.boot_len (pa_cons (pv 5) pa_nil)) pe_int) pa_nil))) (pa_cons (pe_callH T.pick hr2 (by rfl) (pa_cons (pv 1) (pa_cons (pv 6) pa_nil))) pa_nil)))))) pss_nil)
    pA), ?_⟩
  intro D a S Ls pn T0 nn its ios o2 o5 o6 o7 o8 o9 o10 H HD c hpn n8 nd good hT0 items i60 dS dL hS offT offn hc hT k
  have two := hS.two
  refine ⟨_, rfl, pn, _, rfl, Sq.any (b := true) (SqL.of hpn), fun l hl => ?_⟩
  have lT : T0 ≠ l := fun q => by rw [q, hl] at hT0; cases hT0
  have lp : pn ≠ l := fun q => by rw [q, hl] at hpn; cases hpn
  replace items := itN_more (o := .lst []) hl items
  have offl' := hS.off hl
  replace dS : upd HD l (.lst []) S ≠ none := by rw [upd_ne offl'.1.symm]; exact dS
  replace dL : upd HD l (.lst []) Ls ≠ none := by rw [upd_ne offl'.2.symm]; exact dL
  have dl : upd HD l (.lst []) l ≠ none := by rw [upd_same]; exact fun z => nomatch z
  generalize upd HD l (.lst []) = HD at items dS dL dl
  have kk : ∀ {H H' : Hp}, Kept S Ls H H' → ∀ b o, HD b = none → H b = some o → H' b = some o := fun k b o h e => k b o e (fun q => dS (q ▸ h)) (fun q => dL (q ▸ h))
  have s1 := same_new (o := .lst (nn.map V.str)) hl
  have hl1 : upd H l (.lst (nn.map V.str)) l = some (.lst (nn.map V.str)) := upd_same
  have offl := hS.off hl
  have hS1 := hS.same s1
  have it1 := itN_step (H' := upd H l (.lst (nn.map V.str))) (fun b o _ h => s1 b o h) items
  have hpn1 := s1 _ _ hpn
  have hT01 := s1 _ _ hT0
  have hT1 := hT.ext s1
  generalize upd H l (.lst (nn.map V.str)) = H1 at *
  refine ⟨_, rfl, S, Ls, 3, c, rfl, by decide, by decide, by omega, hS1, fun r H2 r0 r1 hS2 hk2 => ⟨rfl, _, rfl, ?_⟩⟩
  have hl2 := hk2 _ _ hl1 offl.1 offl.2
  have hpn2 := hk2 _ _ hpn1 offn.1 offn.2
  have hT02 := hk2 _ _ hT01 offT.1 offT.2
  have it2 := itN_step (kk hk2) it1
  have hT2 := tabs_kept hT1 hS1 hk2
  have sth : ∀ {H9 : Hp}, ∀ x ∈ nn.map V.str, Thing H9 x := fun x hx => by
    obtain ⟨z, hz, rfl⟩ := List.mem_map.mp hx
    exact .str (good z hz).fit (by have := (good z hz).2.1; omega)
  have ll : (nn.map V.str).length = nn.length := List.length_map _
  refine ite2 (fun _ => ?_) (fun _ => ?_)
  case refine_2 => exact kA D a S Ls pn l T0 nn _ its ios _ _ _ _ _ _ H2 (c + 1) hpn2 n8 nd good hl2 sth (by rw [ll]; omega) hT02 (itN_items it2) i60 hS2 (by omega) hT2 fun σ' H' c' h1 h2 h3 h4 => k σ' H' c' h1 h2 (by omega) h4
  refine ⟨by show 1 ≤ sizeLine; decide, fun b hb => ⟨by show 1 ≤ sizeLine; decide, fun t ht => fun d hd => ⟨by show 11 ≤ sizeLine; decide, fun m hm => ⟨_, rfl, _, rfl, pn, _, rfl, SqL.of ((same_new hm) _ _ ((same_new hd) _ _ ((same_new ht) _ _ ((same_new hb) _ _ hpn2)))), fun q hq => ?_⟩⟩⟩⟩
  have e2 : cutV (nn.map V.str) none (some 2) = (nn.take 2).map V.str := by
    rw [show cutV (nn.map V.str) none (some 2) = (nn.map V.str).take 2 from cutV_take _ 2, List.map_take]
  rw [e2]
  have q1 := same_new (o := .lst [.str (Str.ofString "a")]) hb
  have q2 := same_new (o := .tup [.str (Str.ofString "a")]) ht
  have q3 := same_new (o := .dK []) hd
  have q4 := same_new (o := .lst [.non, .int 5, .str (Str.ofString ""), .str (Str.ofString "A"), .str (Str.ofString "ninewords"), .ref b, .ref t, .bl true, .ref d, .str (Str.ofString "a b"), .str (Str.ofString "-a")]) hm
  have q5 := same_new (o := .lst ((nn.take 2).map V.str)) hq
  have nb : ∀ o, H2 b ≠ some o := fun o z => by rw [hb] at z; cases z
  have nt : ∀ o, H2 t ≠ some o := fun o z => by rw [q1 _ _ z] at ht; cases ht
  have nd' : ∀ o, H2 d ≠ some o := fun o z => by rw [q2 _ _ (q1 _ _ z)] at hd; cases hd
  have tb := q5 _ _ (q4 _ _ (q3 _ _ (q2 _ _ (upd_same (H := H2) (a := b) (o := .lst [.str (Str.ofString "a")])))))
  have ttp := q5 _ _ (q4 _ _ (q3 _ _ (upd_same (a := t) (o := .tup [.str (Str.ofString "a")]))))
  have td := q5 _ _ (q4 _ _ (upd_same (a := d) (o := .dK [])))
  have tm := q5 _ _ (upd_same (a := m) (o := .lst [.non, .int 5, .str (Str.ofString ""), .str (Str.ofString "A"), .str (Str.ofString "ninewords"), .ref b, .ref t, .bl true, .ref d, .str (Str.ofString "a b"), .str (Str.ofString "-a")]))
  have sm27 := (((q1.trans q2).trans q3).trans q4).trans q5
  have tq : ∀ H9 : Hp, upd H9 q (.lst ((nn.take 2).map V.str)) q = some (.lst ((nn.take 2).map V.str)) := fun _ => upd_same
  generalize eH : upd (upd (upd (upd (upd H2 b (.lst [.str (Str.ofString "a")])) t (.tup [.str (Str.ofString "a")])) d (.dK [])) m _) q (.lst ((nn.take 2).map V.str)) = H7 at *
  have hq7 : H7 q = some (.lst ((nn.take 2).map V.str)) := eH ▸ upd_same
  have l2 : ((nn.take 2).map V.str).length ≤ 2 := by rw [List.length_map, List.length_take]; omega
  refine ⟨m, q, _, _, rfl, rfl, tm, hq7, ?_, fun u hu => ?_⟩
  · show 11 + _ ≤ sizeLine
    rw [sizeLine_eq]; omega
  have all : ∀ v ∈ ([.non, .int 5, .str (Str.ofString ""), .str (Str.ofString "A"), .str (Str.ofString "ninewords"), .ref b, .ref t, .bl true, .ref d, .str (Str.ofString "a b"), .str (Str.ofString "-a")] ++ (nn.take 2).map V.str : List V), Thing H7 v ∧ New H2 v := by
    intro v hv
    rcases List.mem_append.mp hv with hv | hv
    · simp only [List.mem_cons, List.not_mem_nil, or_false] at hv
      rcases hv with rfl | rfl | rfl | rfl | rfl | rfl | rfl | rfl | rfl | rfl | rfl
      · exact ⟨.non, fun _ e => nomatch e⟩
      · exact ⟨.five, fun _ e => nomatch e⟩
      · exact ⟨.word _ (by decide) (by decide), New.str⟩
      · exact ⟨.word _ (by decide) (by decide), New.str⟩
      · exact ⟨.word _ (by decide) (by decide), New.str⟩
      · exact ⟨.lst tb (fit_of (by decide)) (by decide), fun x e => by injection e with e; exact e ▸ hb⟩
      · exact ⟨.tup ttp (fit_of (by decide)) (by decide), fun x e => by injection e with e; exact e ▸ q1.free ht⟩
      · exact ⟨.bl true, fun _ e => nomatch e⟩
      · exact ⟨.dct td, fun x e => by injection e with e; exact e ▸ (q1.trans q2).free hd⟩
      · exact ⟨.word _ (by decide) (by decide), New.str⟩
      · exact ⟨.word _ (by decide) (by decide), New.str⟩
    · obtain ⟨z, hz, rfl⟩ := List.mem_map.mp hv
      have g := good z (List.mem_of_mem_take hz)
      exact ⟨.str g.fit (by have := g.2.1; omega), New.str⟩
  have lu : ([.non, .int 5, .str (Str.ofString ""), .str (Str.ofString "A"), .str (Str.ofString "ninewords"), .ref b, .ref t, .bl true, .ref d, .str (Str.ofString "a b"), .str (Str.ofString "-a")] ++ (nn.take 2).map V.str : List V).length = 11 + ((nn.take 2).map V.str).length := by
    rw [List.length_append]
    rfl
  generalize ([.non, .int 5, .str (Str.ofString ""), .str (Str.ofString "A"), .str (Str.ofString "ninewords"), .ref b, .ref t, .bl true, .ref d, .str (Str.ofString "a b"), .str (Str.ofString "-a")] ++ (nn.take 2).map V.str : List V) = us at *
  have su := same_new (o := .lst us) hu
  have sm28 := sm27.trans su
  have hu8 : upd H7 u (.lst us) u = some (.lst us) := upd_same
  have hS8 := hS2.same sm28
  have offu := (hS2.same sm27).off hu
  have all8 : ∀ v ∈ us, Thing (upd H7 u (.lst us)) v ∧ New H2 v := fun v hv => ⟨(all v hv).1.same su, (all v hv).2⟩
  generalize upd H7 u (.lst us) = H8 at *
  have hl8 := sm28 _ _ hl2
  refine ⟨_, rfl, .inl ⟨rfl, _, SqL.of hl8⟩, _, rfl, _, rfl, _, _, rfl, .inl ⟨_, SqL.of hl8, rfl⟩, _, _, rfl, rfl, S, Ls, _, _, rfl, by omega, by rw [ll]; omega, by omega, hS8, fun i H9 i0 i1 hS9 hk9 => ?_⟩
  have hu9 := hk9 _ _ hu8 offu.1 offu.2
  rw [ll] at i1
  refine ⟨_, rfl, _, rfl, S, Ls, u, us, _, rfl, SqL.of hu9, (fun H' kq => SqL.of (kq _ _ hu9 offu.1 offu.2)), by omega, by omega, by omega, hS9, fun j v Ha hv hSa hka => ?_⟩
  obtain ⟨tv, nv⟩ := all8 v (List.mem_of_getElem? hv)
  have two2 := hS2.two
  have k2a : Kept S Ls H8 Ha := hk9.trans hka
  have tva : Thing Ha v := tv.kept nv two2 k2a
  have hla := k2a _ _ hl8 offl.1 offl.2
  have hpna := k2a _ _ (sm28 _ _ hpn2) offn.1 offn.2
  have hT0a := k2a _ _ (sm28 _ _ hT02) offT.1 offT.2
  have ita := itN_step (kk k2a) (itN_step (fun b o _ h => sm28 b o h) it2)
  have hTa := tabs_kept (tabs_kept (hT2.ext sm28) hS8 hk9) hS9 hka
  have nl : ∀ x, v = .ref x → x ≠ l := fun x e q => by have z := nv x e; rw [q, hl2] at z; cases z
  refine ⟨l, _, i, v, rfl, rfl, hla, by rw [ll, sizeLine_eq]; omega, i0, by omega, ?_⟩
  refine kA D a S Ls pn l T0 nn _ its ios _ _ _ _ _ _ _ _ ((upd_ne lp).trans hpna) n8 nd good upd_same (fun x hx => ?_) ?_ ((upd_ne lT).trans hT0a) (itN_items (itN_step (fun b o hb' h => by have ne : b ≠ l := fun q => dl (by rw [← q]; exact hb'); exact (upd_ne ne).trans h) ita)) i60 (hSa.put offl.1 offl.2) (by omega) (tabs_put hTa hla) fun σ' H' c' h1 h2 h3 h4 => k σ' H' c' h1 h2 (by omega) h4
  · rcases List.mem_append.mp hx with hx | hx
    · rcases List.mem_append.mp hx with hx | hx
      · exact sth x (List.mem_of_mem_take hx)
      · rw [List.mem_singleton.mp hx]
        exact tva.frame fun x e => upd_ne (nl x e)
    · exact sth x (List.mem_of_mem_drop hx)
  · rw [List.length_append, List.length_append, List.length_take, List.length_drop, ll]
    show _ + 1 + _ ≤ 60
    omega
end
end K6
namespace K6
open PySem PySem.Spec PyProof.Rows L2 LamX NdefX EV
def spLaw3 (K : PySem.W.Frag) (T : List (Addr × Str)) : Sp := fun vs H Q _ => ∃ (a : Addr) (ns : List Int), vs = [.ref a] ∧ SqL K H a (ns.map V.int) ∧ ns.length ≤ 63 ∧ Tabs T H ∧ ∀ H', Q (.bl true) H'
section
variable {P : Program} {w : World} {K : PySem.W.Frag} {mg : Str → Option Value} {base : Heap} {C CN CM CB CG cO Pt : Addr}
variable {f : Addr} {A : Around} {outer : List Env} {s0 : Shared} {HH : Hp} {E : XK}
theorem segG (T : LW3 P w K mg base C CN CM CB CG) (TB : TabB base mg cO Pt) (hg : (XL3 P w K mg base f (.ref cO) A outer s0 HH E).A.guards = some []) (hr : Room 9 (XL3 P w K mg base f (.ref cO) A outer s0 HH E).A) :
    ∃ tt, PSs (XL3 P w K mg base f (.ref cO) A outer s0 HH E) turn3 tt ∧ ∀ (D : Ends) (a S Ls : Addr) (σ : L2.St) (H : Hp) (c : Nat), SigT3 a S σ → StreamAt H S Ls c → c ≤ 60000 → Tabs [(Pt, qL3)] H →
      (∀ σ' H' c', SigT3 a S σ' → StreamAt H' S Ls c' → c' ≤ c + 1000 → Tabs [(Pt, qL3)] H' → D.nx σ' H') → tt D σ H := by
  obtain ⟨ttA, pA, kA⟩ := segF (f := f) (A := A) (outer := outer) (s0 := s0) (HH := HH) (E := E) T TB hg hr
  have hr1 : Room 1 _ := hr.mono (by decide)
  have hr3 : Room 3 _ := hr.mono (by decide)
  have hr4 : Room 4 _ := hr.mono (by decide)
  refine ⟨_, pss_cons (ps_set (i := 3) scLaw3.nd rfl (.inr rfl) (pe_callH T.names hr4 (by rfl) (pa_cons (pv 1) (pa_cons (pe_callH T.draw hr1 (by rfl) (pa_cons (pv 1) (pa_cons pe_int pa_nil))) pa_nil))))
    (pss_cons (ps_set (i := 4) scLaw3.nd rfl (.inr rfl) (pe_lc (own := [("_law_k", 10)]) (g := gName 10) (tt := tYes) rfl scLaw3.nd (pi_range1 (by rfl) T.range (pa_cons (pe_callH T.draw hr1 (by rfl) (pa_cons (pv 1) (pa_cons pe_int pa_nil))) pa_nil)) (blkOk_by (N := nLaw3) (sc := defScope sLaw) (by decide +kernel))
        (fun _ _ _ _ _ => pg_name (i := 10) scLaw3.nd rfl (.inl rfl)) (fun _ _ _ _ _ => pts_nil) (fun _ _ _ _ _ => pe_callH T.spoiled hr4 (by rfl) (pa_cons (pv 1) (pa_cons (pe_callH T.sided hr3 (by rfl) (pa_cons (pv 1) (pa_cons (pv 3) pa_nil))) (pa_cons (pv 3) pa_nil))))))
    pA), ?_⟩
  rintro D a S Ls σ H c ⟨o2, o3, o4, o5, o6, o7, o8, o9, o10, rfl⟩ hS hc hT k
  refine ⟨_, rfl, _, rfl, S, Ls, 9, c, rfl, by decide, by decide, by omega, hS, fun r H1 r0 r1 hS1 hk1 => ⟨S, Ls, r.toNat, _, by rw [Int.toNat_of_nonneg r0]; rfl, by omega, by omega, hS1, fun nn pn c2 H2 ln nd good hpn0 hpn hc2 hS2 hk2 => ?_⟩⟩
  have offn := hS1.off hpn0
  have hT2 := tabs_kept (tabs_kept hT hS hk1) hS1 hk2
  have n8 : nn.length ≤ 8 := by omega
  refine ⟨_, rfl, S, Ls, 4, c2, rfl, by decide, by decide, by omega, hS2, fun r' H3 q0 q1 hS3 hk3 => ?_⟩
  obtain ⟨n, rfl⟩ : ∃ n : Nat, r' = (n : Int) := ⟨r'.toNat, (Int.toNat_of_nonneg q0).symm⟩
  have hpn3 := hk3 _ _ hpn offn.1 offn.2
  have hT3 := tabs_kept hT2 hS2 hk3
  refine ⟨_, rfl, by omega, by omega, fun Dd hD => lc_range (lo := 0) (n := n) (fun i H' => ∃ its ios c', its.length = i ∧ H' Dd = some (.lst its) ∧ Paired (ItN (upd H3 Dd (.lst [])) H') its ios ∧ StreamAt H' S Ls c' ∧ c' ≤ c2 + 1 + 126 * i ∧ Kept S Ls H3 H' ∧ (∀ b o, upd H3 Dd (.lst []) b = some o → b ≠ S → b ≠ Ls → b ≠ Dd → H' b = some o)) ?_ ?_ ?_⟩
  · exact ⟨[], [], c2 + 1, rfl, upd_same, .nil, hS3.new hD, by omega, (Kept.refl H3).new hD, fun b o h _ _ _ => h⟩
  · rintro i H' hi ⟨its, ios, c', li, hD', items, hS', hc', hk', k3⟩
    have offD := hS3.off hD
    have hpn' := hk' _ _ hpn3 offn.1 offn.2
    refine ⟨rfl, _, rfl, _, rfl, _, rfl, S, Ls, pn, nn, c', rfl, SqL.of hpn', by omega, (fun z hz => (good z hz).2.1), by omega, hS', fun qs p c4 H4 pm hp0 hp4 hc4 hS4 hk4 => ?_⟩
    have offp := hS'.off hp0
    have hpn4 := hk4 _ _ hpn' offn.1 offn.2
    have lq : qs.length = nn.length := by
      have z := pm.length_eq
      rwa [List.length_map] at z
    refine ⟨_, rfl, S, Ls, p, pn, qs, nn, c4, rfl, SqL.of hp4, SqL.of hpn4, (fun H9 k9 => SqL.of (k9 _ _ hpn4 offn.1 offn.2)), by omega, good, (fun q hq => good _ (pm.mem_iff.mp (List.mem_map_of_mem hq))), by omega, by omega, hS4, fun v io c5 H5 item nv hc5 hS5 hk5 => ?_⟩
    have hD4 := hk4 _ _ hD' offD.1 offD.2
    have hD5 := hk5 _ _ hD4 offD.1 offD.2
    obtain ⟨⟨_, g1⟩, ⟨_, g2⟩⟩ := hS4.two
    have new : ∀ {x : V}, New H4 x → New (upd H3 Dd (.lst [])) x := fun {x} nx b e => by
      have nb := nx b e
      cases hb : upd H3 Dd (.lst []) b with
      | none => rfl
      | some o =>
        exfalso
        have bS : b ≠ S := fun q => by rw [q, g1] at nb; cases nb
        have bL : b ≠ Ls := fun q => by rw [q, g2] at nb; cases nb
        have bD : b ≠ Dd := fun q => by rw [q, hD4] at nb; cases nb
        rw [hk4 _ _ (k3 b o hb bS bL bD) bS bL] at nb
        cases nb
    have dS : upd H3 Dd (.lst []) S ≠ none := by
      obtain ⟨⟨_, f1⟩, _⟩ := hS3.two
      rw [upd_ne offD.1.symm, f1]
      exact fun z => nomatch z
    have dL : upd H3 Dd (.lst []) Ls ≠ none := by
      obtain ⟨_, ⟨_, f1⟩⟩ := hS3.two
      rw [upd_ne offD.2.symm, f1]
      exact fun z => nomatch z
    have dD : upd H3 Dd (.lst []) Dd ≠ none := by rw [upd_same]; exact fun z => nomatch z
    have step : ∀ b o, upd H3 Dd (.lst []) b = none → H' b = some o → upd H5 Dd (.lst (its ++ [v])) b = some o := fun b o hb h => by
      have bS : b ≠ S := fun q => dS (by rw [← q]; exact hb)
      have bL : b ≠ Ls := fun q => dL (by rw [← q]; exact hb)
      have bD : b ≠ Dd := fun q => dD (q ▸ hb)
      exact (upd_ne bD).trans (hk5 _ _ (hk4 _ _ h bS bL) bS bL)
    have nvD : NewI (upd H3 Dd (.lst [])) v io := ⟨new nv.1, fun xs e x hx => new (nv.2 xs e x hx)⟩
    have one : Paired (ItN (upd H3 Dd (.lst [])) (upd H5 Dd (.lst (its ++ [v])))) [v] [io] := itN_step (H := H5) (fun b o hb h => by
      have bD : b ≠ Dd := fun q => dD (q ▸ hb)
      exact (upd_ne bD).trans h) (.cons ⟨item, nvD⟩ .nil)
    refine ⟨_, hD5, by rw [li, sizeLine_eq]; omega, its ++ [v], ios ++ [io], c5, by rw [List.length_append, li]; rfl, upd_same, paired_app (itN_step step items) one, hS5.put offD.1 offD.2, by omega, kept_upd ((hk'.trans hk4).trans hk5) hD, fun b o hb bS bL bD => ?_⟩
    exact (upd_ne bD).trans (hk5 _ _ (hk4 _ _ (k3 b o hb bS bL bD) bS bL) bS bL)
  · rintro H' ⟨its, ios, c', li, hD', items, hS', hc', hk', k3⟩
    have offD := hS3.off hD
    obtain ⟨⟨_, f1⟩, ⟨_, f2⟩⟩ := hS3.two
    refine kA D a S Ls pn Dd nn its ios _ _ _ _ _ _ _ H' (upd H3 Dd (.lst [])) c' (hk' _ _ hpn3 offn.1 offn.2) n8 nd good hD' items (by omega) ?_ ?_ hS' offD offn (by omega) (tabs_kept hT3 hS3 hk') fun σ' H9 c9 h1 h2 h3 h4 => k σ' H9 c9 h1 h2 (by omega) h4
    · rw [upd_ne offD.1.symm, f1]
      exact fun z => nomatch z
    · rw [upd_ne offD.2.symm, f2]
      exact fun z => nomatch z
theorem law_body (T : LW3 P w K mg base C CN CM CB CG) (TB : TabB base mg cO Pt) (hg : (XL3 P w K mg base f (.ref cO) A outer s0 HH E).A.guards = some []) (hr : Room 9 (XL3 P w K mg base f (.ref cO) A outer s0 HH E).A) :
    ∃ tt, PSs (XL3 P w K mg base f (.ref cO) A outer s0 HH E) (defBody sLaw) tt ∧ ∀ (D : Ends) (a : Addr) (ns : List Int) (H : Hp), SqL K H a (ns.map V.int) → ns.length ≤ 63 → Tabs [(Pt, qL3)] H → (∀ H', D.rt (.bl true) H') → tt D (L2.start nLaw3 [.ref a]) H := by
  obtain ⟨tt1, p1, k1⟩ := segG (f := f) (A := A) (outer := outer) (s0 := s0) (HH := HH) (E := E) T TB hg hr
  have TT := T.T
  refine ⟨_, pss_cons (ps_set (i := 1) scLaw3.nd rfl (.inr rfl) (pe_lst (pa_cons (pe_callTy call_list_of (by rfl) TT.list (by decide +kernel) (pa_cons (pv 0) pa_nil)) (pa_cons pe_int (pa_cons pe_int (pa_cons pe_int pa_nil))))))
    (pss_cons (ps_for PassesOwn.never rfl (pi_range1 (by rfl) T.range (pa_cons pe_int pa_nil)) (pg_name (i := 2) scLaw3.nd rfl (.inl rfl)) p1)
    (pss_one (ps_ret pe_bl))), ?_⟩
  intro D a ns H hA hn hT k
  refine ⟨_, rfl, a, _, rfl, .inl hA, fun l0 hl0 => ⟨(by show 4 ≤ sizeLine; decide), fun S hS => ?_⟩⟩
  have hSl : StreamAt (upd (upd H l0 (.lst (ns.map V.int))) S (.lst [.ref l0, .int 0, .int 0, .int 0])) S l0 0 := ⟨ns, 0, 0, upd_same, (upd_ne (ne_of_none upd_same hS)).trans upd_same, by decide, by decide, by decide, hn⟩
  have sm0 : Same H (upd (upd H l0 (.lst (ns.map V.int))) S (.lst [.ref l0, .int 0, .int 0, .int 0])) := (same_new hl0).trans (same_new hS)
  have T0 : Tabs [(Pt, qL3)] _ := fun p hp => (hT p hp).ext sm0
  generalize upd (upd H l0 (.lst (ns.map V.int))) S (.lst [.ref l0, .int 0, .int 0, .int 0]) = HA at hSl T0 ⊢
  refine ⟨10, rfl, by decide, by decide, for_range (lo := 0) (n := 10) (fun i σ H2 => SigT3 a S σ ∧ ∃ c, c ≤ 1000 * i ∧ StreamAt H2 S l0 c ∧ Tabs [(Pt, qL3)] H2) ⟨⟨_, _, _, _, _, _, _, _, _, rfl⟩, 0, Nat.zero_le _, hSl, T0⟩ ?_ ?_⟩
  · rintro i σ H2 hi ⟨⟨o2, o3, o4, o5, o6, o7, o8, o9, o10, rfl⟩, c, hc, hS2, T2⟩
    exact k1 _ a S l0 _ H2 c ⟨_, _, _, _, _, _, _, _, _, rfl⟩ hS2 (by omega) T2 fun σ' H' c' hσ hS' hc' hT' => ⟨hσ, c', by omega, hS', hT'⟩
  · rintro σ HB _
    exact k HB
end
end K6
namespace K6
open PySem PySem.Spec PyProof.Rows L2 LamX NdefX EV
/-! ### what the written part says of the text -/
def frees : List Str := ["int", "len", "repr", "range", "list", "tuple", "isinstance", "str", "all", "any", "enumerate", "sorted", "set"]
def freeB (K : PySem.W.Frag) (xs : List Str) : Bool := xs.all fun x => decide (PySem.W.nsIn K mainGlobals x = some none)
theorem freeB_ok {K : PySem.W.Frag} {xs : List Str} {h : Heap} {mg : Str → Option Value} (b : freeB K xs = true) (X : K.In h) (G : h.Ns mainGlobals mg) : ∀ x ∈ xs, mg x = none := fun x hx => by
  unfold freeB at b
  simp only [List.all_eq_true, decide_eq_true_eq] at b
  exact PySem.W.mg_none_of X G (b x hx)
def DefAt (K : PySem.W.Frag) (x : Str) (st : Stmt) (f : Addr) : Prop := PySem.W.nsIn K mainGlobals x = some (some (.ref f)) ∧ ∃ fd, Fun K x x st f fd
def fnB (K : PySem.W.Frag) (C : Addr) (m : Str) (f : Addr) : Bool := decide (PySem.W.findIn K (.ref C) m = some (some (.ref f))) && PySem.W.isFn K (.ref f) && PySem.W.keepIn K (.ref f)
theorem fnB_ok {K : PySem.W.Frag} {C f : Addr} {m : Str} (h : fnB K C m f = true) : Meth K C m f := by
  unfold fnB at h
  simp only [Bool.and_eq_true, decide_eq_true_eq] at h
  exact ⟨h.1.1, h.1.2, h.2⟩
def clB (K : PySem.W.Frag) (C : Addr) : Bool := PySem.W.plainGet K C Str.empty && PySem.W.hasDictIn K C && PySem.W.plainOver K C && decide (PySem.W.findIn K (.ref C) "__setattr__" = some (some (.builtin "object.__setattr__"))) &&
  (["names", "places", "rows"] : List Str).all (fun n => decide (PySem.W.findIn K (.ref C) n = some none))
theorem clB_ok {K : PySem.W.Frag} {C : Addr} (h : clB K C = true) : Cls K C ∧ NoAttr K C "names" ∧ NoAttr K C "places" ∧ NoAttr K C "rows" := by
  unfold clB at h
  simp only [Bool.and_eq_true, decide_eq_true_eq, List.all_eq_true] at h
  obtain ⟨⟨⟨⟨h1, h2⟩, h3⟩, h4⟩, h5⟩ := h
  exact ⟨⟨h1, h2, h3, h4⟩, h5 _ (by simp), h5 _ (by simp), h5 _ (by simp)⟩
def isB (K : PySem.W.Frag) (C : Addr) : Bool := decide (PySem.W.findIn K (.ref C) "__class__" = some (some (.builtin "object.__class__"))) && decide (PySem.W.specialIn K (.builtin "object.__class__") "__get__" = some (some (.builtin "getset_descriptor.__get__"))) && decide (PySem.W.takesIn K (.builtin "object.__class__") = some true) && decide (PySem.W.mroIn K C (.type "object") = some true)
theorem isB_ok {K : PySem.W.Frag} {C : Addr} (h : isB K C = true) : CIs K C := by
  unfold isB at h
  simp only [Bool.and_eq_true, decide_eq_true_eq] at h
  obtain ⟨⟨⟨h1, h2⟩, h3⟩, h4⟩ := h
  exact ⟨h1, h2, h3, h4⟩
def neB (K : PySem.W.Frag) (C : Addr) : Bool := decide (PySem.W.findIn K (.ref C) "__ne__" = some (some (.builtin "object.__ne__"))) && decide (PySem.W.mroIn K C (.type "object") = some true) && (oddTypes.all fun T => decide (PySem.W.subIn K (.ref C) (.type T) = some false) && decide (PySem.W.kitOne K (.type T) (.ref C) = some false) && PySem.W.notFirst K C (.type T)) && PySem.W.notFirst K C (.ref C)
theorem neB_ok {K : PySem.W.Frag} {C f : Addr} (h : neB K C = true) (m : Meth K C "__eq__" f) : NeTxt K C f ∧ (∀ T ∈ oddTypes, PySem.W.kitOne K (.type T) (.ref C) = some false ∧ PySem.W.notFirst K C (.type T) = true) ∧ PySem.W.notFirst K C (.ref C) = true := by
  unfold neB at h
  simp only [Bool.and_eq_true, decide_eq_true_eq, List.all_eq_true] at h
  obtain ⟨⟨⟨h1, h2⟩, h3⟩, h4⟩ := h
  exact ⟨⟨m.at_, m.fn, h1, h2, fun T hT => (h3 T hT).1.1⟩, fun T hT => ⟨(h3 T hT).1.2, (h3 T hT).2⟩, h4⟩
def mkB (K : PySem.W.Frag) (C : Addr) : Bool := PySem.W.makesIn K C && PySem.W.keepIn K (.ref C)
theorem mkB_ok {K : PySem.W.Frag} {C f : Addr} (h : mkB K C = true) (m : Meth K C "__init__" f) : Mk K C f := by
  unfold mkB at h
  simp only [Bool.and_eq_true] at h
  exact ⟨h.1, m.at_, m.fn, h.2⟩
section
variable {P : Program} {w : World} {K : PySem.W.Frag} {mg : Str → Option Value} {base : Heap}
def xfBits (K : PySem.W.Frag) (D : Addr) : Bool := decide (PySem.W.findIn K (.ref D) "__getattribute__" = some (some (.builtin "BaseException.__getattribute__"))) && decide (PySem.W.findIn K (.ref D) "__getattr__" = some none) && decide (PySem.W.subIn K (.ref D) (.type "BaseException") = some true) && PySem.W.hasDictIn K D
def xtB (K : PySem.W.Frag) (D f : Addr) (fld : Str) : Bool := xfBits K D && decide (PySem.W.findIn K (.ref D) "__setattr__" = some (some (.builtin "object.__setattr__"))) && decide (PySem.W.typeIn K (.ref D) = some (.type "type")) && PySem.W.keepIn K (.ref D) && decide (PySem.W.findIn K (.ref D) "__init__" = some (some (.ref f))) && decide (PySem.W.typeIn K (.ref f) = some (.type "function")) && decide (PySem.W.findIn K (.ref D) fld = some none)
theorem xtB_ok {x fld : Str} {D f : Addr} (h : xtB K D f fld = true) (ex : ∃ nm q N bs bm sn sub ab col dd k0 k1 k2 k3 k5, K.lookup D = some (excClassObj nm q D N bs bm true sn sub ab col dd k0 k1 k2 k3 k5 "ValueError.__new__") ∧ PySem.HandSPX.refsVE bm = true) (g : mg x = some (.ref D)) : XT K mg x fld D f := by
  unfold xtB xfBits at h
  simp only [Bool.and_eq_true, decide_eq_true_eq] at h
  obtain ⟨⟨⟨⟨⟨⟨⟨⟨⟨h1, h2⟩, h3⟩, h4⟩, h5⟩, h6⟩, h7⟩, h8⟩, h9⟩, h10⟩ := h
  exact ⟨⟨ex, h5, h3, h6, h7⟩, ⟨h1, h2, h3, h4⟩, h8, h9, h10, g⟩
def exsB (K : PySem.W.Frag) (a b c d : Addr) : Bool := decide (PySem.W.exmOne K (.ref a) (.ref a) = some true) && decide (PySem.W.exmOne K (.ref b) (.ref a) = some false) && decide (PySem.W.exmOne K (.ref b) (.ref b) = some true) && decide (PySem.W.exmOne K (.ref c) (.ref a) = some false) && decide (PySem.W.exmOne K (.ref c) (.ref b) = some false) && decide (PySem.W.exmOne K (.ref c) (.ref c) = some true) && decide (PySem.W.exmOne K (.ref d) (.ref a) = some false) && decide (PySem.W.exmOne K (.ref d) (.ref b) = some false) && decide (PySem.W.exmOne K (.ref d) (.ref c) = some false) && decide (PySem.W.exmOne K (.ref d) (.ref d) = some true)
theorem exsB_ok {a b c d : Addr} (h : exsB K a b c d = true) : EXs K a b c d := by
  unfold exsB at h
  simp only [Bool.and_eq_true, decide_eq_true_eq] at h
  obtain ⟨⟨⟨⟨⟨⟨⟨⟨⟨h1, h2⟩, h3⟩, h4⟩, h5⟩, h6⟩, h7⟩, h8⟩, h9⟩, h10⟩ := h
  exact ⟨h1, h2, h3, h4, h5, h6, h7, h8, h9, h10⟩
theorem exc_mk {C N : Addr} {nm q : Str} {bs bm sub : List Value} {sn : List Str} {ab : Bool} {col : Option Bool} {dd : Option Addr} {k0 k1 k2 k3 k5 : Option Value} (h : K.lookup C = some (excClassObj nm q C N bs bm true sn sub ab col dd k0 k1 k2 k3 k5 "ValueError.__new__")) (r : PySem.HandSPX.refsVE bm = true) :
    ∃ nm q N bs bm sn sub ab col dd k0 k1 k2 k3 k5, K.lookup C = some (excClassObj nm q C N bs bm true sn sub ab col dd k0 k1 k2 k3 k5 "ValueError.__new__") ∧ PySem.HandSPX.refsVE bm = true := ⟨nm, q, N, bs, bm, sn, sub, ab, col, dd, k0, k1, k2, k3, k5, h, r⟩
def otB (K : PySem.W.Frag) (O : Addr) : Bool := PySem.W.readsIn K O (.type "type") && decide (PySem.W.specialIn K (.ref O) "__getattribute__" = some (some (.builtin "type.__getattribute__"))) && (match PySem.W.findCls K (.ref O) (.type "type") "__init__" with
    | some (.val (.builtin id)) => id == "ValueError.__init__"
    | _ => false)
theorem otB_ok {O : Addr} (h : otB K O = true) (g : mg "OpenError" = some (.ref O)) : OT K mg O := by
  unfold otB at h
  simp only [Bool.and_eq_true, decide_eq_true_eq] at h
  obtain ⟨⟨h1, h2⟩, h3⟩ := h
  refine ⟨⟨h1, h2⟩, ?_, g⟩
  split at h3
  · rename_i id e
    rw [e, beq_iff_eq.mp h3]
  · cases h3
def rgB (K : PySem.W.Frag) (C : Addr) : Bool := PySem.W.selfFirst K C && decide (PySem.W.findIn K (.ref C) (dunderR Operator.Sub.info.2) = some none) && decide (PySem.W.kitOne K (.ref C) (.ref C) = some true) && rightTypes.all fun T => (PySem.W.findIn K (.type T) (PySem.dunder Operator.Sub.info.2)).isSome && (PySem.W.findIn K (.type T) (dunderR Operator.Sub.info.2)).isSome && decide (PySem.W.subIn K (.type T) (.ref C) = some false)
theorem rgB_ok {C : Addr} (h : rgB K C = true) : PySem.W.selfFirst K C = true ∧ PySem.W.findIn K (.ref C) (dunderR Operator.Sub.info.2) = some none ∧ PySem.W.kitOne K (.ref C) (.ref C) = some true ∧ ∀ T ∈ rightTypes, RightOk K C Operator.Sub.info.2 T := by
  unfold rgB at h
  simp only [Bool.and_eq_true, decide_eq_true_eq, List.all_eq_true] at h
  obtain ⟨⟨⟨h1, h2⟩, h3⟩, h4⟩ := h
  refine ⟨h1, h2, h3, fun T hT => ?_⟩
  obtain ⟨⟨g1, g2⟩, g3⟩ := h4 T hT
  exact ⟨Option.isSome_iff_exists.mp g1, Option.isSome_iff_exists.mp g2, g3⟩
theorem law_mk {f c : Addr} {oc kV doc pm ct : Value} {od an : Option Addr} {osl : Array (Option Value)} (h : K.lookup f = some ⟨oc, od, .func (PySem.W.fnOf "law" "law" (defArgs sLaw) (defBody sLaw) (defScope sLaw) .none kV doc pm an (.ref c) ct), osl⟩) :
    ∃ (oc kV doc pm ct : Value) (od an : Option Addr) (osl : Array (Option Value)), K.lookup f = some ⟨oc, od, .func (PySem.W.fnOf "law" "law" (defArgs sLaw) (defBody sLaw) (defScope sLaw) .none kV doc pm an (.ref c) ct), osl⟩ := ⟨oc, kV, doc, pm, ct, od, an, osl, h⟩
theorem walk3 {l : PySem.W.OpenLaw} {q : Program} {loose : List Str} {XP : (Str → Option Value) → Heap → Prop} {YP : World → Heap → Prop} {d : DefRec} {K : Params → PySem.W.Frag} {cO Pt : Addr} (hn : l.most = some 63) (hdf : d.params.defaults = [])
    (hY : ∀ (w : World) (h : Heap), YP w h → (K w.params).In h ∧ h.get? Pt = some { cls := .none, data := .fields #[] }) (hP : ∀ w : World, (K w.params).lookup Pt = none) (hC : ∀ (w : World) (h : Heap), (K w.params).In h → PySem.W.CodeHd h cO Pt)
    (F : ∀ (w : World) (mg : Str → Option Value) (fa : Addr) (h base : Heap), (K w.params).In h → h.Ns mainGlobals mg → mg d.name = some (.ref fa) → TabB base mg cO Pt →
      ∃ fd, (∀ (s : Shared) (u : Value), BindsTo s fd ⟨[u], []⟩ [("_law_script", u)]) ∧ FnG l.prog w (K w.params) mg base 10 fa fd ["_law_script"] (spLaw3 (K w.params) [(Pt, qL3)])) :
    PySem.W.WalkO q loose XP YP l.row.toRowW d [] (fun f vs => PySem.call f vs) := by
  refine Att.attach_callB hn hdf fun w s₀ s₁ mg mb fa o pm cd doc a vs ns G Y ho hd hcd hmg hobj hints hlen hbits hg => ?_
  obtain ⟨KX, hT⟩ := hY w _ Y
  refine law_callG (cs := [(cO, Pt)]) KX G.T.g G.T.b G.T.builtins G.T.nolimit hg (fun p hp => ?_) (fun p hp => ?_) (fun p hp => ?_) G.T.bmain hobj hints (Nat.le_trans hlen (by decide)) fun base H kb gb tb hH hS e0 => ?_
  · rw [List.mem_singleton.mp hp]
    exact hT
  · rw [List.mem_singleton.mp hp]
    exact hP w
  · rw [List.mem_singleton.mp hp]
    exact hC w _ KX
  · obtain ⟨fd, hb, hF⟩ := F w mg fa _ base KX G.T.g hmg (tb _ List.mem_cons_self)
    refine hF.run callerA [] s₁ H ⟨[.ref a], []⟩ [.ref a] [.ref a] _ E0 rfl ⟨rfl, by decide, by decide⟩ e0 (hb s₁ (.ref a)) (.cons rfl .nil) ⟨a, ns, rfl, hS, hlen, fun q hq => ?_, fun _ => rfl⟩
    rw [List.mem_singleton.mp hq]
    exact TabS.nil (hH _ List.mem_cons_self)
theorem all_tx {h : Heap} {fa fZ C O CXN CXM CXB CXG gXN gXM gXB gXG fN AN cO Pt fD fP fM fS fF fN1 fA fNg fBr fHf fSd fOd fLn fFb fFo fSp fEn fDu fi fn fl fp fv ft fw fc fk fs fu fcs fks g0 g2 g3 g8 gc : Addr} {vL vM vT : Value} (X : K.In h) (G : h.Ns mainGlobals mg) (hfa : mg "law" = some (.ref fa)) (fr : freeB K frees = true)
    (aL : PySem.W.nsIn K mainGlobals "LETTERS" = some (some vL)) (eL : ∃ t, vL = .str letters t) (aM : PySem.W.nsIn K mainGlobals "MOST_LETTERS" = some (some vM)) (eM : ∃ t, vM = .int 8 t) (aT : PySem.W.nsIn K mainGlobals "MOST_SIGNS" = some (some vT)) (eT : ∃ t, vT = .int 6 t)
    (dD : DefAt K "_law_draw" sDraw fD) (dP : DefAt K "_law_pick" sPick fP) (dM : DefAt K "_law_mixed" sMixed fM) (dS : DefAt K "_law_same" sSame fS) (dF : DefAt K "_law_fresh" sFresh fF) (dN : DefAt K "_law_names" sNames fN1) (dA : DefAt K "_law_fulls" sFulls fA) (dNg : DefAt K "_law_neg" sNeg fNg) (dBr : DefAt K "_law_bare" sBare fBr) (dHf : DefAt K "_law_half" sHalf fHf) (dSd : DefAt K "_law_sided" sSided fSd) (dOd : DefAt K "_law_odd" sOdd fOd) (dLn : DefAt K "_law_is_name" sLisName fLn) (dFb : DefAt K "_law_first_bad" sFirstBad fFb) (dFo : DefAt K "_law_first_odd" sFirstOdd fFo) (dSp : DefAt K "_law_spoiled" sSpoiled fSp) (dEn : DefAt K "_law_end" sEnd fEn) (dDu : DefAt K "_law_due" sDue fDu) (di : DefAt K "is_name" sIsName fi) (dn : DefAt K "name_of" sNameOf fn) (dl : DefAt K "literals_of" sLits fl) (dp : DefAt K "places_of" sPlaces fp) (dv : DefAt K "in_order" sInOrder fv) (dt : DefAt K "is_list" sIsList ft) (dw : DefAt K "first_wrong" sWrong fw) (dc : DefAt K "is_clause" sIsClause fc) (dk : DefAt K "is_full" sIsFull fk) (ds : DefAt K "full_settings" sFullSettings fs) (du : DefAt K "check_count" sChkCount fu) (dcs : DefAt K "check_setting" sChkSetting fcs) (dks : DefAt K "check_sign" sChkSign fks)
    (aC : PySem.W.nsIn K mainGlobals "Rule" = some (some (.ref C))) (aN : PySem.W.nsIn K mainGlobals "check_names" = some (some (.ref fN))) (lN : ∃ fd, FunE K "check_names" "check_names" sChkNames fN fd AN)
    (i0 : PySem.W.findIn K (.ref C) "__init__" = some (some (.ref g0))) (n0 : fnB K C "__init__" g0 = true) (l0 : ∃ fd, Fun K "__init__" "Rule.__init__" sInit g0 fd) (i2 : PySem.W.findIn K (.ref C) "settings" = some (some (.ref g2))) (n2 : fnB K C "settings" g2 = true) (l2 : ∃ fd, Fun K "settings" "Rule.settings" sSettings g2 fd) (i3 : PySem.W.findIn K (.ref C) "forced" = some (some (.ref g3))) (n3 : fnB K C "forced" g3 = true) (l3 : ∃ fd, Fun K "forced" "Rule.forced" sForced g3 fd) (i8 : PySem.W.findIn K (.ref C) "turned" = some (some (.ref g8))) (n8 : fnB K C "turned" g8 = true) (l8 : ∃ fd, Fun K "turned" "Rule.turned" sTurned g8 fd) (ic : PySem.W.findIn K (.ref C) "__sub__" = some (some (.ref gc))) (nc : fnB K C "__sub__" gc = true) (lc : ∃ fd, Fun K "__sub__" "Rule.__sub__" sSub gc fd)
    (cC : clB K C = true) (cI : isB K C = true) (cM : mkB K C = true) (cR : rgB K C = true) (cX : exsB K CXN CXM CXB CXG = true)
    (aO : PySem.W.nsIn K mainGlobals "OpenError" = some (some (.ref O))) (wO : otB K O = true)
    (aXN : PySem.W.nsIn K mainGlobals "BadNames" = some (some (.ref CXN))) (iXN : PySem.W.findIn K (.ref CXN) "__init__" = some (some (.ref gXN))) (lXN : ∃ fd, Fun K "__init__" "BadNames.__init__" sIN gXN fd) (wXN : xtB K CXN gXN "index" = true) (xXN : ∃ nm q N bs bm sn sub ab col dd k0 k1 k2 k3 k5, K.lookup CXN = some (excClassObj nm q CXN N bs bm true sn sub ab col dd k0 k1 k2 k3 k5 "ValueError.__new__") ∧ PySem.HandSPX.refsVE bm = true) (aXM : PySem.W.nsIn K mainGlobals "TooMany" = some (some (.ref CXM))) (iXM : PySem.W.findIn K (.ref CXM) "__init__" = some (some (.ref gXM))) (lXM : ∃ fd, Fun K "__init__" "TooMany.__init__" sIM gXM fd) (wXM : xtB K CXM gXM "n" = true) (xXM : ∃ nm q N bs bm sn sub ab col dd k0 k1 k2 k3 k5, K.lookup CXM = some (excClassObj nm q CXM N bs bm true sn sub ab col dd k0 k1 k2 k3 k5 "ValueError.__new__") ∧ PySem.HandSPX.refsVE bm = true) (aXB : PySem.W.nsIn K mainGlobals "BadSetting" = some (some (.ref CXB))) (iXB : PySem.W.findIn K (.ref CXB) "__init__" = some (some (.ref gXB))) (lXB : ∃ fd, Fun K "__init__" "BadSetting.__init__" sIB gXB fd) (wXB : xtB K CXB gXB "index" = true) (xXB : ∃ nm q N bs bm sn sub ab col dd k0 k1 k2 k3 k5, K.lookup CXB = some (excClassObj nm q CXB N bs bm true sn sub ab col dd k0 k1 k2 k3 k5 "ValueError.__new__") ∧ PySem.HandSPX.refsVE bm = true) (aXG : PySem.W.nsIn K mainGlobals "NoSign" = some (some (.ref CXG))) (iXG : PySem.W.findIn K (.ref CXG) "__init__" = some (some (.ref gXG))) (lXG : ∃ fd, Fun K "__init__" "NoSign.__init__" sIG gXG fd) (wXG : xtB K CXG gXG "name" = true) (xXG : ∃ nm q N bs bm sn sub ab col dd k0 k1 k2 k3 k5, K.lookup CXG = some (excClassObj nm q CXG N bs bm true sn sub ab col dd k0 k1 k2 k3 k5 "ValueError.__new__") ∧ PySem.HandSPX.refsVE bm = true)
    (aZ : PySem.W.nsIn K mainGlobals "law" = some (some (.ref fZ))) (lZ : ∃ (oc kV doc pm ct : Value) (od an : Option Addr) (osl : Array (Option Value)), K.lookup fZ = some ⟨oc, od, .func (PySem.W.fnOf "law" "law" (defArgs sLaw) (defBody sLaw) (defScope sLaw) .none kV doc pm an (.ref cO) ct), osl⟩) (cZ : PySem.W.codeIn K (.ref cO) "law" = true) (TB : TabB base mg cO Pt) :
    ∃ fd, (∀ (s : Shared) (u : Value), BindsTo s fd ⟨[u], []⟩ [("_law_script", u)]) ∧ FnG P w K mg base 10 fa fd ["_law_script"] (spLaw3 K [(Pt, qL3)]) := by
  have fz := freeB_ok fr X G
  have z_int : mg "int" = none := fz _ (by unfold frees; decide +kernel)
  have z_len : mg "len" = none := fz _ (by unfold frees; decide +kernel)
  have z_repr : mg "repr" = none := fz _ (by unfold frees; decide +kernel)
  have z_range : mg "range" = none := fz _ (by unfold frees; decide +kernel)
  have z_list : mg "list" = none := fz _ (by unfold frees; decide +kernel)
  have z_tuple : mg "tuple" = none := fz _ (by unfold frees; decide +kernel)
  have z_isinstance : mg "isinstance" = none := fz _ (by unfold frees; decide +kernel)
  have z_str : mg "str" = none := fz _ (by unfold frees; decide +kernel)
  have z_all : mg "all" = none := fz _ (by unfold frees; decide +kernel)
  have z_any : mg "any" = none := fz _ (by unfold frees; decide +kernel)
  have z_enumerate : mg "enumerate" = none := fz _ (by unfold frees; decide +kernel)
  have z_sorted : mg "sorted" = none := fz _ (by unfold frees; decide +kernel)
  have z_set : mg "set" = none := fz _ (by unfold frees; decide +kernel)
  obtain ⟨tL, rfl⟩ := eL
  obtain ⟨tM, rfl⟩ := eM
  obtain ⟨tT, rfl⟩ := eT
  have mT : ∃ t, mg "MOST_SIGNS" = some (.int 6 t) := ⟨_, PySem.W.mg_of X G aT⟩
  have mL : ∃ t, mg "LETTERS" = some (.str letters t) := ⟨_, PySem.W.mg_of X G aL⟩
  have mM : ∃ t, mg "MOST_LETTERS" = some (.int 8 t) := ⟨_, PySem.W.mg_of X G aM⟩
  obtain ⟨aD_, fdD, FD⟩ := dD
  have mD := PySem.W.mg_of X G aD_
  have bD := FD.binds (ps := ["_law_stream", "_law_many"]) fun _ _ _ _ _ _ us hl => match us, hl with | [_, _], _ => rfl
  obtain ⟨aP_, fdP, FP⟩ := dP
  have mP := PySem.W.mg_of X G aP_
  have bP := FP.binds (ps := ["_law_stream", "_law_things"]) fun _ _ _ _ _ _ us hl => match us, hl with | [_, _], _ => rfl
  obtain ⟨aM_, fdM, FM⟩ := dM
  have mM_ := PySem.W.mg_of X G aM_
  have bM := FM.binds (ps := ["_law_stream", "_law_things"]) fun _ _ _ _ _ _ us hl => match us, hl with | [_, _], _ => rfl
  obtain ⟨aS_, fdS, FS⟩ := dS
  have mS := PySem.W.mg_of X G aS_
  have bS := FS.binds (ps := ["_law_found", "_law_due_here"]) fun _ _ _ _ _ _ us hl => match us, hl with | [_, _], _ => rfl
  obtain ⟨aF_, fdF, FF⟩ := dF
  have mF := PySem.W.mg_of X G aF_
  have bF := FF.binds (ps := ["_law_stream", "_law_taken"]) fun _ _ _ _ _ _ us hl => match us, hl with | [_, _], _ => rfl
  obtain ⟨aN_, fdN, FN⟩ := dN
  have mN := PySem.W.mg_of X G aN_
  have bN := FN.binds (ps := ["_law_stream", "_law_many"]) fun _ _ _ _ _ _ us hl => match us, hl with | [_, _], _ => rfl
  obtain ⟨aA_, fdA, FA⟩ := dA
  have mA := PySem.W.mg_of X G aA_
  have bA := FA.binds (ps := ["_law_names_here"]) fun _ _ _ _ _ _ us hl => match us, hl with | [_], _ => rfl
  obtain ⟨aNg_, fdNg, FNg⟩ := dNg
  have mNg := PySem.W.mg_of X G aNg_
  have bNg := FNg.binds (ps := ["_law_one"]) fun _ _ _ _ _ _ us hl => match us, hl with | [_], _ => rfl
  obtain ⟨aBr_, fdBr, FBr⟩ := dBr
  have mBr := PySem.W.mg_of X G aBr_
  have bBr := FBr.binds (ps := ["_law_one"]) fun _ _ _ _ _ _ us hl => match us, hl with | [_], _ => rfl
  obtain ⟨aHf_, fdHf, FHf⟩ := dHf
  have mHf := PySem.W.mg_of X G aHf_
  have bHf := FHf.binds (ps := ["_law_stream", "_law_names_here"]) fun _ _ _ _ _ _ us hl => match us, hl with | [_, _], _ => rfl
  obtain ⟨aSd_, fdSd, FSd⟩ := dSd
  have mSd := PySem.W.mg_of X G aSd_
  have bSd := FSd.binds (ps := ["_law_stream", "_law_names_here"]) fun _ _ _ _ _ _ us hl => match us, hl with | [_, _], _ => rfl
  obtain ⟨aOd_, fdOd, FOd⟩ := dOd
  have mOd := PySem.W.mg_of X G aOd_
  have bOd := FOd.binds (ps := ["_law_stream", "_law_names_here"]) fun _ _ _ _ _ _ us hl => match us, hl with | [_, _], _ => rfl
  obtain ⟨aLn_, fdLn, FLn⟩ := dLn
  have mLn := PySem.W.mg_of X G aLn_
  have bLn := FLn.binds (ps := ["_law_thing"]) fun _ _ _ _ _ _ us hl => match us, hl with | [_], _ => rfl
  obtain ⟨aFb_, fdFb, FFb⟩ := dFb
  have mFb := PySem.W.mg_of X G aFb_
  have bFb := FFb.binds (ps := ["_law_things"]) fun _ _ _ _ _ _ us hl => match us, hl with | [_], _ => rfl
  obtain ⟨aFo_, fdFo, FFo⟩ := dFo
  have mFo := PySem.W.mg_of X G aFo_
  have bFo := FFo.binds (ps := ["_law_thing", "_law_names_here"]) fun _ _ _ _ _ _ us hl => match us, hl with | [_, _], _ => rfl
  obtain ⟨aSp_, fdSp, FSp⟩ := dSp
  have mSp := PySem.W.mg_of X G aSp_
  have bSp := FSp.binds (ps := ["_law_stream", "_law_setting", "_law_names_here"]) fun _ _ _ _ _ _ us hl => match us, hl with | [_, _, _], _ => rfl
  obtain ⟨aEn_, fdEn, FEn⟩ := dEn
  have mEn := PySem.W.mg_of X G aEn_
  have bEn := FEn.binds (ps := ["_law_ask"]) fun _ _ _ _ _ _ us hl => match us, hl with | [_], _ => rfl
  obtain ⟨aDu_, fdDu, FDu⟩ := dDu
  have mDu := PySem.W.mg_of X G aDu_
  have bDu := FDu.binds (ps := ["_law_signs", "_law_settings"]) fun _ _ _ _ _ _ us hl => match us, hl with | [_, _], _ => rfl
  obtain ⟨ai_, fdi, Fi⟩ := di
  have mi := PySem.W.mg_of X G ai_
  have bi := Fi.binds (ps := ["thing"]) fun _ _ _ _ _ _ us hl => match us, hl with | [_], _ => rfl
  obtain ⟨an_, fdn, Fn⟩ := dn
  have mn := PySem.W.mg_of X G an_
  have bn := Fn.binds (ps := ["literal"]) fun _ _ _ _ _ _ us hl => match us, hl with | [_], _ => rfl
  obtain ⟨al_, fdl, Fl⟩ := dl
  have ml := PySem.W.mg_of X G al_
  have bl := Fl.binds (ps := ["names"]) fun _ _ _ _ _ _ us hl => match us, hl with | [_], _ => rfl
  obtain ⟨ap_, fdp, Fp⟩ := dp
  have mp := PySem.W.mg_of X G ap_
  have bp := Fp.binds (ps := ["names"]) fun _ _ _ _ _ _ us hl => match us, hl with | [_], _ => rfl
  obtain ⟨av_, fdv, Fv⟩ := dv
  have mv := PySem.W.mg_of X G av_
  have bv := Fv.binds (ps := ["places", "literals"]) fun _ _ _ _ _ _ us hl => match us, hl with | [_, _], _ => rfl
  obtain ⟨at_, fdt, Ft⟩ := dt
  have mt := PySem.W.mg_of X G at_
  have bt := Ft.binds (ps := ["thing"]) fun _ _ _ _ _ _ us hl => match us, hl with | [_], _ => rfl
  obtain ⟨aw_, fdw, Fw⟩ := dw
  have mw := PySem.W.mg_of X G aw_
  have bw := Fw.binds (ps := ["places", "things"]) fun _ _ _ _ _ _ us hl => match us, hl with | [_, _], _ => rfl
  obtain ⟨ac_, fdc, Fc⟩ := dc
  have mc := PySem.W.mg_of X G ac_
  have bc := Fc.binds (ps := ["places", "thing"]) fun _ _ _ _ _ _ us hl => match us, hl with | [_, _], _ => rfl
  obtain ⟨ak_, fdk, Fk⟩ := dk
  have mk := PySem.W.mg_of X G ak_
  have bk := Fk.binds (ps := ["places", "thing"]) fun _ _ _ _ _ _ us hl => match us, hl with | [_, _], _ => rfl
  obtain ⟨as_, fds, Fs⟩ := ds
  have ms := PySem.W.mg_of X G as_
  have bs := Fs.binds (ps := ["names"]) fun _ _ _ _ _ _ us hl => match us, hl with | [_], _ => rfl
  obtain ⟨au_, fdu, Fu⟩ := du
  have mu := PySem.W.mg_of X G au_
  have bu := Fu.binds (ps := ["names"]) fun _ _ _ _ _ _ us hl => match us, hl with | [_], _ => rfl
  obtain ⟨acs_, fdcs, Fcs⟩ := dcs
  have mcs := PySem.W.mg_of X G acs_
  have bcs := Fcs.binds (ps := ["places", "setting"]) fun _ _ _ _ _ _ us hl => match us, hl with | [_, _], _ => rfl
  obtain ⟨aks_, fdks, Fks⟩ := dks
  have mks := PySem.W.mg_of X G aks_
  have bks := Fks.binds (ps := ["rule", "name"]) fun _ _ _ _ _ _ us hl => match us, hl with | [_, _], _ => rfl
  obtain ⟨hd0, H0⟩ := l0
  have tq0 := fnB_ok n0
  have bq0 := H0.binds (ps := ["self", "signs", "settings"]) fun _ _ _ _ _ _ us hl => match us, hl with | [_, _, _], _ => rfl
  obtain ⟨hd2, H2⟩ := l2
  have tq2 := fnB_ok n2
  have bq2 := H2.binds (ps := ["self"]) fun _ _ _ _ _ _ us hl => match us, hl with | [_], _ => rfl
  obtain ⟨hd3, H3⟩ := l3
  have tq3 := fnB_ok n3
  have bq3 := H3.binds (ps := ["self", "setting"]) fun _ _ _ _ _ _ us hl => match us, hl with | [_, _], _ => rfl
  obtain ⟨hd8, H8⟩ := l8
  have tq8 := fnB_ok n8
  have bq8 := H8.binds (ps := ["self", "name"]) fun _ _ _ _ _ _ us hl => match us, hl with | [_, _], _ => rfl
  obtain ⟨hdc, Hc⟩ := lc
  have tqc := fnB_ok nc
  have bqc := Hc.binds (ps := ["self", "name"]) fun _ _ _ _ _ _ us hl => match us, hl with | [_, _], _ => rfl
  obtain ⟨fdXN, FXN⟩ := lXN
  have bXN := FXN.binds (ps := ["self", "index"]) fun _ _ _ _ _ _ us hl => match us, hl with | [_, _], _ => rfl
  have TXN : XT K mg "BadNames" "index" CXN gXN := xtB_ok wXN xXN (PySem.W.mg_of X G aXN)
  obtain ⟨fdXM, FXM⟩ := lXM
  have bXM := FXM.binds (ps := ["self", "n"]) fun _ _ _ _ _ _ us hl => match us, hl with | [_, _], _ => rfl
  have TXM : XT K mg "TooMany" "n" CXM gXM := xtB_ok wXM xXM (PySem.W.mg_of X G aXM)
  obtain ⟨fdXB, FXB⟩ := lXB
  have bXB := FXB.binds (ps := ["self", "index"]) fun _ _ _ _ _ _ us hl => match us, hl with | [_, _], _ => rfl
  have TXB : XT K mg "BadSetting" "index" CXB gXB := xtB_ok wXB xXB (PySem.W.mg_of X G aXB)
  obtain ⟨fdXG, FXG⟩ := lXG
  have bXG := FXG.binds (ps := ["self", "name"]) fun _ _ _ _ _ _ us hl => match us, hl with | [_, _], _ => rfl
  have TXG : XT K mg "NoSign" "name" CXG gXG := xtB_ok wXG xXG (PySem.W.mg_of X G aXG)
  have TO : OT K mg O := otB_ok wO (PySem.W.mg_of X G aO)
  obtain ⟨fdNN, FNN⟩ := lN
  obtain ⟨c1, c2, c3, c4⟩ := clB_ok cC
  have CI := isB_ok cI
  have MK := mkB_ok cM tq0
  obtain ⟨r1, r2, r3, r4⟩ := rgB_ok cR
  have T : RTxt K mg C := ⟨c1, c2, c3, c4, PySem.W.mg_of X G aC, z_tuple, z_list, z_len⟩
  have mNN := PySem.W.mg_of X G aN
  obtain ⟨dsN, vN, bNN⟩ := FNN.short (ps := ["things", "taken"]) 1 rfl fun T kV doc pm an cdv ct us its h1 h2 => match us, h1, its, h2 with | [_], _, [_], _ => ⟨_, rfl, rfl⟩
  have GD : FnOk P w K mg base CX0 1 fD fdD _ spDraw := ok_draw FD z_int
  have GP := ok_pickL FP GD mD FD.kp bD z_len
  have GM := ok_mixed FM GD mD FD.kp bD z_len z_range z_list
  have GSp : FnG P w K mg base 1 fS fdS _ (spSameP K) := ok_sameP FS z_repr
  have GSq : FnG P w K mg base 1 fS fdS _ (spSame K) := ok_same FS z_repr
  have GF := ok_fresh FF GD mD FD.kp bD GP mP FP.kp bP z_range z_int
  have GN := ok_names FN GF mF FF.kp bF z_range
  have GA : FnOk P w K mg base CX0 1 fA fdA _ (spFulls K) := ok_fulls FA
  have GNg : FnOk P w K mg base CX0 1 fNg fdNg _ spOpp := ok_neg FNg
  have GBr : FnOk P w K mg base CX0 1 fBr fdBr _ spBareX := ok_bareX FBr
  have GHf := ok_half FHf GD mD FD.kp bD GM mM_ FM.kp bM
  have GSd := ok_sided FSd GD mD FD.kp bD GM mM_ FM.kp bM
  have GOd := ok_odd FOd GP mP FP.kp bP
  have GLn : FnOk P w K mg base CX0 1 fLn fdLn _ spNameX := ok_lisName FLn z_isinstance z_str z_len z_all
  have GFb := ok_firstBad FFb GLn mLn FLn.kp bLn z_enumerate
  have GFo := ok_firstOdd FFo GBr mBr FBr.kp bBr z_enumerate z_isinstance z_str z_list z_tuple
  have GSpo := ok_spoiled FSp GD mD FD.kp bD GP mP FP.kp bP GOd mOd FOd.kp bOd GNg mNg FNg.kp bNg z_len z_list z_tuple
  have GDu := ok_due FDu GFb mFb FFb.kp bFb GFo mFo FFo.kp bFo z_len z_enumerate
  have Gi : FnOk P w K mg base CX0 1 fi fdi _ spIsName := ok_isName Fi z_isinstance z_str z_len z_all mL mM
  have GiX : FnOk P w K mg base CX0 1 fi fdi _ spNameX := ok_isNameX Fi z_isinstance z_str z_len z_all mL mM
  have Gn : FnOk P w K mg base CX0 1 fn fdn _ spNameOf := ok_nameOf Fn
  have Gl : FnOk P w K mg base CX0 1 fl fdl _ (spLits K) := ok_lits Fl
  have Gp := ok_places Fp Gl ml Fl.kp bl z_enumerate
  have Gv : FnOk P w K mg base CX0 1 fv fdv _ (spInOrder K) := ok_inOrder Fv z_tuple z_sorted z_int
  have Gt : FnOk P w K mg base CX0 1 ft fdt _ (spIsList K) := ok_isList Ft z_isinstance z_list z_tuple
  have GE := ok_chkNames FNN Gi mi Fi.kp bi z_enumerate
  have Gw := ok_wrong Fw Gn mn Fn.kp bn z_enumerate z_isinstance z_str
  have GwX := ok_wrongX Fw Gn mn Fn.kp bn z_enumerate z_isinstance z_str (K := K)
  have Gc := ok_isClause Fc Gt mt Ft.kp bt Gw mw Fw.kp bw
  have Gk := ok_isFull Fk z_len Gc mc Fc.kp bc
  have Gs : FnOk P w K mg base CX0 1 fs fds _ (spFS K) := ok_fs Fs
  have Gu : FnOk P w K mg base CX0 1 fu fdu _ (spChkCount K) := ok_chkCount Fu z_len mT
  have GI := ok_init H0 T z_enumerate GE mNN FNN.fn.kp FNN.e0 vN bNN Gu mu Fu.kp bu Gp mp Fp.kp bp Gk mk Fk.kp bk Gv mv Fv.kp bv Gs ms Fs.kp bs
  have G2 : FnOk P w K mg base CX0 1 g2 hd2 _ (spSettings K C) := ok_settings H2 T
  have GJN : FnOk P w K mg base CX0 1 gXN fdXN _ (spI1 K "index") := ok_iN FXN TO
  have GJM : FnOk P w K mg base CX0 1 gXM fdXM _ (spI1 K "n") := ok_iM FXM TO
  have GJB : FnOk P w K mg base CX0 1 gXB fdXB _ (spI1 K "index") := ok_iB FXB TO
  have GJG : FnOk P w K mg base CX0 1 gXG fdXG _ (spI1 K "name") := ok_iG FXG TO
  have GEX := ok_chkX FNN TXN GJN bXN GiX mi Fi.kp bi z_enumerate
  have Gbig := ok_big Fu z_len mT TXM GJM bXM
  have Gcs := ok_chkSetX Fcs TXB GJB bXB Gt mt Ft.kp bt GwX mw Fw.kp bw
  have Gks := ok_chkSignX Fks T TXG GJG bXG
  have GIN := ok_initN (C := C) H0 GEX mNN FNN.fn.kp FNN.e0 vN bNN
  have GIM := ok_initM (C := C) H0 GE mNN FNN.fn.kp FNN.e0 vN bNN Gbig mu Fu.kp bu
  have GIS := ok_initS (C := C) H0 z_enumerate GE mNN FNN.fn.kp FNN.e0 vN bNN Gu mu Fu.kp bu Gp mp Fp.kp bp Gk mk Fk.kp bk TXB GJB bXB
  have GX : FnOk P w K mg base (L2.CX P w) 5 g0 hd0 psInit (spAll K C CXN CXM CXB) := fn_or (fn_calm GI) (fn_or (GIN.mono (by decide)) (fn_or (GIM.mono (by decide)) GIS))
  have G3 := ok_forcedX H3 T Gcs mcs Fcs.kp bcs
  have G8 := ok_turnedX H8 Gks mks Fks.kp bks
  have Gc2 := ok_subX Hc Gks mks Fks.kp bks
  have lw : LW3 P w K mg base C CXN CXM CXB CXG := {
    T := T
    CI := CI
    kit := r3
    self1 := r1
    subro := r2
    right := r4
    range := z_range
    isi := z_isinstance
    draw := ⟨_, _, GD, mD, FD.kp, bD⟩
    pick := ⟨_, _, GP, mP, FP.kp, bP⟩
    names := ⟨_, _, GN, mN, FN.kp, bN⟩
    fulls := ⟨_, _, GA, mA, FA.kp, bA⟩
    half := ⟨_, _, GHf, mHf, FHf.kp, bHf⟩
    sided := ⟨_, _, GSd, mSd, FSd.kp, bSd⟩
    spoiled := ⟨_, _, GSpo, mSp, FSp.kp, bSp⟩
    firstOdd := ⟨_, _, GFo, mFo, FFo.kp, bFo⟩
    due := ⟨_, _, GDu, mDu, FDu.kp, bDu⟩
    sameP := ⟨_, _, GSp, mS, FS.kp, bS⟩
    same := ⟨_, _, GSq, mS, FS.kp, bS⟩
    end_ := ⟨_, _, FEn, mEn, bEn⟩
    tn := ⟨_, TXN⟩
    tm := ⟨_, TXM⟩
    tb := ⟨_, TXB⟩
    tg := ⟨_, TXG⟩
    ex := exsB_ok cX
    make := ⟨_, _, MK, GI, GX, bq0⟩
    forced := ⟨_, _, G3, tq3, bq3⟩
    turned := ⟨_, _, G8, tq8, bq8⟩
    sub := ⟨_, _, Gc2, tqc.at_, tqc.fn, bqc⟩
    settings := ⟨_, _, G2, tq2, bq2⟩ }
  have mZ := PySem.W.mg_of X G aZ
  have eZ := hfa.symm.trans mZ
  cases eZ
  obtain ⟨oc, kV, doc, pm, ct, od, an, osl, lk⟩ := lZ
  refine ⟨_, fun s u => ?_, fun vs H Q E h => ?_, fun A outer s H args us vs Q E hg hr e0 hb r hsp => run_ofS lk cZ scLaw3 hr e0 hb r ?_ fun hr' => ?_⟩
  · exact .of_eq rfl
  · obtain ⟨a, ns, rfl, _⟩ := h
    rfl
  · obtain ⟨a, ns, rfl, _⟩ := hsp
    rfl
  · obtain ⟨a, ns, rfl, hA, hn, hT, k⟩ := hsp
    obtain ⟨tt, p, kk⟩ := law_body (f := fa) (A := A) (outer := outer) (s0 := s) (HH := H) (E := E) lw TB hg hr'
    exact ⟨tt, p.nox, kk _ a ns H hA hn hT k⟩
end
end K6
open PySem PySem.W PyProof.Rows
set_option maxRecDepth 100000 in
set_option maxHeartbeats 0 in
theorem PySem.Challenge.cw_lastopen_k03_rules_refused_holds : PySem.Challenge.rw_lastopen_k03_rules_refused.Holds := by
  w_on; o_law; k_head; (case hw => w_witness2)
  k_fill
  refine' K6.walk3 (l := PySem.Challenge.rw_lastopen_k03_rules_refused) (cO := _) (Pt := 448) rfl rfl (fun w h Y => ⟨PySem.W.km_in_of Y, PySem.W.km_tabs_of Y 448 (by decide)⟩) ?hP ?hC ?F
  case F =>
    intro w mg fa h base KX G hmg TB
    refine' K6.all_tx KX G hmg ?fr ?aL ?eL ?aM ?eM ?aT ?eT ?dD ?dP ?dM ?dS ?dF ?dN ?dA ?dNg ?dBr ?dHf ?dSd ?dOd ?dLn ?dFb ?dFo ?dSp ?dEn ?dDu ?di ?dn ?dl ?dp ?dv ?dt ?dw ?dc ?dk ?ds ?du ?dcs ?dks ?aC ?aN ?lN ?i0 ?n0 ?l0 ?i2 ?n2 ?l2 ?i3 ?n3 ?l3 ?i8 ?n8 ?l8 ?ic ?nc ?lc ?cC ?cI ?cM ?cR ?cX ?aO ?wO ?aXN ?iXN ?lXN ?wXN ?xXN ?aXM ?iXM ?lXM ?wXM ?xXM ?aXB ?iXB ?lXB ?wXB ?xXB ?aXG ?iXG ?lXG ?wXG ?xXG ?aZ ?lZ ?cZ TB
    (case aZ => k_is); (case aL => k_is); (case aM => k_is); (case aT => k_is)
    (case eL => exact ⟨_, rfl⟩); (case eM => exact ⟨_, rfl⟩); (case eT => exact ⟨_, rfl⟩)
    (case dD => refine' ⟨?uaD, _, L2.fun_mk ?ulD ?ucD ?ukD⟩; (case uaD => k_is); (case ulD => k_is); (case ucD => k_is); (case ukD => k_is))
    (case dP => refine' ⟨?uaP, _, L2.fun_mk ?ulP ?ucP ?ukP⟩; (case uaP => k_is); (case ulP => k_is); (case ucP => k_is); (case ukP => k_is))
    (case dM => refine' ⟨?uaM, _, L2.fun_mk ?ulM ?ucM ?ukM⟩; (case uaM => k_is); (case ulM => k_is); (case ucM => k_is); (case ukM => k_is))
    (case dS => refine' ⟨?uaS, _, L2.fun_mk ?ulS ?ucS ?ukS⟩; (case uaS => k_is); (case ulS => k_is); (case ucS => k_is); (case ukS => k_is))
    (case dF => refine' ⟨?uaF, _, L2.fun_mk ?ulF ?ucF ?ukF⟩; (case uaF => k_is); (case ulF => k_is); (case ucF => k_is); (case ukF => k_is))
    (case dN => refine' ⟨?uaN, _, L2.fun_mk ?ulN ?ucN ?ukN⟩; (case uaN => k_is); (case ulN => k_is); (case ucN => k_is); (case ukN => k_is))
    (case dA => refine' ⟨?uaA, _, L2.fun_mk ?ulA ?ucA ?ukA⟩; (case uaA => k_is); (case ulA => k_is); (case ucA => k_is); (case ukA => k_is))
    (case dNg => refine' ⟨?uaNg, _, L2.fun_mk ?ulNg ?ucNg ?ukNg⟩; (case uaNg => k_is); (case ulNg => k_is); (case ucNg => k_is); (case ukNg => k_is))
    (case dBr => refine' ⟨?uaBr, _, L2.fun_mk ?ulBr ?ucBr ?ukBr⟩; (case uaBr => k_is); (case ulBr => k_is); (case ucBr => k_is); (case ukBr => k_is))
    (case dHf => refine' ⟨?uaHf, _, L2.fun_mk ?ulHf ?ucHf ?ukHf⟩; (case uaHf => k_is); (case ulHf => k_is); (case ucHf => k_is); (case ukHf => k_is))
    (case dSd => refine' ⟨?uaSd, _, L2.fun_mk ?ulSd ?ucSd ?ukSd⟩; (case uaSd => k_is); (case ulSd => k_is); (case ucSd => k_is); (case ukSd => k_is))
    (case dOd => refine' ⟨?uaOd, _, L2.fun_mk ?ulOd ?ucOd ?ukOd⟩; (case uaOd => k_is); (case ulOd => k_is); (case ucOd => k_is); (case ukOd => k_is))
    (case dLn => refine' ⟨?uaLn, _, L2.fun_mk ?ulLn ?ucLn ?ukLn⟩; (case uaLn => k_is); (case ulLn => k_is); (case ucLn => k_is); (case ukLn => k_is))
    (case dFb => refine' ⟨?uaFb, _, L2.fun_mk ?ulFb ?ucFb ?ukFb⟩; (case uaFb => k_is); (case ulFb => k_is); (case ucFb => k_is); (case ukFb => k_is))
    (case dFo => refine' ⟨?uaFo, _, L2.fun_mk ?ulFo ?ucFo ?ukFo⟩; (case uaFo => k_is); (case ulFo => k_is); (case ucFo => k_is); (case ukFo => k_is))
    (case dSp => refine' ⟨?uaSp, _, L2.fun_mk ?ulSp ?ucSp ?ukSp⟩; (case uaSp => k_is); (case ulSp => k_is); (case ucSp => k_is); (case ukSp => k_is))
    (case dEn => refine' ⟨?uaEn, _, L2.fun_mk ?ulEn ?ucEn ?ukEn⟩; (case uaEn => k_is); (case ulEn => k_is); (case ucEn => k_is); (case ukEn => k_is))
    (case dDu => refine' ⟨?uaDu, _, L2.fun_mk ?ulDu ?ucDu ?ukDu⟩; (case uaDu => k_is); (case ulDu => k_is); (case ucDu => k_is); (case ukDu => k_is))
    (case di => refine' ⟨?uai, _, L2.fun_mk ?uli ?uci ?uki⟩; (case uai => k_is); (case uli => k_is); (case uci => k_is); (case uki => k_is))
    (case dn => refine' ⟨?uan, _, L2.fun_mk ?uln ?ucn ?ukn⟩; (case uan => k_is); (case uln => k_is); (case ucn => k_is); (case ukn => k_is))
    (case dl => refine' ⟨?ual, _, L2.fun_mk ?ull ?ucl ?ukl⟩; (case ual => k_is); (case ull => k_is); (case ucl => k_is); (case ukl => k_is))
    (case dp => refine' ⟨?uap, _, L2.fun_mk ?ulp ?ucp ?ukp⟩; (case uap => k_is); (case ulp => k_is); (case ucp => k_is); (case ukp => k_is))
    (case dv => refine' ⟨?uav, _, L2.fun_mk ?ulv ?ucv ?ukv⟩; (case uav => k_is); (case ulv => k_is); (case ucv => k_is); (case ukv => k_is))
    (case dt => refine' ⟨?uat, _, L2.fun_mk ?ult ?uct ?ukt⟩; (case uat => k_is); (case ult => k_is); (case uct => k_is); (case ukt => k_is))
    (case dw => refine' ⟨?uaw, _, L2.fun_mk ?ulw ?ucw ?ukw⟩; (case uaw => k_is); (case ulw => k_is); (case ucw => k_is); (case ukw => k_is))
    (case dc => refine' ⟨?uac, _, L2.fun_mk ?ulc ?ucc ?ukc⟩; (case uac => k_is); (case ulc => k_is); (case ucc => k_is); (case ukc => k_is))
    (case dk => refine' ⟨?uak, _, L2.fun_mk ?ulk ?uck ?ukk⟩; (case uak => k_is); (case ulk => k_is); (case uck => k_is); (case ukk => k_is))
    (case ds => refine' ⟨?uas, _, L2.fun_mk ?uls ?ucs ?uks⟩; (case uas => k_is); (case uls => k_is); (case ucs => k_is); (case uks => k_is))
    (case du => refine' ⟨?uau, _, L2.fun_mk ?ulu ?ucu ?uku⟩; (case uau => k_is); (case ulu => k_is); (case ucu => k_is); (case uku => k_is))
    (case dcs => refine' ⟨?uacs, _, L2.fun_mk ?ulcs ?uccs ?ukcs⟩; (case uacs => k_is); (case ulcs => k_is); (case uccs => k_is); (case ukcs => k_is))
    (case dks => refine' ⟨?uaks, _, L2.fun_mk ?ulks ?ucks ?ukks⟩; (case uaks => k_is); (case ulks => k_is); (case ucks => k_is); (case ukks => k_is))
    (case aC => k_is); (case aN => k_is); (case aO => k_is)
    (case lN => refine' ⟨_, EV.funE_mk ?xlN ?xcN ?xkN ?xTN ?xdN ?xAN ?xbN ?xeN⟩; (case xlN => k_is); (case xcN => k_is); (case xkN => k_is); (case xTN => k_is); (case xdN => exact rfl); (case xAN => k_is); (case xbN => exact rfl); (case xeN => exact rfl))
    (case i0 => k_is)
    (case l0 => refine' ⟨_, L2.fun_mk ?vl0 ?vc0 ?vk0⟩; (case vl0 => k_is); (case vc0 => k_is); (case vk0 => k_is))
    (case i2 => k_is)
    (case l2 => refine' ⟨_, L2.fun_mk ?vl2 ?vc2 ?vk2⟩; (case vl2 => k_is); (case vc2 => k_is); (case vk2 => k_is))
    (case i3 => k_is)
    (case l3 => refine' ⟨_, L2.fun_mk ?vl3 ?vc3 ?vk3⟩; (case vl3 => k_is); (case vc3 => k_is); (case vk3 => k_is))
    (case i8 => k_is)
    (case l8 => refine' ⟨_, L2.fun_mk ?vl8 ?vc8 ?vk8⟩; (case vl8 => k_is); (case vc8 => k_is); (case vk8 => k_is))
    (case ic => k_is)
    (case lc => refine' ⟨_, L2.fun_mk ?vlc ?vcc ?vkc⟩; (case vlc => k_is); (case vcc => k_is); (case vkc => k_is))
    (case aXN => k_is); (case iXN => k_is)
    (case lXN => refine' ⟨_, L2.fun_mk ?vlXN ?vcXN ?vkXN⟩; (case vlXN => k_is); (case vcXN => k_is); (case vkXN => k_is))
    (case xXN => refine' K6.exc_mk ?wpXN ?wrXN; (case wpXN => k_is); (case wrXN => first | rfl | decide +kernel))
    (case aXM => k_is); (case iXM => k_is)
    (case lXM => refine' ⟨_, L2.fun_mk ?vlXM ?vcXM ?vkXM⟩; (case vlXM => k_is); (case vcXM => k_is); (case vkXM => k_is))
    (case xXM => refine' K6.exc_mk ?wpXM ?wrXM; (case wpXM => k_is); (case wrXM => first | rfl | decide +kernel))
    (case aXB => k_is); (case iXB => k_is)
    (case lXB => refine' ⟨_, L2.fun_mk ?vlXB ?vcXB ?vkXB⟩; (case vlXB => k_is); (case vcXB => k_is); (case vkXB => k_is))
    (case xXB => refine' K6.exc_mk ?wpXB ?wrXB; (case wpXB => k_is); (case wrXB => first | rfl | decide +kernel))
    (case aXG => k_is); (case iXG => k_is)
    (case lXG => refine' ⟨_, L2.fun_mk ?vlXG ?vcXG ?vkXG⟩; (case vlXG => k_is); (case vcXG => k_is); (case vkXG => k_is))
    (case xXG => refine' K6.exc_mk ?wpXG ?wrXG; (case wpXG => k_is); (case wrXG => first | rfl | decide +kernel))
    (case lZ => refine' K6.law_mk ?ulZ; (case ulZ => k_is))
    (case cZ => k_is)
    (case fr => kernel_rfl)
    (case n0 => kernel_rfl)
    (case n2 => kernel_rfl)
    (case n3 => kernel_rfl)
    (case n8 => kernel_rfl)
    (case nc => kernel_rfl)
    (case cC => kernel_rfl)
    (case cI => kernel_rfl)
    (case cM => kernel_rfl)
    (case cR => kernel_rfl)
    (case cX => kernel_rfl)
    (case wO => kernel_rfl)
    (case wXN => kernel_rfl)
    (case wXM => kernel_rfl)
    (case wXB => kernel_rfl)
    (case wXG => kernel_rfl)
  case hP => intro w; kernel_rfl
  case hC => intro w h X; exact PySem.W.codeHd_of_K X (by kernel_rfl)
