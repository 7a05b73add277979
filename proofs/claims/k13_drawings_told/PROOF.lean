import PyProof.Rows.All
import Wide.All
import OpenK.AllK
import Wide.FinOn
import KE.KLam
import HandS.ForMost
import HandS.Exc
import HandS.ExcOwn
import HandS.TryOnly
import HandS.WordsExc
import HandS.ExcInit
import HandS.ExcIs
import HandS.ExcField
import HandS.IsInst
import HandS.ClsMeth
import HandS.Defaults
import HandS.MakeKw
import HandS.Nested
import HandS.SetFor
import HandS.Flow
import HandS.ExcValue
import PyProof.ReprRoads
import PyProof.ReprBulk
import PyProof.StrLawsRepr
import PyProof.EqKinds
import HandS.Lambda
import HandS.EndBits
import HandS.EndTab
import HandS.DictComp
import HandS.Walk
import KE.GoesMore
import PyProof.EnumMake
import PyProof.Draws
import PySem.Challenge.RW_lastopen_k13_drawings_told
import HandS.Conv
import HandS.Star
import HandS.SetKeys
import HandS.TupLen
import HandS.OwnEq
import HandS.StrMore
import HandS.Codes
import HandS.Style
import HandS.TupAny
import HandS.NoneIn
import HandS.Deep
import HandS.SortInts
import HandS.Words
import HandS.Strs
import HandS.Set
import HandS.More
import PyProof.NeKinds
import KE.BitLaws
import HandS.WideBits
import HandS.WordsDict
set_option Elab.async false
set_option linter.all false
set_option maxRecDepth 100000
set_option maxHeartbeats 4000000
/-! Errors of classes of one's own as values: made by place and by name, asked by isinstance, their fields read. -/
namespace PySem
namespace EK
open PySem.W PySem.Calls PyProof.Rows PySem.HandSPX
section
variable {M : Model} {prog : Program} {w : World} {A : Around} {E : Value → Shared → Prop} {R : Result → Shared → Prop} {h : Heap} {g : Array GenState} {d : Drawn} {t : Nat} {os : OsState}
variable {nm q : Str} {C N : Addr} {bs bm bmB : List Value} {hdct : Bool} {sn : List Str} {sub : List Value} {ab : Bool} {col : Option Bool} {dd : Option Addr} {k0 k1 k2 k3 k5 : Option Value} {B newId initId : String}
theorem check_new_kw (F : ExcBaseFacts B newId initId bmB) (hT : ∀ X : String, bm.contains (.type X) = bmB.contains (.type X)) {rest : List Value} {kw : List (Str × Value)} {Q : Unit → Shared → Prop}
    (hC : h.get? C = some (excClassObj nm q C N bs bm hdct sn sub ab col dd k0 k1 k2 k3 k5 newId)) (hq : Q () ⟨h, g, d, t, os⟩) : wpAny M A (checkBuiltinCall newId ⟨.ref C :: rest, kw⟩) Q E ⟨h, g, d, t, os⟩ := by
  have hcont : (Value.ref C :: bm).contains (.type B) = true := by rw [List.contains_cons, hT, F.hasB, Bool.or_true]
  have hstar := F.noStar
  simp only [checkBuiltinCall, F.newKind, F.newSplit, F.newRow]
  repeat (first | refine wpAny_loadPart_at hC ?_ | (refine wpAny_isSubtype_exc hC ?_; rw [hcont]) | refine wpAny_staticBase_exc hC ?_ | refine wpAny_madeBy_exc hC ?_ | simp only [bne_self_eq_false, Bool.false_eq_true, if_false] | wp_step)
  exact hq
theorem new_kw (F : ExcBaseFacts B newId initId bmB) (hT : ∀ X : String, bm.contains (.type X) = bmB.contains (.type X)) {rest : List Value} {kw : List (Str × Value)}
    (hC : h.get? C = some (excClassObj nm q C N bs bm hdct sn sub ab col dd k0 k1 k2 k3 k5 newId))
    (hq : R (.ok (.ret (.ref (h.objs.size + 1)))) ⟨(h.push { cls := .type "tuple", data := .seq rest.toArray }).push
      { cls := .ref C, data := .fields #[.ref h.objs.size, .none, .none, .none, .bool false, .none] }, g, d, t, os⟩) (hrest : rest.length ≤ sizeLine) :
    codeAny (model prog w) A (.builtin newId ⟨.ref C :: rest, kw⟩) R ⟨h, g, d, t, os⟩ := by
  have hends := F.ends
  have hcB : (Value.ref C :: bm).contains (.type B) = true := by rw [List.contains_cons, hT, F.hasB, Bool.or_true]
  have hcA : (Value.ref C :: bm).contains (.type "AttributeError") = false := by rw [List.contains_cons, hT, F.noAttr]; rfl
  have hcN : (Value.ref C :: bm).contains (.type "NameError") = false := by rw [List.contains_cons, hT, F.noName]; rfl
  refine codeAny_builtinAt F.entry ?_
  unfold Builtin.«BaseException.__new__»
  refine wpAt_bind ?_
  show wpAt _ _ _ (stack >>= _) _ _ _
  refine wpAt_bind (wpAt_stack fun p below => wpAt_of_wpAny ?_)
  wp_walk
  refine wpAt_of_wpAny ?_
  rw [F.owner]
  repeat (first | with_reducible refine wpAny_madeHere_exc F.canon hC ?_ | with_reducible refine wpAny_loadPart_at hC ?_ | (with_reducible refine wpAny_isSubtype_exc hC ?_; first | rw [hcB] | rw [hcA] | rw [hcN]) | wp_step)
  show R _ _
  rw [Heap.size_push]
  exact hq
theorem type_call_kw (F : ExcBaseFacts B newId initId bmB) (hT : ∀ X : String, bm.contains (.type X) = bmB.contains (.type X)) {rest : List Value} {kw : List (Str × Value)} {fI : Addr} {Q : Fin → Shared → Prop}
    (hC : h.get? C = some (excClassObj nm q C N bs bm hdct sn sub ab col dd k0 k1 k2 k3 k5 newId))
    (hi : W.Looks (model prog w) h (typeLookup (.ref C) "__init__") (some (.ref fI))) (hb : ∀ self, W.Looks (model prog w) h (bindSpecial (.ref fI) self) (.ref fI, [self])) (hrest : rest.length ≤ sizeLine)
    (hq : codeAny (model prog w) A (.call (.ref fI) ⟨.ref (h.objs.size + 1) :: rest, kw⟩)
      (fun r s' => match r with | .ok (.ret v) => v = .none ∧ Q (.done (.ret (.ref (h.objs.size + 1)))) s' | .ok _ => False | .error e => E e s')
      ⟨(h.push (W.kdv_tup rest)).push (excO C h.objs.size), g, d, t, os⟩) :
    wpAny (model prog w) A (Builtin.«type.__call__» ⟨.ref C :: rest, kw⟩) Q E ⟨h, g, d, t, os⟩ := by
  repeat (first | with_reducible refine wpAny_loadPart_at hC ?_ | with_reducible refine wpAny_madeBy_exc hC ?_ | wp_step)
  refine codeAny_call_builtin_code (Code.quiet_builtin _ F.quiet) (check_new_kw F hT hC ?_)
  refine new_kw F hT hC ?_ hrest
  show wpAny _ _ _ _ _ _
  have k : ∀ b o, h.get? b = some o → ((h.push (W.kdv_tup rest)).push (excO C h.objs.size)).get? b = some o := fun b o e => Heap.get?_push_of_some _ (Heap.get?_push_of_some _ e)
  have hC₁ := k _ _ hC
  have hget : ((h.push (W.kdv_tup rest)).push (excO C h.objs.size)).get? (h.objs.size + 1) = some (excO C h.objs.size) := by heap_get
  have hcC : (Value.ref C :: bm).contains (.ref C) = true := by simp
  have i1 := hi.keeps k
  have b1 := (hb (.ref (h.objs.size + 1))).keeps k
  unfold isInstance
  repeat (first | with_reducible refine wpAny_loadPart_at hget ?_ | (with_reducible refine wpAny_isSubtype_exc hC₁ ?_; rw [hcC]) | wp_step)
  show wpAny _ _ (typeLookup (.ref C) _) _ _ _
  refine i1.at ?_
  refine wpAny_holding (wpAny_bind (b1.at ?_))
  refine wpAny_bind (wpAny_call (codeAny_mono hq fun r s' z => ?_))
  rcases r with e | (v | _ | _ | _) <;> first | exact z | exact z.elim | skip
  obtain ⟨rfl, z⟩ := z
  first
    | exact wpAny_pure (wpAny_pure z)
    | (wp_walk; exact z)
theorem check_type_kw {rest : List Value} {kw : List (Str × Value)} {Q : Unit → Shared → Prop} (hC : h.get? C = some (excClassObj nm q C N bs bm hdct sn sub ab col dd k0 k1 k2 k3 k5 newId))
    (hq : Q () ⟨h, g, d, t, os⟩) : wpAny M A (checkBuiltinCall "type.__call__" ⟨.ref C :: rest, kw⟩) Q E ⟨h, g, d, t, os⟩ := by
  have f3 := tc_sub
  have hT : (⟨h, g, d, t, os⟩ : Shared).TypeIs (.ref C) "type" := ⟨_, hC, rfl⟩
  simp only [checkBuiltinCall, tc_kind, tc_split]
  repeat (any_goals (first | assumption | with_reducible refine wpAny_loadPart_at hC ?_ | with_reducible refine wpAny_onRaise ?_ | with_reducible refine wpAny_map ?_ | wp_step))
theorem call_kw (F : ExcBaseFacts B newId initId bmB) (hT : ∀ X : String, bm.contains (.type X) = bmB.contains (.type X)) {rest : List Value} {kw : List (Str × Value)} {fI : Addr}
    (hC : h.get? C = some (excClassObj nm q C N bs bm hdct sn sub ab col dd k0 k1 k2 k3 k5 newId))
    (hi : W.Looks (model prog w) h (typeLookup (.ref C) "__init__") (some (.ref fI))) (hb : ∀ self, W.Looks (model prog w) h (bindSpecial (.ref fI) self) (.ref fI, [self])) (hrest : rest.length ≤ sizeLine)
    (hq : codeAny (model prog w) (A.under (.builtin "type.__call__" ⟨.ref C :: rest, kw⟩)) (.call (.ref fI) ⟨.ref (h.objs.size + 1) :: rest, kw⟩) (W.InitBack (h.objs.size + 1) R)
      ⟨(h.push (W.kdv_tup rest)).push (excO C h.objs.size), g, d, t, os⟩) :
    codeAny (model prog w) A (.call (.ref C) ⟨rest, kw⟩) R ⟨h, g, d, t, os⟩ := by
  have f1 := tc_lookup
  have f2 := tc_bind (.ref C)
  have hTy : (⟨h, g, d, t, os⟩ : Shared).TypeIs (.ref C) "type" := ⟨_, hC, rfl⟩
  refine codeAny_of_tree ?_
  show wpAny _ _ (callAny (.ref C) _) _ _ _
  repeat (any_goals (first | assumption | with_reducible refine wpAny_loadPart_at hC ?_ | wp_step))
  refine ⟨rfl, ?_⟩
  refine codeAny_call_builtin_at (Code.quiet_builtin _ (by decide +kernel)) entry_typeCall (check_type_kw hC (type_call_kw F hT hC hi hb hrest ?_))
  refine codeAny_mono hq fun r s' z => ?_
  rcases r with e | (v | _ | _ | _) <;> exact z
end
end EK
end PySem
namespace PySem.W
open PySem PySem.Spec PySem.Calls PyProof.Rows
section
variable {prog : Program} {w : World} {A : Around} {E : Value → Shared → Prop} {s : Shared} {K : Frag} {x D : Addr} {ox : Obj} {od : Option Obj}
theorem find_dataN {C : Addr} {name : Str} {a g : Value} (hc : (clsIn K C).isSome = true) (ha : findIn K (.ref C) name = some (some a)) (hg : specialIn K a "__get__" = some (some g)) (ht : takesIn K a = some true) : findObj K C od name = some (.bind g a) := by
  obtain ⟨cd, hc⟩ := Option.isSome_iff_exists.mp hc
  unfold findObj
  rw [hc, Option.bind_some, ha, Option.bind_some]
  simp [hg, ht]
theorem kin_classEd {Q : Option Value → Shared → Prop} (hga : findIn K (.ref D) "__getattribute__" = some (some (.builtin "BaseException.__getattribute__"))) (hgt : findIn K (.ref D) "__getattr__" = some none) (hsub : subIn K (.ref D) (.type "BaseException") = some true)
    (hdct : hasDictIn K D = true) (ha : findIn K (.ref D) "__class__" = some (some (.builtin "object.__class__")))
    (hn : specialIn K (.builtin "object.__class__") "__get__" = some (some (.builtin "getset_descriptor.__get__"))) (htk : takesIn K (.builtin "object.__class__") = some true) (hm : mroIn K D (.type "object") = some true)
    (X : K.In s.heap) (I : InstAt s.heap x ox D od) (h : Q (some (.ref D)) { s with toks := s.toks + 1 }) : wpAny (model prog w) A (getAttr? (.ref x) "__class__") Q E s := by
  have hf : findObj K D od "__class__" = some (.bind (.builtin "getset_descriptor.__get__") (.builtin "object.__class__")) := find_dataN (by obtain ⟨cd, hc, _⟩ := any_some hdct; rw [hc]; rfl) ha hn htk
  obtain ⟨hp, g, d, t, os⟩ := s
  have L0 := I.type (M := model prog w)
  have L1 := looks_findIn (M := model prog w) X hga
  have L2 := looks_findIn (M := model prog w) X hgt
  have L3 := looks_find (M := model prog w) X I hf
  have sub : Looks (model prog w) hp (isInstance (.ref x) (.type "BaseException")) true := L0.andThen (looks_subIn X hsub)
  have hx0 : (false && onTheHeap (Value.builtin "BaseException.__getattribute__")) = false := rfl
  have hx2 : (Value.builtin "BaseException.__getattribute__" == Value.builtin "object.__getattribute__") = false := by decide +kernel
  have hx1 : (onTheHeap (Value.ref D) && Value.builtin "BaseException.__getattribute__" == Value.builtin "object.__getattribute__") = false := by rw [hx2]; rfl
  unfold getAttr? getAttrBy? getAttrBy
  refine wpAny_bind (wpAny_mkText (wpAny_bind (wpAny_attempt (wpAny_holding (wpAny_bind (L0.at (wpAny_bind (L1.at ?_))))))))
  show wpAny _ _ (if (onTheHeap (Value.ref D) && Value.builtin "BaseException.__getattribute__" == Value.builtin "object.__getattribute__") = true then _ else _) _ _ _
  rw [hx1, if_neg Bool.false_ne_true]
  unfold getAttrByItsOwn hookBefore
  refine wpAny_bind ?_
  rw [if_pos (show onTheHeap (Value.ref D) = true from rfl)]
  refine L2.at ?_
  refine wpAny_bind (wpAny_attempt (wpAny_holding ?_))
  unfold callGetattribute
  rw [hx0, if_neg Bool.false_ne_true]
  unfold boundAndCalled
  rw [PySem.F.excAttr_ValueError.ga.bind (.ref x)]
  refine wpAny_bind (wpAny_pure ?_)
  show wpAny _ _ (call (.builtin "BaseException.__getattribute__") [.ref x, .str "__class__" t]) _ _ _
  refine wpAny_call (codeAny_call_builtin PySem.F.excAttr_ValueError.ga.plain PySem.F.entry_bexc_ga ?_)
  refine @check_slot (model prog w) _ _ ⟨hp, g, d, t + 1, os⟩ "BaseException.__getattribute__" "BaseException" "__getattribute__" (.ref x) [.str "__class__" t] [] _ (by decide +kernel) (by decide +kernel) sub (PySem.F.args_bexc_ga (.ref x) (.str "__class__" t)) ?_
  unfold Builtin.«object.__getattribute__»
  refine wpAny_bind (wpAny_of_eq (a := ((Value.ref x : Value), [Value.str "__class__" t])) (by first | rfl | (simp only [slotArgs]; rfl)) ?_)
  refine wpAny_bind (wpAny_pure (wpAny_bind (L0.at (wpAny_bind (L3.at ?_)))))
  show wpAny _ _ (holding [Value.builtin "object.__class__"] (call (.builtin "getset_descriptor.__get__") [.builtin "object.__class__", .ref x, .ref D]) >>= ret) _ _ _
  refine wpAny_bind (wpAny_holding (wpAny_call (class_get (s := ⟨hp, g, d, t + 1, os⟩) (ox := ox) (od := od) X I hm ?_)))
  refine wpAny_pure ?_
  show wpAny _ _ (handedOut (.ref D)) _ _ _
  rw [handedOut_of (v := .ref D) rfl]
  first
    | exact wpAny_pure (wpAny_pure h)
    | exact wpAny_pure h
    | exact wpAny_pure (wpAny_bind (wpAny_pure (wpAny_pure h)))
theorem kitx_excd (hga : findIn K (.ref D) "__getattribute__" = some (some (.builtin "BaseException.__getattribute__"))) (hgt : findIn K (.ref D) "__getattr__" = some none) (hsub : subIn K (.ref D) (.type "BaseException") = some true) (hdct : hasDictIn K D = true) (ha : findIn K (.ref D) "__class__" = some (some (.builtin "object.__class__")))
    (hn : specialIn K (.builtin "object.__class__") "__get__" = some (some (.builtin "getset_descriptor.__get__"))) (htk : takesIn K (.builtin "object.__class__") = some true) (hm : mroIn K D (.type "object") = some true) :
    KitX K (.ref x) (.ref D) (fun h => ∃ ox od, InstAt h x ox D od) where
  ty := fun _ _ _ ⟨_, _, I⟩ => I.type
  it := fun _ _ X _ => by
    obtain ⟨cdD, hcD, _⟩ := any_some hdct
    unfold clsIn at hcD
    split at hcD
    · rename_i c' d' cd' sl' ho
      intro A' Q' E' s' k q
      unfold isType loadHead
      exact wpAny_bind (wpAny_loadPart (k _ _ (X _ _ ho)) (wpAny_pure q))
    · cases hcD
  ne := fun h tp dd its n sl X htp => by
    obtain ⟨cdD, hcD, _⟩ := any_some hdct
    refine Bool.eq_false_iff.mpr fun q => ?_
    have e : D = tp := Value.ref.inj (beq_iff_eq.mp q)
    subst e
    unfold clsIn at hcD
    split at hcD
    · rename_i c' d' cd' sl' ho
      have z := (X _ _ ho).symm.trans htp
      cases z
    · cases hcD
  ca := fun X ⟨_, _, I⟩ k => kin_classEd hga hgt hsub hdct ha hn htk hm X I k
end
end PySem.W

namespace EV
open PySem PySem.Spec PyProof.Rows L2
/-- an error of the class at C with the fields fs stands at a -/
def ErrAt (H : Hp) (a C : Addr) (fs : List (Str × V)) : Prop := (fs = [] ∧ H a = some (exo a C none)) ∨ ∃ dx, H a = some (exo a C (some dx)) ∧ H dx = some (exd dx fs)
theorem ErrAt.of_same {H H' : Hp} {a C : Addr} {fs : List (Str × V)} (e : ErrAt H a C fs) (k : ∀ b o, H b = some o → H' b = some o) : ErrAt H' a C fs := by
  rcases e with ⟨h1, h2⟩ | ⟨dx, h1, h2⟩
  · exact .inl ⟨h1, k _ _ h2⟩
  · exact .inr ⟨dx, k _ _ h1, k _ _ h2⟩
section
variable {X : Cx} {pins : List (Addr × Obj)} {σ : L2.St} {H : Hp} {s : Shared}
theorem ErrAt.inst (I : Inv X pins σ H s) {a C : Addr} {fs : List (Str × V)} (e : ErrAt H a C fs) : ∃ ox od, PySem.W.InstAt s.heap a ox C od ∧ ∀ f, RelO (fs.lookup f) ((od.bind fun o => PySem.W.lookIn f o).join) := by
  rcases e with ⟨rfl, h⟩ | ⟨dx, h1, h2⟩
  · obtain ⟨t1, ho⟩ := exo_at I.hok h
    exact ⟨_, none, ⟨ho, rfl, rfl, trivial⟩, fun f => trivial⟩
  · obtain ⟨t1, ho⟩ := exo_at I.hok h1
    obtain ⟨mA, hns, hr⟩ := exd_at I.hok h2
    obtain ⟨od, hod, hl⟩ := lookIn_ns hns
    refine ⟨_, some od, ⟨ho, rfl, rfl, hod⟩, fun f => ?_⟩
    show RelO (fs.lookup f) (PySem.W.lookIn f od).join
    rw [hl f]
    exact hr f
end
/-! ### the field of an error that is a value -/
def tEf (K : PySem.W.Frag) (f : Str) (te : TE) : TE := fun σ H Q => te σ H fun x H1 => ∃ (a C dx : Addr) (fs : List (Str × V)) (v : V), x = .ref a ∧ XfC K C ∧ PySem.W.findIn K (.ref C) f = some none ∧ H1 a = some (exo a C (some dx)) ∧ H1 dx = some (exd dx fs) ∧ fs.lookup f = some v ∧ Q v H1
theorem pe_ef {X : Cx} {e : Expr} {te : TE} {pos : Pos} {n : Str} (he : PE X e te) (hb : attributeBase e n X.env (eval e X.env) = eval e X.env := by rfl) : PE X (.Attribute e n pos) (tEf X.K n te) := by
  refine ⟨fun pins s σ H Q I h => ?_⟩
  refine attr_of hb (thn (he.run pins s σ H _ I h) fun u s1 hh => ?_)
  obtain ⟨x, H1, I1, rx, a, C, dx, fs, v, ex, T, hno, h1, h2, l, q⟩ := hh
  subst ex
  obtain rfl : u = Value.ref a := rx
  obtain ⟨t1, ho⟩ := exo_at I1.hok h1
  obtain ⟨mA, hns, hr⟩ := exd_at I1.hok h2
  obtain ⟨od, hod, hl⟩ := lookIn_ns hns
  obtain ⟨u, hu, ru⟩ := RelO.some_of (v := v) (o := mA n) (by rw [← l]; exact hr n)
  have J : PySem.W.InstAt s1.heap a _ C (some od) := ⟨ho, rfl, rfl, hod⟩
  exact HandSPX.exc_get I1.kIn J T.ga T.gg T.exC (PySem.W.findObj_own T.hdC hno rfl (by rw [hl, hu])) (handed_of ru) ⟨v, H1, I1.tok _, ru, q⟩
/-! ### isinstance of it -/
def rIsX (K : PySem.W.Frag) : List V → Hp → VK → Prop := fun xs H Q => ∃ (a D : Addr) (fs : List (Str × V)) (c : V) (cv : Value) (b : Bool), xs = [.ref a, c] ∧ ErrAt H a D fs ∧ ClsV c cv ∧ ExcC K D ∧ PySem.W.kitOne K (.ref D) cv = some b ∧ Q (.bl b) H
theorem call_isX {X : Cx} : CallR X (.builtin "isinstance") (rIsX X.K) := by
  intro pins s σ H xs us Q I r h
  obtain ⟨a, D, fs, c, cv, b, rfl, ea, k, C, e, q⟩ := h
  obtain ⟨u1, u2, rfl, r1, r2⟩ := vals2 r
  have e2 := k.eq r2
  subst e2
  cases (show u1 = Value.ref a from r1)
  obtain ⟨ox, od, J, _⟩ := ea.inst I
  exact PySem.W.kia_one (PySem.W.kitx_excd C.hg C.hk C.hs C.hd C.ha C.hn C.ht C.hm) I.kIn ⟨_, _, J⟩ e (fun z => nomatch z) fun tk => ⟨.bl b, H, I.tok tk, rfl, q⟩
/-! ### made -/
section
variable {X : Cx} {CX : CXT} {k : Nat} {C fI : Addr} {fd : FuncData} {ps : List Str} {sp : Sp} {E : XK} {x : Str} {p pos : Pos} {e : Expr} {es : List Expr} {ta : TA}
theorem run_mkE {pins : List (Addr × Obj)} {σ : L2.St} {H : Hp} {s : Shared} {Q : VK} {us ws : List Value} {kw : List (Str × Value)} {zs : List V} (T : OexC X.K C) (iC : PySem.W.findIn X.K (.ref C) "__init__" = some (some (.ref fI))) (tI : PySem.W.typeIn X.K (.ref fI) = some (.type "function"))
    (F : FnOk X.prog X.w X.K X.mg X.base CX k fI fd ps sp) (hr : Room (k + 1) X.A) (hx : Passes CX X E) (I : Inv X pins σ H s) (hus : us.length ≤ 1000)
    (bt : ∀ (s' : Shared) (self : Value), X.K.In s'.heap → (self :: ws).length = ps.length → BindsTo s' fd ⟨self :: us, kw⟩ (ps.zip (self :: ws))) (r : Vals zs ws)
    (h : ∀ a, H a = none → sp (.ref a :: zs) (upd H a (exo a C none)) (fun v H2 => v = .non ∧ Q (.ref a) H2) E) :
    wpAny (model X.prog X.w) X.A (call (.ref C) us kw) (EP X pins σ Q) X.xe s := by
  obtain ⟨nm, q, N, bs, bm, sn, sub, ab, col, dd, k0, k1, k2, k3, k5, hC, hbm⟩ := T.cls
  obtain ⟨hp, g, dr, tk, os⟩ := s
  have hsz : hp.objs.size ≤ hp.objs.size + 1 := Nat.le_succ _
  have hn : H (hp.objs.size + 1) = none := I.hok.fresh hsz
  have hq := h (hp.objs.size + 1) hn
  have kk : ∀ b o, hp.get? b = some o → ((hp.push (PySem.W.kdv_tup us)).push (PySem.HandSPX.excO C hp.objs.size)).get? b = some o := fun b o e => Heap.get?_push_of_some _ (Heap.get?_push_of_some _ e)
  have hget : ((hp.push (PySem.W.kdv_tup us)).push (PySem.HandSPX.excO C hp.objs.size)).get? (hp.objs.size + 1) = some (PySem.HandSPX.excO C hp.objs.size) := by heap_get
  have I2 : Inv X pins σ (upd H (hp.objs.size + 1) (exo (hp.objs.size + 1) C none)) ⟨(hp.push (PySem.W.kdv_tup us)).push (PySem.HandSPX.excO C hp.objs.size), g, dr, tk, os⟩ :=
    I.laid (t' := tk) (a := hp.objs.size + 1) (o := exo (hp.objs.size + 1) C none) (h' := (hp.push (PySem.W.kdv_tup us)).push (PySem.HandSPX.excO C hp.objs.size)) kk hsz (exo_ok hget)
  have r2 : Vals (V.ref (hp.objs.size + 1) :: zs) (Value.ref (hp.objs.size + 1) :: ws) := .cons rfl r
  have hl : (Value.ref (hp.objs.size + 1) :: ws).length = ps.length := by
    have e := r2.length
    rw [F.len _ _ _ _ hq] at e
    exact e.symm
  have hus2 : us.length ≤ sizeLine := by
    rw [sizeLine_eq]
    omega
  refine wpAny_call (PySem.EK.call_kw PySem.F.excBase_ValueError (fun Y => PySem.HandSPX.refsVE_contains Y bm hbm) (I.kIn _ _ hC) (PySem.W.looks_findIn I.kIn iC) (fun self => PySem.W.bind_fn I.kIn self tI) hus2
    (codeAny_mono (F.run _ X.stack _ _ ⟨Value.ref (hp.objs.size + 1) :: us, kw⟩ (Value.ref (hp.objs.size + 1) :: ws) _ _ E (hr.make C us kw) (I2.env0.make C us kw) (bt _ _ I2.kIn hl) r2 hq) fun r s' hq' => ?_))
  cases r with
  | error er => exact hx pins σ _ _ er s' I2 hq'
  | ok fl =>
    cases fl with
    | ret u =>
      obtain ⟨v, H', I3, rv, ev, q3⟩ := I2.after hq'
      subst ev
      exact ⟨rv, ⟨V.ref (hp.objs.size + 1), H', I3, rfl, q3⟩⟩
    | next => exact False.elim hq'
    | brk => exact False.elim hq'
    | cont => exact False.elim hq'
/-- C(e, ..) and C(), the error as a value; C's own __init__ keeps sp -/
def tMkE (C : Addr) (sp : Sp) (E : XK) (ta : TA) : TE := fun σ H Q => ta σ H fun vs H1 => vs.length ≤ 1000 ∧ ∀ a, H1 a = none → sp (.ref a :: vs) (upd H1 a (exo a C none)) (fun v H2 => v = .non ∧ Q (.ref a) H2) E
/-- C(k = v, ..) -/
def tMkEk (C : Addr) (m : Nat) (sp : Sp) (E : XK) (gV : List V → List V) (tk : TA) : TE := fun σ H Q => tk σ H fun zs H1 => zs.length = m ∧ ∀ a, H1 a = none → sp (.ref a :: gV zs) (upd H1 a (exo a C none)) (fun v H2 => v = .non ∧ Q (.ref a) H2) E
theorem pe_mkE (T : OexC X.K C) (iC : PySem.W.findIn X.K (.ref C) "__init__" = some (some (.ref fI))) (tI : PySem.W.typeIn X.K (.ref fI) = some (.type "function")) (F : FnOk X.prog X.w X.K X.mg X.base CX k fI fd ps sp) (hr : Room (k + 1) X.A) (hb : Binds X.K fd ps []) (hx : Passes CX X E)
    (hg : Gl X x) (hm : X.mg x = some (.ref C)) (ha : PA X (e :: es) ta)
    (hdb : (x == ("__debug__" : Str)) = false := by decide) (he : starEach (e :: es) X.env = (false, eval e X.env) :: starEach es X.env := by rfl) (hpl : (backTo pos (starEach es X.env)).any (·.1) = false := by rfl) :
    PE X (.Call (.Name x p) (e :: es) [] pos) (tMkE C sp E ta) := by
  refine ⟨fun pins s σ H Q I h => ?_⟩
  refine wpAny_Call_Name_kw (ld_glob I hg hm ?_ hdb)
  refine PySem.W.callWith_K (h₀ := X.base) I.ok.mod.kin T.kC (thn (ha.run pos pins s σ H _ I h) fun us s1 ⟨vs, H1, I1, r1, hz, q1⟩ => ⟨I1.kIn, ?_⟩) he hpl
  refine run_mkE (ws := us) T iC tI F hr hx I1 (by show us.length ≤ 1000; rw [← r1.length]; exact hz) (fun s' self hk hl => ?_) r1 q1
  have z := hb s' (self :: us) hk (by rw [List.append_nil]; exact hl)
  rw [List.append_nil] at z
  exact z
theorem pe_mkE0 (T : OexC X.K C) (iC : PySem.W.findIn X.K (.ref C) "__init__" = some (some (.ref fI))) (tI : PySem.W.typeIn X.K (.ref fI) = some (.type "function")) (F : FnOk X.prog X.w X.K X.mg X.base CX k fI fd ps sp) (hr : Room (k + 1) X.A) (hb : Binds X.K fd ps []) (hx : Passes CX X E)
    (hg : Gl X x) (hm : X.mg x = some (.ref C)) (hdb : (x == ("__debug__" : Str)) = false := by decide) :
    PE X (.Call (.Name x p) [] [] pos) (tMkE C sp E tNil) := by
  refine ⟨fun pins s σ H Q I h => ?_⟩
  refine wpAny_Call_Name_kw (ld_glob I hg hm ?_ hdb)
  obtain ⟨_, h⟩ := (show ([] : List V).length ≤ 1000 ∧ _ from h)
  refine PySem.W.callWith_K0 I.kIn T.kC (run_mkE (us := []) (ws := []) (kw := []) T iC tI F hr hx I (by decide) (fun s' self hk hl => ?_) .nil h)
  have z := hb s' [self] hk hl
  exact z
theorem pe_mkEk {ks : List Str} {g : List Value → List Value} {gV : List V → List V} {kws : List Keyword} {tk : TA} (T : OexC X.K C) (iC : PySem.W.findIn X.K (.ref C) "__init__" = some (some (.ref fI))) (tI : PySem.W.typeIn X.K (.ref fI) = some (.type "function"))
    (F : FnOk X.prog X.w X.K X.mg X.base CX k fI fd ps sp) (hr : Room (k + 1) X.A) (hx : Passes CX X E)
    (hb : ∀ (s' : Shared) (self : Value) (ws : List Value), ws.length = ks.length → BindsTo s' fd ⟨[self], ks.zip ws⟩ (ps.zip (self :: g ws))) (hrel : ∀ {zs : List V} {ws : List Value}, Vals zs ws → zs.length = ks.length → Vals (gV zs) (g ws))
    (hg : Gl X x) (hm : X.mg x = some (.ref C)) (hkw : PK X kws tk)
    (hall : (backToKw pos (keywordEach kws X.env)).all (·.1.isSome) = true := by rfl) (hks : (backToKw pos (keywordEach kws X.env)).filterMap (·.1) = ks := by rfl) (hdb : (x == ("__debug__" : Str)) = false := by decide)
    (hpl : ((backTo pos (starEach [] X.env)).any (·.1) || (backToKw pos (keywordEach kws X.env)).any (·.1.isNone)) = false := by rfl) :
    PE X (.Call (.Name x p) [] kws pos) (tMkEk C ks.length sp E gV tk) := by
  refine ⟨fun pins s σ H Q I h => ?_⟩
  refine wpAny_Call_Name_kw (ld_glob I hg hm ?_ hdb)
  refine PySem.W.callWith_KW0 (h₀ := X.base) I.ok.mod.kin T.kC hall ?_ hpl
  refine thn (hkw.run pos pins s σ H _ I h) fun ws s2 ⟨zs, H2, I2, rz, l2, q2⟩ => ⟨I2.kIn, ?_⟩
  rw [hks]
  exact run_mkE (us := []) T iC tI F hr hx I2 (by decide) (fun s' self hk hl => hb s' self ws (by rw [← rz.length]; exact l2)) (hrel rz l2) q2
/-- an error class without an __init__ of its own, made with nothing -/
theorem pe_exc0 {bmB : List Value} {B newId initId : String} (F : ExcBaseFacts B newId initId bmB) (q : PySem.W.excIn X.K C bmB newId = true) (hm : X.mg x = some (.ref C)) (kC : PySem.W.keepIn X.K (.ref C) = true) (hg : Gl X x) (hdb : (x == ("__debug__" : Str)) = false := by decide) :
    PE X (.Call (.Name x p) [] [] pos) (fun σ H Q => ∀ a, H a = none → Q (.ref a) (upd H a (exo a C none))) := by
  refine ⟨fun pins s σ H Q I h => ?_⟩
  refine wpAny_Call_Name_kw (ld_glob I hg hm ?_ hdb)
  refine PySem.W.callWith_K0 I.kIn kC ?_
  obtain ⟨bm, N, nm, qn, bs, hdct, sn, sub, ab, col, dd, k0, k1, k2, k3, k5, mN, hC, hN, hni, T⟩ := exc_obj I.kIn q
  refine wpAny_call_exc_subT F T hC hN hni (fun h' a hm => ?_) (by show 0 ≤ sizeLine; exact Nat.zero_le _)
  have hn : H a = none := I.hok.gone hm.new
  obtain ⟨t, ht, _, _⟩ := hm.there
  exact ⟨.ref a, upd H a (exo a C none), I.laidN hm.keeps hm.new hn (exo_ok ht), rfl, h a hn⟩
/-- Base.__init__(self, ..), Base an own error class without an __init__ of its own -/
theorem pe_binit {pl : Sem Bool} {O : Addr} {p1 p2 : Pos} (r : ClX.CRead X.K O (.type "type")) (vV : PySem.W.findCls X.K (.ref O) (.type "type") "__init__" = some (.val (.builtin "ValueError.__init__"))) (hg : Gl X x) (hm : X.mg x = some (.ref O)) (ha : PA X (e :: es) ta)
    (hdb : (x == ("__debug__" : Str)) = false := by decide)
    (hc : eval (.Call (.Attribute (.Name x p1) "__init__" p2) (e :: es) [] pos) X.env = (do
      let ov ← eval (.Name x p1) X.env
      standAt p2.atName
      let (f, first) ← holding [ov] (getMethod ov "__init__" pl)
      callWith pos f first (backTo pos (starEach (e :: es) X.env)) (backToKw pos (keywordEach [] X.env))) := by rfl)
    (he : starEach (e :: es) X.env = (false, eval e X.env) :: starEach es X.env := by rfl) (hpl : (backTo pos (starEach es X.env)).any (·.1) = false := by rfl) :
    PE X (.Call (.Attribute (.Name x p1) "__init__" p2) (e :: es) [] pos) (tVeI X.K ta) := by
  refine ⟨fun pins s σ H Q I h => ?_⟩
  refine PySem.W.methodCall_KW (ld_glob I hg hm ?_ hdb) hc
  refine PySem.W.method_cls I.kIn r.ga (PySem.W.cls_value I.kIn r.rd vV (by decide +kernel) ?_)
  show wpAny _ _ (callWith pos (Value.builtin "ValueError.__init__") [] (backTo pos (starEach (e :: es) X.env)) []) _ _ _
  refine PyProof.Rows.callWith_method1 (thn (ha.run pos pins _ σ H _ (I.tok _) h) fun us s1 ⟨vs, H1, I1, r1, a, C, ws, ev, hl, T, ea, q⟩ => ?_) he hpl
  subst ev
  cases r1 with
  | @cons _ u0 _ ur ra rw' =>
    obtain rfl : u0 = Value.ref a := ra
    have hlen : ur.length ≤ sizeLine := by
      rw [← Paired.length rw', sizeLine_eq]
      omega
    exact oinit_ok T I1 ea hlen fun s' J => ⟨.non, H1, J, rfl, q⟩
end
end EV
namespace EV
open PySem PySem.Spec PyProof.Rows L2
/-! ### data with dicts, to be shown -/
def keyD : Key → PyData
  | .inl i => .int i
  | .inr x => .str x
mutual
inductive Dq (K : PySem.W.Frag) (H : Hp) : V → PyData → Prop
  | non : Dq K H .non .none
  | bl (b : Bool) : Dq K H (.bl b) (.bool b)
  | int (i : Int) : Dq K H (.int i) (.int i)
  | str (x : Str) : Dq K H (.str x) (.str x)
  | lst {a : Addr} {xs : List V} {ds : List PyData} : SqL K H a xs → a ≠ sysModules → DqAll K H xs ds → Dq K H (.ref a) (.list ds)
  | tup {a : Addr} {xs : List V} {ds : List PyData} : SqT K H a xs → DqAll K H xs ds → Dq K H (.ref a) (.tuple ds)
  | dct {a : Addr} {kvs : List (Key × V)} {ds : List PyData} : H a = some (.dK kvs) → DqAll K H (kvs.map (·.2)) ds → Dq K H (.ref a) (.dict ((kvs.map fun p => keyD p.1).zip ds))
inductive DqAll (K : PySem.W.Frag) (H : Hp) : List V → List PyData → Prop
  | nil : DqAll K H [] []
  | cons {v : V} {vs : List V} {d : PyData} {ds : List PyData} : Dq K H v d → DqAll K H vs ds → DqAll K H (v :: vs) (d :: ds)
end
theorem DqAll.len {K : PySem.W.Frag} {H : Hp} : ∀ {vs : List V} {ds : List PyData}, DqAll K H vs ds → vs.length = ds.length
  | _, _, .nil => rfl
  | _, _, .cons _ t => congrArg Nat.succ (DqAll.len t)
section
variable {X : Cx} {pins : List (Addr × Obj)} {σ : L2.St} {H : Hp} {s : Shared}
theorem keys_read {h : Heap} : ∀ {es : List DictEntry} {vs : List (Key × Value)}, Pairs (mixKind X.prog X.w) es vs → ReadsAll h (es.map (·.key)) (vs.map fun p => keyD p.1) []
  | _, _, .nil => .nil
  | _, _, .cons (e := e) (kv := kv) h1 h2 t => by
    have r := keys_read (h := h) t
    have one : Reads h e.key (keyD kv.1) [] := by
      rcases keyIs_shape (show keyIs kv.1 e.key = true from h1) with ⟨i, tk, e1, e2⟩ | ⟨y, tk, e1, e2⟩
      · rw [e1, e2]
        exact .int i tk
      · rw [e1, e2]
        exact .str y tk
    exact .cons one r
theorem vals_are : ∀ {es : List DictEntry} {vs : List (Key × Value)}, Pairs (mixKind X.prog X.w) es vs → es.map (·.val) = vs.map (·.2)
  | _, _, .nil => rfl
  | _, _, .cons h1 h2 t => by
    rw [List.map_cons, List.map_cons, h2, vals_are t]
theorem kv_vals : ∀ {kvs : List (Key × V)} {vs : List (Key × Value)}, KV kvs vs → Vals (kvs.map (·.2)) (vs.map (·.2))
  | _, _, .nil => .nil
  | _, _, .cons r t => .cons r.2 (kv_vals t)
theorem kv_keys : ∀ {kvs : List (Key × V)} {vs : List (Key × Value)}, KV kvs vs → kvs.map (fun p => keyD p.1) = vs.map (fun p => keyD p.1)
  | _, _, .nil => rfl
  | _, _, .cons r t => by rw [List.map_cons, List.map_cons, r.1, kv_keys t]
theorem zip_fst {α β : Type} : ∀ {l : List α} {m : List β}, l.length = m.length → (l.zip m).map (·.1) = l
  | [], [], _ => rfl
  | a :: l, b :: m, h => by rw [List.zip_cons_cons, List.map_cons, zip_fst (Nat.succ.inj h)]
theorem zip_snd {α β : Type} : ∀ {l : List α} {m : List β}, l.length = m.length → (l.zip m).map (·.2) = m
  | [], [], _ => rfl
  | a :: l, b :: m, h => by rw [List.zip_cons_cons, List.map_cons, zip_snd (Nat.succ.inj h)]
mutual
theorem Dq.reads (I : Inv X pins σ H s) : ∀ {v : V} {d : PyData} {u : Value}, Dq X.K H v d → RelV v u → ∃ as, Reads s.heap u d as ∧ sysModules ∉ as
  | _, _, _, .non, r => by cases r; exact ⟨_, .none, by simp⟩
  | _, _, _, .bl b, r => by cases r; exact ⟨_, .bool b, by simp⟩
  | _, _, _, .int i, r => by obtain ⟨t, rfl⟩ := r; exact ⟨_, .int i t, by simp⟩
  | _, _, _, .str x, r => by obtain ⟨t, rfl⟩ := r; exact ⟨_, .str x t, by simp⟩
  | _, _, _, .lst hs ne ha, r => by
    cases r
    obtain ⟨its, rv, ⟨o, n, ho, hc, _, hd⟩, _⟩ := I.list hs
    obtain ⟨as, hr, hn⟩ := DqAll.reads I ha rv
    refine ⟨_, Reads.list ho hc hd hr, fun z => ?_⟩
    rcases List.mem_cons.mp z with e | e
    · exact ne e.symm
    · exact hn e
  | _, _, _, .tup hs ha, r => by
    cases r
    obtain ⟨its, rv, ⟨o, ho, hc, n, hd⟩, _⟩ := I.tuple hs
    obtain ⟨as, hr, hn⟩ := DqAll.reads I ha rv
    exact ⟨_, Reads.tuple ho hc hd hr, hn⟩
  | _, _, _, .dct (a := a) (kvs := kvs) (ds := ds) he ha, r => by
    cases r
    obtain ⟨_, hsm, vs, kv, o, es, ep, ho, hx, hd, _, hp, _⟩ := (show ObjOk X.prog X.w H s.heap a (.dK kvs) from I.hok a _ he)
    obtain ⟨as, hr, hn⟩ := DqAll.reads I ha (kv_vals kv)
    have hl : (kvs.map fun p => keyD p.1).length = ds.length := by rw [List.length_map, ← ha.len, List.length_map]
    have hk := keys_read (h := s.heap) hp
    refine ⟨_, Reads.dict (as := []) (bs := as) ho hx.1 hd ?_ ?_, fun z => ?_⟩
    · rw [zip_fst hl, kv_keys kv]
      exact hk
    · rw [zip_snd hl, vals_are hp]
      exact hr
    · rcases List.mem_cons.mp z with e | e
      · exact (beq_eq_false_iff_ne.mp hsm) e.symm
      · exact hn e
theorem DqAll.reads (I : Inv X pins σ H s) : ∀ {vs : List V} {ds : List PyData} {us : List Value}, DqAll X.K H vs ds → Vals vs us → ∃ as, ReadsAll s.heap us ds as ∧ sysModules ∉ as
  | _, _, _, .nil, r => by cases r; exact ⟨_, .nil, by simp⟩
  | _, _, _, .cons h1 h2, r => by
    cases r with
    | cons r1 r2 =>
      obtain ⟨as, q1, n1⟩ := Dq.reads I h1 r1
      obtain ⟨bs, q2, n2⟩ := DqAll.reads I h2 r2
      exact ⟨_, .cons q1 q2, fun z => (List.mem_append.mp z).elim n1 n2⟩
end
end
theorem sqT_same {K : PySem.W.Frag} {H H' : Hp} (k : ∀ b o, H b = some o → H' b = some o) {a : Addr} {xs : List V} (h : SqT K H a xs) : SqT K H' a xs := by
  rcases h with (h | ⟨o, h⟩) | h
  · exact .inl (.inl (k _ _ h))
  · exact .inl (.inr ⟨o, k _ _ h⟩)
  · exact .inr h
mutual
theorem Dq.same {K : PySem.W.Frag} {H H' : Hp} (k : ∀ b o, H b = some o → H' b = some o) : ∀ {v : V} {d : PyData}, Dq K H v d → Dq K H' v d
  | _, _, .non => .non
  | _, _, .bl b => .bl b
  | _, _, .int i => .int i
  | _, _, .str x => .str x
  | _, _, .lst hs ne ha => .lst (Same.seq k hs) ne (DqAll.same k ha)
  | _, _, .tup hs ha => .tup (sqT_same k hs) (DqAll.same k ha)
  | _, _, .dct he ha => .dct (k _ _ he) (DqAll.same k ha)
theorem DqAll.same {K : PySem.W.Frag} {H H' : Hp} (k : ∀ b o, H b = some o → H' b = some o) : ∀ {vs : List V} {ds : List PyData}, DqAll K H vs ds → DqAll K H' vs ds
  | _, _, .nil => .nil
  | _, _, .cons h t => .cons (Dq.same k h) (DqAll.same k t)
end
/-! ### repr -/
def rRepr (K : PySem.W.Frag) : List V → Hp → VK → Prop := fun xs H Q => ∃ (x : V) (d : PyData), xs = [x] ∧ Dq K H x d ∧ d.showable = true ∧ d.shown.length ≤ sizeLine ∧ d.depth ≤ 60 ∧ Q (.str d.shown) H
theorem call_reprD {X : Cx} (hg : X.A.guards = some []) (hu : X.A.units + 64 < cLine) : CallR X (.builtin "repr") (rRepr X.K) := by
  intro pins s σ H xs us Q I r h
  obtain ⟨x, d, rfl, hd, hs, hz, hdp, q⟩ := h
  obtain ⟨u, rfl, ru⟩ := r.one
  cases hd with
  | non =>
    cases ru
    exact PySem.P.repr_of_none ⟨.str _, H, I.tok _, ⟨_, rfl⟩, q⟩
  | bl b =>
    cases ru
    refine PySem.P.repr_of_bool ⟨.str _, H, I.tok _, ⟨_, rfl⟩, ?_⟩
    cases b <;> exact q
  | int i =>
    obtain ⟨t, rfl⟩ := ru
    exact PySem.P.repr_of_int (by simpa [PyData.showable] using hs) ⟨.str _, H, I.tok _, ⟨_, rfl⟩, q⟩
  | str y =>
    obtain ⟨t, rfl⟩ := ru
    exact PySem.P.repr_of_str ⟨.str _, H, I.tok _, ⟨_, rfl⟩, q⟩ hz
  | lst h1 h2 h3 =>
    obtain ⟨as, hr, hn⟩ := Dq.reads I (.lst h1 h2 h3) ru
    cases ru
    exact repr_of_reads' hr hs (fun _ => hn) hg (by omega) (fun _ _ e => e) (fun h' u tk k => ⟨.str _, H, I.kept k, ⟨u, rfl⟩, q⟩) hz
  | tup h1 h2 =>
    obtain ⟨as, hr, hn⟩ := Dq.reads I (.tup h1 h2) ru
    cases ru
    exact repr_of_reads' hr hs (fun _ => hn) hg (by omega) (fun _ _ e => e) (fun h' u tk k => ⟨.str _, H, I.kept k, ⟨u, rfl⟩, q⟩) hz
  | dct h1 h2 =>
    obtain ⟨as, hr, hn⟩ := Dq.reads I (.dct h1 h2) ru
    cases ru
    exact repr_of_reads' hr hs (fun _ => hn) hg (by omega) (fun _ _ e => e) (fun h' u tk k => ⟨.str _, H, I.kept k, ⟨u, rfl⟩, q⟩) hz
/-! ### a list display: its place is told to be a new one -/
def tLstB (t : TA) : TE := fun σ H Q => t σ H fun xs H1 => xs.length ≤ sizeLine ∧ ∀ p, H1 p = none → p ≠ sysModules → Q (.ref p) (upd H1 p (.lst xs))
theorem pe_lstB {X : Cx} {es : List Expr} {t : TA} {pos : Pos} (h : PA X es t) : PE X (.List es pos) (tLstB t) := ⟨fun pins s σ H Q I hq =>
  wpAny_List_spliced (thn (h.run pos pins s σ H _ I hq) fun us s1 ⟨xs, H1, I1, r, z, q⟩ => ⟨r.length ▸ z, .ref s1.heap.objs.size, upd H1 s1.heap.objs.size (.lst xs),
    I1.laid (t' := s1.toks) (fun _ _ e => Heap.get?_push_of_some _ e) (Nat.le_refl _) ⟨z, us, 0, r, Heap.get?_push_size _ rfl⟩, rfl, q _ (I1.hok.fresh (Nat.le_refl _)) (Nat.ne_of_gt I1.big)⟩)⟩
/-! ### xs.count(True), xs a list of truth values -/
def isTrueV : Value → Bool
  | .bool b => b
  | _ => false
def rCntT (K : PySem.W.Frag) : V → List V → Hp → VK → Prop := fun x xs H Q => ∃ (p : Addr) (bs : List Bool), x = .ref p ∧ xs = [.bl true] ∧ SqL K H p (bs.map V.bl) ∧ Q (.int (bs.countP id : Nat)) H
theorem true_count : ∀ {bs : List Bool} {us : List Value}, Vals (bs.map V.bl) us → us.countP isTrueV = bs.countP id ∧ ∀ y ∈ us, ∃ b, y = .bool b
  | [], _, r => by cases r; exact ⟨rfl, fun _ h => nomatch h⟩
  | b :: bs, _, r => by
    cases r with
    | cons r1 r2 =>
      cases r1
      obtain ⟨h1, h2⟩ := true_count r2
      refine ⟨?_, fun y hy => ?_⟩
      · rw [List.countP_cons, List.countP_cons, h1] <;> rfl
      · rcases List.mem_cons.mp hy with e | e
        · exact ⟨b, e⟩
        · exact h2 y e
theorem mt_countT {X : Cx} : MtR X "list.count" (rCntT X.K) := by
  intro pins s σ H x xs v us Q I rx rxs h
  obtain ⟨p, bs, rfl, rfl, hs, q⟩ := h
  cases rx
  obtain ⟨u, rfl, ru⟩ := rxs.one
  cases ru
  obtain ⟨its, rv, ⟨⟨cls, dd, data, sl⟩, n, ho, hc, hdn, hd⟩, hlen⟩ := I.list hs
  simp only at hc hd
  subst hc hd
  obtain ⟨ec, eb⟩ := true_count rv
  refine call_meets PySem.F.slot_list_count ⟨_, ho, rfl⟩ PySem.F.entry_list_count (PySem.F.args_list_count_2 _ _)
    (SeqAt.list_countAt p its.toArray n dd sl (.bool true) isTrueV) ⟨ho, fun y hy => ?_, .int (bs.countP id : Nat), H, I.tok _, ⟨s.toks, ?_⟩, q⟩
  · obtain ⟨b, rfl⟩ := eb y (by simpa using hy)
    have z := SeqAt.EqAt.bool_bool (A := X.A.in1) (s := s) b true
    rw [show (b == true) = isTrueV (.bool b) by cases b <;> rfl] at z
    exact z
  · have e3 : its.toArray.toList.countP isTrueV = bs.countP id := ec
    show Value.int ((its.toArray.toList.countP isTrueV : Nat) : Int) s.toks = _
    rw [e3]
end EV
namespace EV
open PySem PySem.Spec PyProof.Rows L2 LamX NdefX
/-! ### a lambda without captured names, as a value -/
def LamO (f : Addr) (F : NF) (e : Expr) : HO := .ext fun h => ∃ (od : Option Addr) (sl : Array (Option Value)) (pm ctv : Value), h.get? f = some (⟨.type "function", od, .func (PySem.W.kla_fn F.name F.qual F.params e F.scope F.cl pm (.ref F.c) ctv), sl⟩ : Obj)
theorem lamO_at {P : Program} {w : World} {H : Hp} {h : Heap} {f : Addr} {F : NF} {e : Expr} (hok : HOk P w H h) (x : H f = some (LamO f F e)) : ∃ (od : Option Addr) (sl : Array (Option Value)) (pm ctv : Value), h.get? f = some (⟨.type "function", od, .func (PySem.W.kla_fn F.name F.qual F.params e F.scope F.cl pm (.ref F.c) ctv), sl⟩ : Obj) := (hok f _ x).1
theorem lamO_ne {f : Addr} {F : NF} {e : Expr} (ps : Array Value) : LamO f F e ≠ .tbl ps := fun z => by
  unfold LamO at z
  cases z
section
variable {X : Cx} {pins : List (Addr × Obj)} {σ : L2.St} {H : Hp} {s : Shared}
theorem inv_lam {F : NF} {e : Expr} {h' : Heap} {t' : Nat} {pm ctv : Value} (I : Inv X pins σ H { s with heap := h', toks := t' }) :
    Inv X pins σ (upd H h'.objs.size (LamO h'.objs.size F e)) { s with heap := h'.push ({ cls := .type "function", data := .func (PySem.W.kla_fn F.name F.qual F.params e F.scope F.cl pm (.ref F.c) ctv) } : Obj), toks := t' } := by
  have at_ : (h'.push ({ cls := .type "function", data := .func (PySem.W.kla_fn F.name F.qual F.params e F.scope F.cl pm (.ref F.c) ctv) } : Obj)).get? h'.objs.size = some ({ cls := .type "function", data := .func (PySem.W.kla_fn F.name F.qual F.params e F.scope F.cl pm (.ref F.c) ctv) } : Obj) := Heap.get?_push_size _ rfl
  exact I.laid (a := h'.objs.size) (o := LamO h'.objs.size F e) (t' := t') (fun _ _ z => Heap.get?_push_of_some _ z) (Nat.le_refl _) ⟨⟨_, _, pm, ctv, at_⟩, ⟨_, at_⟩, fun _ _ ⟨od, sl, p, t, z⟩ st => ⟨od, sl, p, t, st _ z⟩⟩
/-- its making: the code object is new, or found in the table -/
theorem lam_new {T : List (Addr × Str)} {c P : Addr} {params : Arguments} {body : Expr} {scope : Scope} {pos : Pos} {E : Value → Shared → Prop} {Q : Value → Shared → Prop} (I : Inv X pins σ H s) (TB : TabB X.base X.mg c P) (hcode : X.env.code = .ref c)
    (hm : (P, X.env.qual ++ "<lambda>") ∈ T) (hu : ∀ p ∈ T, p.1 = P → p.2 = X.env.qual ++ "<lambda>") (hT : Tabs T H) (hdef : defaultsOf params X.env = ([], [])) (hfree : ∀ y ∈ scope.names, y.2 = .free → ∃ c, X.env.cells.lookup y.1 = some c) (hcl : cloFrom X.env.cells scope.names [] = [])
    (h : ∀ (f c' : Addr) (H1 : Hp) (s' : Shared), Inv X pins σ H1 s' → ExtN H H1 → Tabs T H1 → H f = none → H1 f = some (LamO f ⟨"<lambda>", X.env.qual ++ "<lambda>", params, [], scope, [], c'⟩ body) → H1 c' = some (CodeO c' (X.env.qual ++ "<lambda>")) → Q (.ref f) s') :
    wpAny (model X.prog X.w) X.A (eval (.Lambda params body scope pos) X.env) Q E s := by
  obtain ⟨ps, hP, ht, ha⟩ := hT _ hm
  have bP := TB.bm.keeps I.bk
  have hP' : s.heap.get? P = some { cls := .none, data := .fields ps } := I.hok P _ hP
  have clo := closure_ok (env := X.env) hfree
  rw [hcl] at clo
  refine PySem.W.kla_eval hdef ?_
  cases hc : codeAmong pos ps.toList with
  | some cv =>
    obtain ⟨c', e, hco⟩ := ha pos cv hc
    subst e
    refine PySem.W.kla_makeFunctionHit (mg := X.mg) (c := c) (P := P) (ps := ps) clo I.ok.glob (I.mod.glob.keeps I.bk) hcode (TB.code.keeps I.bk) hP' ht hc bP fun ctv h' tk hx hsz => ?_
    have J : Inv X pins σ H { s with heap := h', toks := tk } := I.kept hx
    have nf := J.hok.fresh (Nat.le_refl h'.objs.size)
    exact h h'.objs.size c' _ _ (inv_lam (F := ⟨"<lambda>", X.env.qual ++ "<lambda>", params, [], scope, [], c'⟩) J) (fun b o e _ => (upd_ne (ne_of_none e nf)).trans e) (fun p hp => (hT p hp).ext fun b o e => (upd_ne (ne_of_none e nf)).trans e) nf upd_same ((upd_ne (ne_of_none hco nf)).trans hco)
  | none =>
    refine PySem.W.kla_makeFunction (mg := X.mg) (c := c) (P := P) (ps := ps) clo I.ok.glob (I.mod.glob.keeps I.bk) hcode (TB.code.keeps I.bk) hP' ht hc TB.gP bP fun c' ctv h' tk hx hge hlt hrec htb => ?_
    obtain ⟨c2, oc, vs, t, e2, hoc, hd, hv⟩ := hrec
    cases e2
    have nC : H c' = none := I.hok.fresh hge
    have J := inv_table (t' := tk) (more := #[rawInt pos.line, rawInt pos.col, .ref c']) (h' := h') I hP (fun b o hb e => hx b o hb e) htb hge ⟨oc, vs, t, hoc, hd, hv⟩
    have grow : ExtN H (upd (upd H P (.tbl (ps ++ #[rawInt pos.line, rawInt pos.col, .ref c']))) c' (CodeO c' (X.env.qual ++ "<lambda>"))) := fun b o e n => by
      rw [upd_ne (ne_of_none e nC), upd_ne fun z => n ps (Option.some.inj (e.symm.trans (by rw [z]; exact hP)))]
      exact e
    have eL : (ps ++ #[rawInt pos.line, rawInt pos.col, .ref c']).toList = ps.toList ++ [rawInt pos.line, rawInt pos.col, .ref c'] := by simp
    have T1 : Tabs T (upd (upd H P (.tbl (ps ++ #[rawInt pos.line, rawInt pos.col, .ref c']))) c' (CodeO c' (X.env.qual ++ "<lambda>"))) := fun p hp => by
      by_cases hb : p.1 = P
      · rw [hu p hp hb, hb]
        refine ⟨_, (upd_ne (ne_of_none hP nC)).trans upd_same, eL ▸ PySem.TriplesOk_snoc _ _ _ _ ht, fun p' cv hcv => ?_⟩
        rcases among_app _ ht (eL ▸ hcv) with z | z
        · obtain ⟨c0, e1, e2⟩ := ha p' cv z
          exact ⟨c0, e1, grow _ _ e2 codeO_ne⟩
        · exact ⟨c', z, upd_same⟩
      · obtain ⟨ps', a1, a2, a3⟩ := hT p hp
        refine ⟨ps', (upd_ne (ne_of_none a1 nC)).trans ((upd_ne hb).trans a1), a2, fun p' cv hcv => ?_⟩
        obtain ⟨c0, e1, e2⟩ := a3 p' cv hcv
        exact ⟨c0, e1, grow _ _ e2 codeO_ne⟩
    have nf := J.hok.fresh (Nat.le_refl h'.objs.size)
    refine h h'.objs.size c' _ _ (inv_lam (F := ⟨"<lambda>", X.env.qual ++ "<lambda>", params, [], scope, [], c'⟩) J) (fun b o e n => (upd_ne (ne_of_none (grow b o e n) nf)).trans (grow b o e n)) (fun p hp => (T1 p hp).ext fun b o e => (upd_ne (ne_of_none e nf)).trans e) ?_ upd_same
      ((upd_ne (Nat.ne_of_lt hlt)).trans upd_same)
    exact I.hok.fresh (Nat.le_trans hge (Nat.le_of_lt hlt))
end
def tLamV (T : List (Addr × Str)) (mk : Addr → NF) (e : Expr) : TE := fun σ H Q => Tabs T H ∧ ∀ (f c' : Addr) (H1 : Hp), ExtN H H1 → Tabs T H1 → H f = none → H1 f = some (LamO f (mk c') e) → H1 c' = some (CodeO c' (mk c').qual) → Q (.ref f) H1
theorem pe_lamV {X : Cx} {T : List (Addr × Str)} {c P : Addr} {params : Arguments} {body : Expr} {scope : Scope} {pos : Pos} (TB : TabB X.base X.mg c P) (hcode : X.env.code = .ref c) (hm : (P, X.env.qual ++ "<lambda>") ∈ T) (hu : ∀ p ∈ T, p.1 = P → p.2 = X.env.qual ++ "<lambda>")
    (hnf : ∀ y ∈ scope.names, y.2 ≠ .free) (hcl : cloFrom X.env.cells scope.names [] = []) (hdef : defaultsOf params X.env = ([], []) := by rfl) :
    PE X (.Lambda params body scope pos) (tLamV T (fun c' => ⟨"<lambda>", X.env.qual ++ "<lambda>", params, [], scope, [], c'⟩) body) :=
  ⟨fun pins s σ H Q I h => lam_new I TB hcode hm hu h.1 hdef (fun y hy e => (hnf y hy e).elim) hcl fun f c' H1 s' J eN T1 f0 f1 c1 => ⟨.ref f, H1, J, rfl, h.2 f c' H1 eN T1 f0 f1 c1⟩⟩
/-! ### its call -/
section
variable {X : Cx} {pins : List (Addr × Obj)} {σ : L2.St} {H : Hp} {s : Shared} {CX : CXT} {E : XK} {k : Nat} {x : Str} {F : NF} {body : Expr} {f : Addr} {Q : VK} {v : V} {u : Value} {tb : TE}
theorem run_lam (I : Inv X pins σ H s) (S : NScope [x] [x] [] F.scope) (hcl : F.cl = []) (hb : ∀ (pm ctv u : Value), bindArgs (PySem.W.kla_fn F.name F.qual F.params body F.scope F.cl pm (.ref F.c) ctv) ⟨[u], []⟩ = pure [(x, u)])
    (hf : H f = some (LamO f F body)) (hc : H F.c = some (CodeO F.c F.qual)) (hr : Room (k + 1) X.A) (hx : Passes CX X E) (r : RelV v u)
    (hbody : ∀ (A : Around) (outer : List Env) (s : Shared), PE (ncx CX X.prog X.w X.K X.mg X.base [x] F f A outer s H E) body tb) (q : tb [some v] H Q) :
    wpAny (model X.prog X.w) X.A (call (.ref f) [u]) (EP X pins σ Q) X.xe s := by
  obtain ⟨od, sl, pm, ctv, ho⟩ := lamO_at I.hok hf
  have cr := codeO_at I.hok hc
  have lim := I.nolimit
  have run : codeAny (model X.prog X.w) X.A (.call (.ref f) ⟨[u], []⟩) (CR CX X.stack X.prog X.w H s Q E) s := by
    refine PySem.W.kla_callFunE hr.depth ho rfl S.co S.gen rfl cr ?_
    rw [hb pm ctv u]
    refine wpAny_pure (wpAny_newFunctionEnv S.nocell (fun y hy => ?_) (fun h₁ hns hsb => ⟨lim.fresh _ hsb, ?_⟩) S.kind)
    · rcases List.mem_cons.mp hy with e | e
      · rw [e]
        exact S.par x List.mem_cons_self
      · cases e
    · show codeAny _ _ (.expr body (envF F f s.heap.objs.size)) _ _
      have kp : ∀ b o, s.heap.get? b = some o → h₁.get? b = some o := fun b o e => hsb.extBut b o (Nat.ne_of_lt (Heap.lt_size e)) (Heap.get?_push_of_some _ e)
      have C : CellsAt F.cl [] [] s.heap H := by
        rw [hcl]
        exact ⟨rfl, (fun _ _ e => nomatch e), (fun _ _ _ e => nomatch e), (fun _ _ e => nomatch e)⟩
      have J : Inv (ncx CX X.prog X.w X.K X.mg X.base [x] F f X.A X.stack s H E) [] (startF [x] [v] []) H { s with heap := h₁, toks := s.toks + 1 } := inv_startN (us := [u]) S hr.hd I.env0 rfl (.cons r .nil) C hns kp
      refine PySem.W.kla_codeExpr (wpAny_mono ((hbody X.A X.stack s).run [] _ (startF [x] [v] []) H Q J q) (fun w' s' hq => ?_) fun e s' hq => hq)
      obtain ⟨y, H', J', rv, q'⟩ := hq
      exact ⟨y, H', J'.os, J'.bare, J'.base, J'.hok, rv, q'⟩
  refine wpAny_call (codeAny_mono run fun r s' hq => ?_)
  cases r with
  | error e => exact hx pins σ H s e s' I hq
  | ok fl =>
    cases fl with
    | ret w' => exact I.after hq
    | next => exact False.elim hq
    | brk => exact False.elim hq
    | cont => exact False.elim hq
end
end EV
namespace EV
open PySem PySem.Spec PyProof.Rows L2 LamX NdefX
/-! ### the law's own call, with the surroundings told (nothing is being shown ahead of it) -/
/-- the abstract heap at the law's entry: the tables, and the script if the written part does not tell it -/
def entryH (cs : List (Addr × Addr)) (K : PySem.W.Frag) (a : Addr) (o : Obj) (xs : List V) : Hp := fun b =>
  if b ∈ cs.map (·.2) then some (.tbl #[]) else if b = a ∧ K.lookup a = none then some (.frz o (.lst xs)) else none
theorem entryH_cases {cs : List (Addr × Addr)} {K : PySem.W.Frag} {a : Addr} {o : Obj} {xs : List V} {b : Addr} {u : HO} (h : entryH cs K a o xs b = some u) : (b ∈ cs.map (·.2) ∧ u = .tbl #[]) ∨ (b ∉ cs.map (·.2) ∧ b = a ∧ K.lookup a = none ∧ u = .frz o (.lst xs)) := by
  unfold entryH at h
  by_cases h1 : b ∈ cs.map (·.2)
  · rw [if_pos h1] at h
    exact .inl ⟨h1, (Option.some.inj h).symm⟩
  · rw [if_neg h1] at h
    by_cases h2 : b = a ∧ K.lookup a = none
    · rw [if_pos h2] at h
      exact .inr ⟨h1, h2.1, h2.2, (Option.some.inj h).symm⟩
    · rw [if_neg h2] at h
      cases h
theorem law_callG {P : Program} {w : World} {K : PySem.W.Frag} {mg mb : Str → Option Value} {fa a : Addr} {cs : List (Addr × Addr)} {s₁ : Shared} {vs : List Value} {ns : List Int}
    (KX : K.In s₁.heap) (gl : s₁.heap.Ns mainGlobals mg) (bl : s₁.heap.Ns builtinsNs mb) (bb : ∀ x : Str, x ≠ "__name__" → mb x = bootBuiltins x) (lim : s₁.heap.NoLimit) (hg : s₁.gens = #[])
    (tb : ∀ p ∈ cs, s₁.heap.get? p.2 = some { cls := .none, data := .fields #[] }) (tk : ∀ p ∈ cs, K.lookup p.2 = none) (cd : ∀ p ∈ cs, PySem.W.CodeHd s₁.heap p.1 p.2)
    (bm : ∃ (bm : Addr) (ob : Obj), mg "__builtins__" = some (.ref bm) ∧ bm ≠ builtinsNs ∧ s₁.heap.get? bm = some ob ∧ ob.cls = .type "module" ∧ ob.dict = some builtinsNs ∧ ob.data = .plain)
    (ha : s₁.heap.get? a = some { cls := .type "list", data := .seq vs.toArray }) (hi : IntsAre vs ns) (hl : ns.length ≤ sizeLine)
    (F : ∀ (base : Heap) (H : Hp), K.In base → base.Ns mainGlobals mg → (∀ p ∈ cs, TabB base mg p.1 p.2) → (∀ p ∈ cs, H p.2 = some (.tbl #[])) → SqL K H a (ns.map V.int) → Env0 P w K mg base callerA [] s₁ H →
      codeAny (model P w) callerA (.call (.ref fa) ⟨[.ref a], []⟩) (CR CX0 [] P w H s₁ (fun v _ => v = .bl true) E0) s₁) :
    codeAny (model P w) callerA (.call (.ref fa) ⟨[.ref a], []⟩) (fun r s' => r = .ok (.ret (.bool true)) ∧ OldK s₁.heap s'.heap ∧ s'.os = s₁.os ∧ AllBare s'.gens) s₁ := by
  have rv := vals_ints hi
  have ln := hi.length
  have inT : ∀ {b : Addr}, b ∈ cs.map (·.2) → ∃ p ∈ cs, p.2 = b := fun hb => by
    obtain ⟨p, hp, e⟩ := List.mem_map.mp hb
    exact ⟨p, hp, e⟩
  have atT : ∀ {b : Addr}, b ∈ cs.map (·.2) → s₁.heap.get? b = some { cls := .none, data := .fields #[] } := fun hb => by
    obtain ⟨p, hp, rfl⟩ := inT hb
    exact tb p hp
  have aT : a ∉ cs.map (·.2) := fun z => by
    have q := ha.symm.trans (atT z)
    cases q
  generalize hH : entryH cs K a { cls := .type "list", data := .seq vs.toArray } (ns.map V.int) = H
  have split : ∀ {b : Addr} {u : HO}, H b = some u → (b ∈ cs.map (·.2) ∧ u = .tbl #[]) ∨ (b ∉ cs.map (·.2) ∧ b = a ∧ K.lookup a = none ∧ u = .frz { cls := .type "list", data := .seq vs.toArray } (.lst (ns.map V.int))) := fun e => entryH_cases (hH ▸ e)
  have tabs : ∀ p ∈ cs, H p.2 = some (.tbl #[]) := fun p hp => by
    rw [← hH]
    exact if_pos (List.mem_map.mpr ⟨p, hp, rfl⟩)
  -- what is no list and no empty table is not tracked
  have off : ∀ {b : Addr} {o : Obj}, s₁.heap.get? b = some o → (∀ us n, o.data ≠ .seq us n) → o.data ≠ .fields #[] → H b = none := fun {b o} e h1 h2 => by
    cases q : H b with
    | none => rfl
    | some u =>
      rcases split q with ⟨z, _⟩ | ⟨_, z, _, _⟩
      · have y := e.symm.trans (atT z)
        cases y
        exact (h2 rfl).elim
      · rw [z] at e
        have y := e.symm.trans ha
        cases y
        exact (h1 _ _ rfl).elim
  have kept : ∀ {b : Addr} {o : Obj}, s₁.heap.get? b = some o → H b = none → (hidT s₁.heap H).get? b = some o := fun e n => hidT_get e n
  have nss : ∀ {b : Addr} {m : Str → Option Value}, s₁.heap.Ns b m → (hidT s₁.heap H).Ns b m := fun ⟨o, es, ep, e, d, r⟩ => ⟨o, es, ep, kept e (off e (fun _ _ z => by rw [d] at z; cases z) fun z => by rw [d] at z; cases z), d, r⟩
  have kin : K.In (hidT s₁.heap H) := fun b o e => kept (KX b o e) (by
    cases q : H b with
    | none => rfl
    | some u =>
      rcases split q with ⟨z, _⟩ | ⟨_, z, n, _⟩
      · obtain ⟨p, hp, ep⟩ := inT z
        have y := tk p hp
        rw [ep, e] at y
        cases y
      · rw [← z, e] at n
        cases n)
  have tbs : ∀ p ∈ cs, TabB (hidT s₁.heap H) mg p.1 p.2 := fun p hp => by
    have t0 := tb p hp
    refine ⟨?_, ?_, fun z => ?_⟩
    · obtain ⟨o, us, file, tf, flags, tg, inF, text, tt, e1, r1, r2, r3, r⟩ := cd p hp
      refine ⟨o, us, file, tf, flags, tg, inF, text, tt, kept e1 (off e1 (fun _ _ z => by rw [r2] at z; cases z) fun z => ?_), r1, r2, r3, r⟩
      rw [r2] at z
      cases z
      simp at r3
    · obtain ⟨m, ob, b1, b2, b3, b4, b5, b6⟩ := bm
      refine ⟨m, ob, b1, b2, fun q => ?_, fun q => ?_, kept b3 (off b3 (fun _ _ z => by rw [b6] at z; cases z) fun z => by rw [b6] at z; cases z), b4, b5, b6⟩
      · obtain ⟨o, es, ep, e, hd, _⟩ := gl
        rw [q] at b3
        have y := b3.symm.trans e
        cases y
        rw [b6] at hd
        cases hd
      · rw [q] at b3
        have y := b3.symm.trans t0
        cases y
        cases b6
    · obtain ⟨o, es, ep, e, hd, _⟩ := gl
      rw [z] at e
      have y := t0.symm.trans e
      cases y
      cases hd
  have hok : HOk P w H s₁.heap := fun b u e => by
    rcases split e with ⟨z, rfl⟩ | ⟨_, rfl, _, rfl⟩
    · exact atT z
    · exact ⟨ha, (by rw [List.length_map]; exact hl), vs, _, rv, ha⟩
  have seq : SqL K H a (ns.map V.int) := by
    cases hk : K.lookup a with
    | none =>
      refine .inl (.inr ⟨{ cls := .type "list", data := .seq vs.toArray }, ?_⟩)
      rw [← hH]
      exact (if_neg aT).trans (if_pos ⟨rfl, hk⟩)
    | some o =>
      have y := (KX a o hk).symm.trans ha
      cases y
      exact .inr ⟨_, vs.toArray, _, hk, rfl, rfl, rfl, (by rw [List.size_toArray, ln]; exact hl), by simpa using rv⟩
  have e0 : Env0 P w K mg (hidT s₁.heap H) callerA [] s₁ H := ⟨rfl, ⟨kin, nss gl, ⟨mb, nss bl, bb⟩, let ⟨mc, h1, h2⟩ := lim; ⟨mc, nss h1, h2⟩⟩, fun b o e => of_hidT e, Nat.le_of_eq (hidT_size _ _), trivial, fun b hb => absurd (show b ∈ ([] : List Addr) from hb) (by simp), hok, .of_eq hg⟩
  refine codeAny_mono (F _ H kin (nss gl) tbs tabs seq e0) fun r s' h => ?_
  cases r with
  | error e => exact False.elim h
  | ok fl =>
    cases fl with
    | next => exact False.elim h
    | brk => exact False.elim h
    | cont => exact False.elim h
    | ret u =>
      obtain ⟨v, H', os, bare, un, ok2, rel, q⟩ := h
      have q' : v = .bl true := q
      subst q'
      obtain rfl : u = Value.bool true := rel
      have stays : ∀ b o, b ∉ cs.map (·.2) → s₁.heap.get? b = some o → s'.heap.get? b = some o := fun b o nb e => by
        cases q : H b with
        | none => exact un.keep b o e q (by intro z; exact absurd (show b ∈ ([] : List Addr) from z) (by simp)) (by simp)
        | some u =>
          rcases split q with ⟨z, _⟩ | ⟨_, z, _, rfl⟩
          · exact absurd z nb
          · obtain ⟨e1, _⟩ := ok2 b _ (un.frzs b _ _ q)
            rw [z] at e
            have y := e.symm.trans ha
            cases y
            exact e1
      have grown : ∀ {b : Addr}, b ∈ cs.map (·.2) → ∃ (p : Addr × Addr) (more : Array Value), p ∈ cs ∧ p.2 = b ∧ s'.heap.get? b = some { cls := .none, data := .fields more } := fun {b} hb => by
        obtain ⟨p, hp, rfl⟩ := inT hb
        obtain ⟨more, z⟩ := un.tbls p.2 #[] (tabs p hp)
        exact ⟨p, _, hp, rfl, ok2 p.2 _ z⟩
      refine ⟨rfl, ⟨fun b o e => ?_, fun b o e => ?_⟩, os, bare⟩
      · by_cases hb : b ∈ cs.map (·.2)
        · obtain ⟨p, more, hp, rfl, hm⟩ := grown hb
          have y := e.symm.trans (tb p hp)
          cases y
          exact .inr (.inl ⟨((cd p hp).tab (tb p hp)).isCodeTable, rfl, #[], more, rfl, by rw [Array.empty_append]; exact hm⟩)
        · exact .inl (stays b o hb e)
      · by_cases hb : b ∈ cs.map (·.2)
        · obtain ⟨p, more, hp, rfl, hm⟩ := grown hb
          exact ⟨_, hm⟩
        · exact ⟨o, stays b o hb e⟩
/-! ### a promise that wants to know that nothing is being shown -/
structure FnG (P : Program) (w : World) (K : PySem.W.Frag) (mg : Str → Option Value) (base : Heap) (k : Nat) (f : Addr) (fd : FuncData) (ps : List Str) (sp : Sp) : Prop where
  len : ∀ vs H Q E, sp vs H Q E → vs.length = ps.length
  run : ∀ (A : Around) (outer : List Env) (s : Shared) (H : Hp) (args : Args) (us : List Value) (vs : List V) (Q : VK) (E : XK), A.guards = some [] → Room k A → Env0 P w K mg base A outer s H → BindsTo s fd args (ps.zip us) → Vals vs us → sp vs H Q E →
    codeAny (model P w) A (.call (.ref f) args) (CR CX0 outer P w H s Q E) s
theorem fng_of {P : Program} {w : World} {K : PySem.W.Frag} {mg : Str → Option Value} {base : Heap} {k : Nat} {x qual : Str} {st : Stmt} {f : Addr} {fd : FuncData} {N ps : List Str} {sp : Sp} (F : Fun K x qual st f fd) (S : FnScope N ps (defScope st)) (len : ∀ vs H Q E, sp vs H Q E → vs.length = ps.length)
    (hbody : ∀ (cdv : Value) (A : Around) (outer : List Env) (s : Shared) (H : Hp) (vs : List V) (Q : VK) (E : XK), (A.deeper (envOfC qual (defScope st) s.heap.objs.size f cdv)).guards = some [] → Room k (A.deeper (envOfC qual (defScope st) s.heap.objs.size f cdv)) → sp vs H Q E →
      ∃ t, PSs (cxOf CX0 P w K mg base N qual (defScope st) f cdv A outer s H E).nox (defBody st) t ∧ t { nx := fun _ H' => Q .non H', rt := Q } (start N vs) H) : FnG P w K mg base (k + 1) f fd ps sp := by
  obtain ⟨oc, od, kV, doc, pm, an, cdv, ct, osl, rfl, lk, hcd⟩ := F.ex
  refine ⟨len, fun A outer s H args us vs Q E hg hr e0 hb r hsp => run_ofS lk hcd S hr e0 hb r (len _ _ _ _ hsp) fun hr' => ?_⟩
  obtain ⟨t, h1, h2⟩ := hbody cdv A outer s H vs Q E hg hr' hsp
  exact ⟨t, h1.nox, h2⟩
section
variable {X : Cx} {k : Nat} {f : Addr} {fd : FuncData} {ps : List Str} {sp : Sp} {x : Str} {p pos : Pos} {e : Expr} {es : List Expr} {t : TA}
theorem pe_callG (F : FnG X.prog X.w X.K X.mg X.base k f fd ps sp) (gd : X.A.guards = some []) (hr : Room k X.A) (hg : Gl X x) (hm : X.mg x = some (.ref f)) (hk : PySem.W.keepIn X.K (.ref f) = true) (hb : Binds X.K fd ps []) (ha : PA X (e :: es) t)
    (hdb : (x == ("__debug__" : Str)) = false := by decide) (he : starEach (e :: es) X.env = (false, eval e X.env) :: starEach es X.env := by rfl) (hpl : (backTo pos (starEach es X.env)).any (·.1) = false := by rfl) :
    PE X (.Call (.Name x p) (e :: es) [] pos) (tCall sp [] E0 t) := by
  refine ⟨fun pins s σ H Q I h => ?_⟩
  refine wpAny_Call_Name_kw (ld_glob I hg hm ?_ hdb)
  refine PySem.W.callWith_K (h₀ := X.base) I.ok.mod.kin hk (thn (ha.run pos pins s σ H _ I h) fun us s1 ⟨vs, H1, I1, r, q⟩ => ⟨I1.kIn, ?_⟩) he hpl
  have q : sp (vs ++ []) H1 Q E0 := q
  rw [List.append_nil] at q
  have hl : (us ++ []).length = ps.length := by rw [List.append_nil, ← r.length]; exact F.len _ _ _ _ q
  have b := hb s1 us I1.kIn hl
  rw [List.append_nil] at b
  refine wpAny_call (codeAny_mono (F.run X.A X.stack s1 H1 ⟨us, []⟩ us vs Q E0 gd hr I1.env0 b r q) fun z s' hq => ?_)
  cases z with
  | error e => exact False.elim hq
  | ok fl =>
    cases fl with
    | ret u => exact I1.after hq
    | next => exact False.elim hq
    | brk => exact False.elim hq
    | cont => exact False.elim hq
end
end EV
/-! Dict comprehensions whose keys may be tuples: the store is what DPut says. -/
namespace EV
open PySem PySem.Spec PyProof.Rows L2
section
variable {X : Cx} {pins : List (Addr × Obj)} {σ : L2.St} {H : Hp} {s : Shared}
/-- an entry laid by a comprehension, whatever the key is -/
theorem lay_entry {P : Unit → Shared → Prop} {E : Value → Shared → Prop} {D : Addr} {y z : V} {u r : Value} {H' : Hp} (hu : X.A.units + 1 < cLine) (I : Inv X pins σ H s) (g : DPut H D y z H') (ry : RelV y u) (rz : RelV z r) (k : ∀ s', Inv X pins σ H' s' → P () s') :
    wpAny (model X.prog X.w) X.A (dictSet D u r) P E s := by
  rcases g with ⟨kvs, ky, hD, rfl, small, rfl⟩ | ⟨kvs, ky, b, hD, rfl, hb, small, rfl⟩
  · exact d_dictSet I hD small ry rz k
  · obtain rfl : u = Value.ref b := ry
    obtain ⟨le, nsys, xs, kt, dh⟩ := dt_of I.hok hD
    have le' : xs.length ≤ sizeLine := Paired.length kt ▸ le
    have room : (putK kvs ky z).length ≤ sizeLine := by
      have t := length_putK kvs ky z
      omega
    have hr : (tupleKind (mixKind X.prog X.w)).room X.A := Nat.lt_of_succ_lt hu
    refine wpAny_dictSet_heap (hsz := le') hr (key_of I.hok hb) dh fun h2 dh2 but => k _ ?_
    obtain ⟨o, es, ep, q1, q2, q3, q4, _, q6⟩ := dh2
    refine d_write I (by rw [hD]; exact True.intro) but ⟨o, q1⟩ ⟨room, nsys, _, KT.keeps (kt.put ky hb rz) fun c ys hc => ?_, o, es, ep, q1, q2, q3, q4, q6⟩
    exact (upd_ne (ne_of hc hD fun t => nomatch t)).trans hc
end
section
variable {X : Cx}
/-- the empty dict, to hold keys of the one kind or of the other -/
inductive Bare0 : HO → Prop
  | k : Bare0 (.dK [])
  | t : Bare0 (.dT [])
theorem bare0_lay {P : Program} {w : World} {H : Hp} {h : Heap} {o : HO} (b : Bare0 o) (big : sysModules < h.objs.size) : ObjOk P w H (h.push { cls := .type "dict", data := .dict #[] }) h.objs.size o := by
  cases b
  · exact dk_empty h big
  · exact dt_empty h big
/-- one turn of the comprehension's block, as a reading -/
def turnP (D : Addr) (g : TG) (tt : TT) (tk tv : TE) (vs : List Nat) (σ : L2.St) (Nx : Hp → Prop) (x : V) (H' : Hp) : Prop :=
  g x (wipe σ vs) H' fun σ2 H2 => wipe σ2 vs = wipe σ vs ∧ tt σ2 H2 fun b H3 =>
    if b = true then tk σ2 H3 fun y H4 => tv σ2 H4 fun z H5 => ∃ H6, DPut H5 D y z H6 ∧ Nx H6 else Nx H3
def tDcP (o0 : HO) (wi : TI) (g : TG) (tt : TT) (tk tv : TE) (vs : List Nat) : TE := fun σ H Q => wi σ H fun J H1 => ∀ D, H1 D = none → ∃ W : Nat → Nat → Hp → Prop, (∃ m, W 0 m (upd H1 D o0)) ∧
  ∀ i m H2, W i m H2 → (J.stop i H2 ∧ Q (.ref D) H2) ∨ (J.go i H2 ∧ ∃ Nx : Hp → Prop, (∀ H3, Nx H3 → ∃ m', m' < m ∧ W (i + 1) m' H3) ∧ ∀ x H3, J.yld i H2 x H3 → turnP D g tt tk tv vs σ Nx x H3)
abbrev AllBlk (X : Cx) (scope : Scope) (p : Cx → Prop) : Prop := ∀ (s : Shared) (H : Hp) (C : Addr) (cl : List (Str × Addr)) (fp : List Addr), p (X.blk s H scope (compEnvC scope cl C X.env) fp)
theorem pe_dcP {kx vx tg iter : Expr} {ifs : List Expr} {scope : Scope} {own : List (Str × Nat)} {pos : Pos} {wi : TI} {g : TG} {tt : TT} {tk tv : TE} {o0 : HO} (b0 : Bare0 o0) (calm : X.calm = true) (hu : X.A.units + 1 < cLine) (hN : X.N.Nodup) (hi : PI X tg iter wi) (ok : BlkOk X.N X.env.scope scope own)
    (hg : AllBlk X scope fun B => PG B tg g) (ht : AllBlk X scope fun B => PTs B ifs tt) (hk : AllBlk X scope fun B => PE B kx tk) (he : AllBlk X scope fun B => PE B vx tv)
    (fold : ∀ x, foldedSetIterable iter X.env x = pure x := by intro _; rfl) : PE X (.DictComp kx vx [⟨tg, iter, ifs, 0⟩] scope pos) (tDcP o0 wi g tt tk tv (own.map (·.2))) := by
  refine ⟨fun pins s σ H Q I reading => ?_⟩
  rw [arm_eval_DictComp]
  have frees : ∀ y ∈ scope.names, y.2 = .free → ∃ c, X.env.cells.lookup y.1 = some c := fun y hy e => (ok.free y hy e).elim (fun q => I.ok.has _ (.inl q)) fun q => I.ok.has _ (.inr q)
  refine wpAny_comprehension_free rfl fold (closure_ok frees) ok.kind (fun y hy e => (ok.uniq y hy).trans (congrArg some e)) (thn (hi.run pins s σ H _ I reading) fun xv s1 made => thn made fun itv s2 stands => ?_)
  obtain ⟨it, fp, tn, J, H2, rfl, I2, T, at0, fpk, rest⟩ := stands
  refine wpAny_newObj_type (newEnv_comp ?_)
  obtain ⟨D, eD⟩ : ∃ D, s2.heap.objs.size = D := ⟨_, rfl⟩
  rw [eD]
  have new : H2 D = none := I2.hok.fresh (Nat.le_of_eq eD)
  obtain ⟨W, ⟨m0, start⟩, turns⟩ := rest D new
  -- the empty dict stands
  obtain ⟨s3, e3⟩ : ∃ s3 : Shared, ({ s2 with heap := s2.heap.push { cls := .type "dict", data := .dict #[] } } : Shared) = s3 := ⟨_, rfl⟩
  have grow : ∀ b o, s2.heap.get? b = some o → s3.heap.get? b = some o := fun b o e => by
    rw [← e3]
    exact Heap.get?_push_of_some _ e
  have size3 : s3.heap.objs.size = s2.heap.objs.size + 1 := by
    rw [← e3]
    exact Heap.size_push ..
  have I3 : Inv X pins σ (upd H2 D o0) s3 := by
    rw [← e3]
    refine I2.laid (t' := s2.toks) (fun b o e => Heap.get?_push_of_some _ e) (Nat.le_of_eq eD) ?_
    rw [← eD]
    exact bare0_lay b0 I2.big
  have small : ∀ b ∈ fp, b < s2.heap.objs.size := fun b hb => (T.obj _ _ at0 b hb).elim fun o q => Heap.lt_size q.1
  have fp3 : ∀ b ∈ fp, FpOk X pins (upd H2 D o0) b ∧ b < s3.heap.objs.size := fun b hb => by
    have lt := small b hb
    have ne : b ≠ D := Nat.ne_of_lt (eD ▸ lt)
    exact ⟨⟨(upd_ne ne).trans (fpk b hb).1, (fpk b hb).2⟩, size3 ▸ Nat.lt_succ_of_lt lt⟩
  have at3 : tn 0 s3.heap := T.keep _ _ _ at0 fun b _ o e => grow b o e
  have I4 := block_start I3 ok hN fp3
  generalize eC : s3.heap.objs.size = C at I4
  generalize ecl : cellsFrom (C + 1) scope.names (cloFrom X.env.cells scope.names []) = cl at I4
  have pg := hg s3 (upd H2 D o0) C cl fp
  have pt := ht s3 (upd H2 D o0) C cl fp
  have pk := hk s3 (upd H2 D o0) C cl fp
  have pv := he s3 (upd H2 D o0) C cl fp
  have none3 : ∀ b ∈ fp, (upd H2 D o0) b = none := fun b hb => (fp3 b hb).1.1
  have h4s : ∀ b o, s3.heap.get? b = some o → (pushCells (s3.heap.push { cls := .type "dict", data := .dict #[] }) scope.names).get? b = some o := fun b o e => pushCells_keeps _ _ _ _ (Heap.get?_push_of_some _ e)
  rw [e3]
  show codeAny _ _ (.compStart (.DictComp kx vx [⟨tg, iter, ifs, 0⟩] scope pos) 0 (.ref it) (.ref D) (compEnvC scope (cellsFrom (s3.heap.objs.size + 1) scope.names (cloFrom X.env.cells scope.names [])) s3.heap.objs.size X.env)) (compPost (model X.prog X.w) X.A X.xe _ _ (.ref D) s3.heap.objs.size) { s3 with heap := pushCells (s3.heap.push { cls := .type "dict", data := .dict #[] }) scope.names }
  rw [eC, ecl]
  generalize eB : compEnvC scope cl C X.env = B at I4 pg pt pk pv ⊢
  have locB : B.locals = C := eB ▸ rfl
  have at4 : tn 0 (pushCells (s3.heap.push { cls := .type "dict", data := .dict #[] }) scope.names) := T.keep _ _ _ at3 fun b _ o e => h4s b o e
  generalize e4 : ({ s3 with heap := pushCells (s3.heap.push { cls := .type "dict", data := .dict #[] }) scope.names } : Shared) = s4 at I4 ⊢
  have at4 : tn 0 s4.heap := e4 ▸ at4
  -- the iterator's own objects, seen from the block
  have own4 : ∀ {σ' : L2.St} {G : Hp} {s' : Shared}, Inv (X.blk s3 (upd H2 D o0) scope B fp) [] σ' G s' → (∀ b ∈ fp, G b = none) → ∀ b ∈ fp, FpOk (X.blk s3 (upd H2 D o0) scope B fp) [] G b := fun {σ' G s'} J' z b hb =>
    ⟨z b hb, (J'.ok.exf b hb).1, J'.ok.exfs b hb, .inl hb, fun x c e => (J'.ok.exf b hb).2 x c e, fun p hp => by simp [Cx.blk] at hp⟩
  have walk : codeAny (model X.prog X.w) X.A (.compLoop (.DictComp kx vx [⟨tg, iter, ifs, 0⟩] scope pos) 0 (.ref it) (.ref D) B) (compPost (model X.prog X.w) X.A X.xe none (fun v s' => ∃ x H', Inv X pins σ H' s' ∧ RelV x v ∧ Q x H') (.ref D) C) s4 := by
    refine compLoop_anyD (fun n s5 => ∃ i G, Inv (X.blk s3 (upd H2 D o0) scope B fp) [] (wipe σ (own.map (·.2))) G s5 ∧ tn i s5.heap ∧ (∀ b ∈ fp, G b = none) ∧ W i n G) ?_ m0 ⟨0, _, I4, at4, none3, start⟩
    rintro n s5 ⟨i, G, I5, at5, none5, w5⟩
    rcases turns i n G w5 with ⟨over, found⟩ | ⟨more, Nx, next, step⟩
    · -- no further item: the def's own frame again
      refine thnF (T.done (X.blk s3 (upd H2 D o0) scope B fp) rfl rfl rfl calm i [] s5 _ G (fun _ _ => False) I5 (own4 I5 none5) at5 over) fun r s6 fin => ?_
      obtain ⟨rfl, I6⟩ := fin
      have back : Inv X pins σ G s6 := I3.call' (ch := fp) I6.os I6.base I6.hok I6.bare fun b hb => ⟨(fp3 b hb).1.2.2.2.1, (fp3 b hb).1.2.1, (fp3 b hb).1.2.2.2.2.1, (fp3 b hb).1.2.2.2.2.2⟩
      have freeC : G C = none := locB ▸ (show G B.locals = none from I6.free)
      obtain ⟨m, ns, _⟩ := I6.loc
      have nsC : s6.heap.Ns C m := locB ▸ (show s6.heap.Ns B.locals m from ns)
      obtain ⟨f0, f1, f2, f3, f4, f5⟩ := I3.fpOk (Nat.le_of_eq eC) freeC
      exact ⟨m, nsC, fun h9 but => ⟨.ref D, G, back.turned (t' := s6.toks) (fun b o hb e => (but.2 b hb).trans e) f0 f1 f3 f4 f5, rfl, found⟩⟩
    · refine thnF (T.item (X.blk s3 (upd H2 D o0) scope B fp) rfl rfl rfl calm i [] s5 _ G (fun _ _ => False) I5 (own4 I5 none5) at5 more) fun r s6 got => ?_
      obtain ⟨u, rfl, later⟩ := got
      refine thnF later fun _ s7 st => ?_
      obtain ⟨x, G7, I7, rx, y7, at7, none7⟩ := st
      have I8 := I7.pinned (own4 I7 none7) (T.obj _ _ at7)
      refine thnF (pg.run _ s7 _ G7 x u _ I8 rx (step x G7 y7)) fun _ s8 ⟨σ8, G8, I9, same8, q8⟩ => ?_
      -- what the turn leaves
      have goOn : ∀ {s9 : Shared} {G9 : Hp}, Inv (X.blk s3 (upd H2 D o0) scope B fp) ([] ++ pinsAt fp s7.heap) σ8 G9 s9 → Nx G9 → ∃ m, m < n ∧ ∃ j G', Inv (X.blk s3 (upd H2 D o0) scope B fp) [] (wipe σ (own.map (·.2))) G' s9 ∧ tn j s9.heap ∧ (∀ b ∈ fp, G' b = none) ∧ W j m G' := by
        intro s9 G9 J nx
        obtain ⟨m, lt, w9⟩ := next G9 nx
        have stood : ∀ b ∈ fp, ∀ o, s7.heap.get? b = some o → s9.heap.get? b = some o ∧ G9 b = none := fun b hb o e => by
          have z := J.pin (b, o) (List.mem_append_right _ (List.mem_append_right _ (mem_pinsAt hb e)))
          exact ⟨z.1, z.2.1⟩
        have len8 : (wipe σ (own.map (·.2))).length = σ8.length := same8 ▸ wipe_length ..
        refine ⟨m, lt, i + 1, G9, (J.unpinned (pins := [])).weak len8 (fun j v e => (wipe_some (same8.symm ▸ e)).1), T.keep _ _ _ at7 fun b hb o e => (stood b hb o e).1, fun b hb => ?_, w9⟩
        obtain ⟨o, e, _⟩ := T.obj _ _ at7 b hb
        exact (stood b hb o e).2
      refine thnF (pt.run _ s8 σ8 G8 _ I9 q8) fun b s9 ⟨G9, I10, q9⟩ => ?_
      by_cases kept : b = true
      · have q9 : tk σ8 G9 fun y H4 => tv σ8 H4 fun z H5 => ∃ H6, DPut H5 D y z H6 ∧ Nx H6 := by
          have q9 := show (if b = true then _ else _) from q9
          rwa [if_pos kept] at q9
        rw [if_pos kept]
        refine thnF (pk.run _ s9 σ8 G9 _ I10 q9) fun ku s10 ⟨y, G10, I11, ry, q10⟩ => ?_
        refine thnF (pv.run _ s10 σ8 G10 _ I11 q10) fun vu s11 ⟨z, G11, I12, rz, G12, put, nx⟩ => ?_
        exact lay_entry (X := X.blk s3 (upd H2 D o0) scope B fp) hu I12 put ry rz fun s12 I13 => goOn I13 nx
      · have q9 : Nx G9 := by
          have q9 := show (if b = true then _ else _) from q9
          rwa [if_neg kept] at q9
        rw [if_neg kept]
        exact goOn I10 q9
  exact codeAny_compStart_dict walk (T.self X.A 0 _ _ _ at4 walk)
end
end EV
/-! Walks over what is a list or a tuple; enumerate of either; comprehensions of dicts over any walk. -/
namespace EV
open PySem PySem.Spec PyProof.Rows L2
open AutoSeq1 (wpAny_loadPart')
/-- a list (b) or a tuple -/
def Sq (K : PySem.W.Frag) (b : Bool) (H : Hp) (a : Addr) (xs : List V) : Prop := if b = true then SqL K H a xs else SqT K H a xs
def IB (K : PySem.W.Frag) (b : Bool) (a : Addr) : It := if b = true then Itl K a else Itt K a
theorem Sq.any {K : PySem.W.Frag} {b : Bool} {H : Hp} {a : Addr} {xs : List V} (h : Sq K b H a xs) : SqL K H a xs ∨ SqT K H a xs := by
  cases b
  · exact .inr h
  · exact .inl h
theorem Sq.lst {K : PySem.W.Frag} {H : Hp} {a : Addr} {xs : List V} (h : H a = some (.lst xs)) : Sq K true H a xs := SqL.of h
theorem Sq.tup {K : PySem.W.Frag} {H : Hp} {a : Addr} {xs : List V} (h : H a = some (.tup xs)) : Sq K false H a xs := SqT.of h
theorem walk_sq {K : PySem.W.Frag} {b : Bool} {a : Addr} {xs : List V} : Walk (IB K b a) xs.length (fun H => Sq K b H a xs) (YAt xs) := by
  cases b
  · exact walk_tup
  · exact walk_list
def iSeq (K : PySem.W.Frag) (tl : TE) : TI := fun σ H R => tl σ H fun x H1 => ∃ b a xs, x = .ref a ∧ Sq K b H1 a xs ∧ R (IB K b a) H1
section
variable {X : Cx} {tg : Expr}
theorem pi_seq {l : Expr} {tl : TE} (hl : PE X l tl) : PI X tg l (iSeq X.K tl) := by
  refine ⟨fun pins s σ H R I h => thn (hl.run pins s σ H _ I h) fun v s1 got => ?_⟩
  obtain ⟨x, H1, I1, rx, b, a, xs, rfl, hs, q⟩ := got
  obtain rfl : v = Value.ref a := rx
  cases b
  · obtain ⟨its, _, p, _⟩ := I1.tuple hs
    exact wpAny_pyIter_tuple (items := its.toArray) p (pi_one (tk := s1.toks) I1 _ (turn_tuple a _) ⟨_, Heap.get?_push_size _ rfl, rfl, rfl⟩ q)
  · obtain ⟨its, _, p, _⟩ := I1.list hs
    exact wpAny_pyIter_list p.isList (pi_one (tk := s1.toks) I1 _ (turn_list a _) ⟨_, Heap.get?_push_size _ rfl, rfl, rfl⟩ q)
end
/-! ### enumerate(tuple) -/
theorem meets_enumerate_newT (t : Addr) (items : Array Value) (n : Nat) (dct : Option Addr) (sl : Array (Option Value)) :
    Meets (Builtin.«enumerate.__new__» ⟨[.type "enumerate", .ref t], []⟩) (fun _ R s => s.heap.get? t = some { cls := .type "tuple", dict := dct, data := .seq items n, slots := sl } ∧
      R (.ok (.ret (.ref (s.heap.objs.size + 1))))
        { s with heap := (s.heap.push { cls := .type "tuple_iterator", data := .fields #[.ref t, .int 0 0] }).push { cls := .type "enumerate", data := .fields #[.none, .bool false, .ref s.heap.objs.size, rawInt 0, .none, .none] } }) :=
  .of_wp fun prog w A R s h => by
    obtain ⟨hp, g, d, tk, os⟩ := s
    obtain ⟨hl, h⟩ := h
    have two : (Heap.push hp { cls := .type "tuple_iterator", data := .fields #[.ref t, .int 0 0] }).objs.size = hp.objs.size + 1 := Heap.size_push ..
    rw [show (Shared.heap ⟨hp, g, d, tk, os⟩).objs.size + 1 = (Heap.push hp { cls := .type "tuple_iterator", data := .fields #[.ref t, .int 0 0] }).objs.size from two.symm] at h
    have hsub := sub_enumerate
    have hT : Heap.IsTuple (Shared.heap ⟨hp, g, d, tk, os⟩) t items := ⟨_, hl, rfl, n, rfl⟩
    wp_walk using wpAny_loadPart' hl
    refine wpAny_stack_any fun st => wpAny_pure ?_
    split
    · rename_i c _ _ _ _ _
      cases (c == Value.type "enumerate") <;> (wp_walk using wpAny_loadPart' hl, wpAny_pyIter_tuple hT; exact ⟨_, rfl, h⟩)
    · wp_walk using wpAny_loadPart' hl, wpAny_pyIter_tuple hT
      exact ⟨_, rfl, h⟩
section
variable {prog : Program} {w : World} {A : Around} {E : Value → Shared → Prop} {s : Shared}
theorem call_enumerate_tuple {t : Addr} {items : Array Value} {Q : Value → Shared → Prop} (hT : s.heap.IsTuple t items)
    (k : ∀ h', IsEnum h' (s.heap.objs.size + 1) s.heap.objs.size 0 .none → h'.IsTupleIter s.heap.objs.size t 0 → (∀ b o, s.heap.get? b = some o → h'.get? b = some o) → Q (.ref (s.heap.objs.size + 1)) { s with heap := h' }) :
    wpAny (model prog w) A (call (.type "enumerate") [.ref t]) Q E s := by
  obtain ⟨⟨c, dct, dt, sl⟩, at0, hc, n, hd⟩ := hT
  obtain rfl : c = .type "tuple" := hc
  obtain rfl : dt = .seq items n := hd
  have e1 := Heap.get?_push_size (s.heap.push { cls := .type "tuple_iterator", data := .fields #[.ref t, .int 0 0] }) (o := { cls := .type "enumerate", data := .fields #[.none, .bool false, .ref s.heap.objs.size, rawInt 0, .none, .none] }) rfl
  rw [Heap.size_push] at e1
  exact callType_new F.called_enumerate (by decide) (F.typeCall_enumerate_1 _) (F.newCall_enumerate_1 _) (fun obj => F.args_object_init_2 obj _) F.entry_enumerate_new (meets_enumerate_newT t items n dct sl)
    ⟨at0, ⟨_, e1, rfl⟩, k _ e1 ⟨_, Heap.get?_push_of_some _ (Heap.get?_push_size _ rfl), rfl, rfl⟩ fun b o q => Heap.get?_push_of_some _ (Heap.get?_push_of_some _ q)⟩
end
theorem enumT_end {prog : Program} {w : World} {A : Around} {E : Value → Shared → Prop} {s : Shared} {e it t : Addr} {i : Nat} {k : Int} {items : Array Value} {old : Value} {Q : Option Value → Shared → Prop} (hh : A.in1.handled = none) (he : IsEnum s.heap e it k old) (hit : s.heap.IsTupleIter it t i) (ht : s.heap.IsTuple t items) (hx : items[i]? = none)
    (hQ : ∀ h', Heap.ExtBut it s.heap h' → Q none { s with heap := h' }) : wpAny (model prog w) A (pyNext (.ref e)) Q E s := by
  have D : Draws prog w A.in1 it [it, t] i (fun _ _ => True) (fun j h => j = i ∧ h.IsTupleIter it t i ∧ h.IsTuple t items) :=
    { live := fun _ _ st => st.2.1.elim fun o q => ⟨o, q.1⟩
      frame := fun _ _ _ st hk => ⟨st.1, st.2.1.at fun o q => hk it (by simp) o q, st.2.2.at fun o q => hk t (by simp) o q⟩
      item := fun j s Q E lt st _ => absurd lt (by rw [st.1]; exact Nat.lt_irrefl _)
      done := fun s Q E st hE => wpAny_nextOf_tuple_end hh st.2.1 st.2.2 hx hE }
  exact wpAny_pyNext_enum_endD D he ⟨rfl, hit, ht⟩ hQ
def IteT (K : PySem.W.Frag) (a : Addr) : It where
  go i H := ∃ xs x, SqT K H a xs ∧ xs[i]? = some x
  yld i H v H' := ∃ T x, v = .ref T ∧ H T = none ∧ H' = upd H T (.tup [.int (i : Nat), x]) ∧ ∀ xs, SqT K H a xs → xs[i]? = some x
  stop i H := ∃ xs, SqT K H a xs ∧ xs.length ≤ i
def IeB (K : PySem.W.Frag) (b : Bool) (a : Addr) : It := if b = true then Ite K a else IteT K a
theorem walk_enumB {K : PySem.W.Frag} {b : Bool} {a : Addr} {xs : List V} : Walk (IeB K b a) xs.length (fun H => Sq K b H a xs) (YPair (fun i => some (.int (i : Nat))) (fun i => xs[i]?)) := by
  cases b
  · refine ⟨fun i H hi q => ⟨xs, xs[i], q, by simp [hi]⟩, fun H q => ⟨xs, q, Nat.le_refl _⟩, fun i H v H' hi q y => ?_⟩
    obtain ⟨T, x, e1, e2, e3, e4⟩ := y
    exact ⟨T, _, x, e1, e2, e3, rfl, e4 xs q⟩
  · exact walk_enum
theorem turn_enumT {P : Program} {w : World} {K : PySem.W.Frag} {elts : List Expr} {kk : Nat} {tpos : Pos} (a e it : Addr) (hai : a ≠ it) (hae : a ≠ e) :
    Turn P w K (.Tuple elts kk tpos) (IteT K a) [e, it] e (fun i h => (∃ old, IsEnum h e it ((i : Nat) : Int) old) ∧ h.IsTupleIter it a i ∧ e ≠ it) where
  mem := List.mem_cons_self
  obj := fun i h st b hb => by
    obtain ⟨⟨old, he⟩, ⟨o, ho, hc, hd⟩, _⟩ := st
    rcases List.mem_cons.mp hb with rfl | hb
    · exact ⟨_, he, fun v q => nomatch q⟩
    · obtain rfl := List.mem_singleton.mp hb
      exact ⟨o, ho, fun v q => nomatch (hd.symm.trans q)⟩
  keep := fun i h h' st k => by
    obtain ⟨⟨old, he⟩, ⟨o, ho, r⟩, ne⟩ := st
    exact ⟨⟨old, k e (by simp) _ he⟩, ⟨o, k it (by simp) _ ho, r⟩, ne⟩
  item := by
    rintro X rfl rfl rfl calm i pins s σ H E I apart st ⟨xs, x, hq, hx⟩
    obtain ⟨⟨old, he⟩, hit, ne⟩ := st
    obtain ⟨its, rv, p, small⟩ := I.tuple hq
    obtain ⟨u, hu, ru⟩ := rv.get hx
    have el : e < s.heap.objs.size := Heap.lt_size he
    have il : it < s.heap.objs.size := hit.elim fun o q => Heap.lt_size q.1
    have hp : s.heap.IsTuple a its.toArray := p
    have len : i < its.toArray.size := by
      have := (List.getElem?_eq_some_iff.mp hu).1
      simpa using this
    have D := Draws.tuple (prog := X.prog) (w := X.w) (A := X.A.in1) (I.ok.hd calm) it a hai its.toArray
    refine wpAny_pyNext_enum_itemD D he ⟨hit, hp⟩ len ne (by simp [ne, hae.symm]) fun v h' tk hv out st' pair sz keep => ⟨_, rfl, wpAny_letOwnedTupleGo_enum (s := { s with heap := h', toks := tk + 1 }) out fun h'' he' but => ?_⟩
    obtain rfl : v = u := Option.some.inj (hv.symm.trans (by simpa using hu))
    have pair' : h''.get? s.heap.objs.size = some { cls := .type "tuple", data := .seq #[.int i tk, v] } := (but.2 _ (Nat.ne_of_gt el)).trans pair
    have off : ∀ b, b ∉ [e, it] → b ≠ e ∧ b ≠ it := fun b hb => ⟨fun q => hb (by simp [q]), fun q => hb (by simp [q])⟩
    have I1 : Inv X pins σ (upd H s.heap.objs.size (.tup [.int (i : Nat), x])) { s with heap := h'', toks := tk + 1 } :=
      I.turnedNew (ch := [e, it]) (fun b ob hb q => (but.2 b (off b hb).1).trans (keep b ob (off b hb).1 (off b hb).2 q)) apart (Nat.le_refl _) ⟨by show 2 ≤ sizeLine; decide, [.int i tk, v], .cons ⟨_, rfl⟩ (.cons ru .nil), ⟨_, pair', rfl, _, rfl⟩⟩
    obtain ⟨⟨oi, hoi, ri⟩, _⟩ := st'
    have nxt : ((i + 1 : Nat) : Int) = (i : Int) + 1 := by omega
    refine ⟨.ref s.heap.objs.size, _, I1, rfl, ⟨_, x, rfl, I.hok.fresh (Nat.le_refl _), rfl, fun ys hy => ?_⟩, ⟨⟨v, by rw [nxt]; exact he'⟩, ⟨oi, (but.2 it ne.symm).trans hoi, ri⟩, ne⟩, fun b hb => ?_⟩
    · obtain rfl := I.tuple_inj hy hq
      exact hx
    · have lt : b < s.heap.objs.size := by
        rcases List.mem_cons.mp hb with rfl | hb
        · exact el
        · exact List.mem_singleton.mp hb ▸ il
      exact (upd_ne (Nat.ne_of_lt lt)).trans (apart b hb).1
  done := by
    rintro X rfl rfl rfl calm i pins s σ H E I apart st ⟨xs, hq, hx⟩
    obtain ⟨⟨old, he⟩, hit, ne⟩ := st
    obtain ⟨its, rv, p, small⟩ := I.tuple hq
    have hp : s.heap.IsTuple a its.toArray := p
    have none : its.toArray[i]? = none := by
      have l := rv.length
      rw [List.getElem?_toArray]
      exact List.getElem?_eq_none (by omega)
    have hd : X.A.in1.handled = .none := I.ok.hd calm
    obtain ⟨f0, f1, f2, f3, f4, f5⟩ := apart it (by simp)
    refine enumT_end hd he hit hp none fun h' eb => ⟨rfl, I.turned (t' := s.toks) (fun b o hb q => eb b o hb q) f0 f1 f3 f4 f5⟩
  self := fun A i s Q E st h => st.1.elim fun _ he => wpAny_pyIter_enum he h
def iEnumB (K : PySem.W.Frag) (ta : TA) : TI := fun σ H R => ta σ H fun vs H1 => ∃ b a xs, vs = [.ref a] ∧ Sq K b H1 a xs ∧ R (IeB K b a) H1
theorem pi_enumB {X : Cx} {e : Expr} {ta : TA} {p pos tpos : Pos} {elts : List Expr} {kk : Nat} (hg : Gl X "enumerate") (hm : X.mg "enumerate" = none) (ha : PA X [e] ta) (one : starEach [e] X.env = [(false, eval e X.env)] := by rfl) :
    PI X (.Tuple elts kk tpos) (.Call (.Name "enumerate" p) [e] [] pos) (iEnumB X.K ta) := by
  refine ⟨fun pins s σ H R I h => Call_ (ld_blt I hg hm boot_enumerate (PyProof.Rows.callWith_type1 (thn (ha.run pos pins s σ H _ I h) fun us s1 got => ?_) one rfl))⟩
  obtain ⟨vs, H1, I1, r1, b, a, xs, rfl, hs, q⟩ := got
  obtain ⟨u, rfl, ru⟩ : ∃ u, us = [u] ∧ RelV (.ref a) u := by
    cases r1 with
    | cons r rr => cases rr; exact ⟨_, rfl, r⟩
  obtain rfl : u = Value.ref a := ru
  have young : ∀ b ∈ [s1.heap.objs.size + 1, s1.heap.objs.size], s1.heap.objs.size ≤ b := fun b hb => by
    rcases List.mem_cons.mp hb with rfl | hb
    · exact Nat.le_add_right _ _
    · exact Nat.le_of_eq (List.mem_singleton.mp hb).symm
  have fp : ∀ b ∈ [s1.heap.objs.size + 1, s1.heap.objs.size], FpOk X pins H1 b := fun b hb => I1.fpOk (young b hb) (I1.hok.fresh (young b hb))
  cases b
  · obtain ⟨its, _, p, _⟩ := I1.tuple hs
    have hp : s1.heap.IsTuple a its.toArray := p
    have la : a < s1.heap.objs.size := hp.elim fun o q => Heap.lt_size q.1
    refine call_enumerate_tuple hp fun h' he hit keep => wpAny_pyIter_enum he ⟨s1.heap.objs.size + 1, _, _, _, H1, rfl, I1.kept (t' := s1.toks) keep, turn_enumT a (s1.heap.objs.size + 1) s1.heap.objs.size (Nat.ne_of_lt la) (Nat.ne_of_lt (Nat.lt_succ_of_lt la)), ⟨⟨.none, he⟩, hit, Nat.succ_ne_self _⟩, fp, q⟩
  · obtain ⟨its, _, p, _⟩ := I1.list hs
    exact call_enumerate_list p.isList fun h' he hit _ keep => wpAny_pyIter_enum he ⟨s1.heap.objs.size + 1, _, _, _, H1, rfl, I1.kept (t' := s1.toks) keep, turn_enum a (s1.heap.objs.size + 1) s1.heap.objs.size, ⟨⟨.none, he⟩, hit, Nat.succ_ne_self _⟩, fp, q⟩
/-- a comprehension of a dict over any walk -/
theorem dc_it {J : It} {n : Nat} {G : Hp → Prop} {Y : Nat → Hp → V → Hp → Prop} (w : Walk J n G Y) {g : TG} {tt : TT} {tk tv : TE} {vs : List Nat} {σ : L2.St} {H1 : Hp} {D : Addr} {o0 : HO} {Qd : Hp → Prop} (Pv : Nat → Hp → Prop) (start : Pv 0 (upd H1 D o0)) (stay : ∀ i H, i ≤ n → Pv i H → G H)
    (turn : ∀ i x H H', i < n → Pv i H → Y i H x H' → turnP D g tt tk tv vs σ (Pv (i + 1)) x H') (fin : ∀ H, Pv n H → Qd H) :
    ∃ W : Nat → Nat → Hp → Prop, (∃ m, W 0 m (upd H1 D o0)) ∧ ∀ i m H2, W i m H2 → (J.stop i H2 ∧ Qd H2) ∨ (J.go i H2 ∧ ∃ Nx : Hp → Prop, (∀ H3, Nx H3 → ∃ m', m' < m ∧ W (i + 1) m' H3) ∧ ∀ x H3, J.yld i H2 x H3 → turnP D g tt tk tv vs σ Nx x H3) := by
  refine ⟨fun i m H => i + m = n ∧ Pv i H, ⟨n, Nat.zero_add n, start⟩, fun i m H st => ?_⟩
  obtain ⟨sum, pv⟩ := st
  have g := stay i H (by omega) pv
  match m, sum with
  | 0, sum =>
    obtain rfl : i = n := sum
    exact .inl ⟨w.stops H g, fin H pv⟩
  | m + 1, sum => exact .inr ⟨w.goes i H (by omega) g, Pv (i + 1), fun H3 p3 => ⟨m, Nat.lt_succ_self m, by omega, p3⟩, fun x H3 y => turn i x H H3 (by omega) pv (w.yields i H x H3 (by omega) g y)⟩
end EV
namespace K6
open PySem PySem.Spec PyProof.Rows L2 LamX NdefX EV
def top (i : Nat) : Stmt := PySem.Challenge.pw_lastopen_k13_drawings_told.main.body.getD i (.Pass ⟨0, 0, 0, 0⟩)
abbrev sDraw : Stmt := top 41
abbrev sPick : Stmt := top 42
abbrev sMixed : Stmt := top 43
abbrev sSame : Stmt := top 44
abbrev sFresh : Stmt := top 45
abbrev sNames : Stmt := top 46
abbrev sNeg : Stmt := top 47
abbrev sUp : Stmt := top 48
abbrev sChase : Stmt := top 49
abbrev sHalf : Stmt := top 50
abbrev sSided : Stmt := top 51
abbrev sClause : Stmt := top 52
abbrev sCode : Stmt := top 53
abbrev sOnce : Stmt := top 54
abbrev sMade : Stmt := top 55
abbrev sLoose : Stmt := top 56
abbrev sEnds : Stmt := top 57
abbrev sLaw : Stmt := top 58
abbrev sIsName : Stmt := top 10
abbrev sIsList : Stmt := top 11
abbrev sNameOf : Stmt := top 12
abbrev sOpp : Stmt := top 13
abbrev sChkNames : Stmt := top 14
abbrev sLits : Stmt := top 16
abbrev sPlaces : Stmt := top 17
abbrev sInOrder : Stmt := top 18
abbrev sWrong : Stmt := top 19
abbrev sIsClause : Stmt := top 20
abbrev sChkSetting : Stmt := top 21
abbrev sChkCl : Stmt := top 29
abbrev sSameNames : Stmt := top 31
abbrev sNumbered : Stmt := top 32
abbrev sIsIndex : Stmt := top 33
abbrev sDrawings : Stmt := top 35
abbrev sAre : Stmt := top 36
abbrev sTrailOf : Stmt := top 37
abbrev sPlacesIn : Stmt := top 38
abbrev sDrawingsOn : Stmt := top 39
/-! ### the stream of draws: at S a list of the cells' list at L, the digits' cell, the number of draws, the mixed number -/
def StreamAt (H : Hp) (S L : Addr) (c : Nat) : Prop := ∃ (ns : List Int) (a m : Int), H S = some (.lst [.ref L, .int a, .int (c : Int), .int m]) ∧ H L = some (.lst (ns.map V.int)) ∧ 0 ≤ a ∧ 0 ≤ m ∧ m < 2147483647 ∧ ns.length ≤ 63
theorem StreamAt.ne {H : Hp} {S L : Addr} {c : Nat} (h : StreamAt H S L c) : S ≠ L := by
  obtain ⟨ns, a, m, h1, h2, _⟩ := h
  refine ne_of h1 h2 fun z => ?_
  cases ns with
  | nil => cases z
  | cons n r => cases z
/-- all but the two objects of the stream stay -/
def Kept (S L : Addr) (H H' : Hp) : Prop := ∀ b o, H b = some o → b ≠ S → b ≠ L → H' b = some o
theorem Kept.refl {S L : Addr} (H : Hp) : Kept S L H H := fun _ _ h _ _ => h
theorem Kept.trans {S L : Addr} {H H1 H2 : Hp} (a : Kept S L H H1) (b : Kept S L H1 H2) : Kept S L H H2 := fun x o h h1 h2 => b x o (a x o h h1 h2) h1 h2
/-- a draw: a number from 0 to many - 1 -/
def spDraw : Sp := fun vs H Q _ => ∃ (S L : Addr) (many : Int) (c : Nat), vs = [.ref S, .int many] ∧ 0 < many ∧ many ≤ 1000 ∧ c ≤ 100000 ∧ StreamAt H S L c ∧
  ∀ (r : Int) (H' : Hp), 0 ≤ r → r < many → StreamAt H' S L (c + 1) → Kept S L H H' → Q (.int r) H'
section
variable {P : Program} {w : World} {K : PySem.W.Frag} {mg : Str → Option Value} {base : Heap}
theorem scDraw : FnScope ["_law_stream", "_law_many", "_law_digit", "_law_mixed_here"] ["_law_stream", "_law_many"] (defScope sDraw) := ⟨rfl, rfl, rfl, by decide +kernel, rfl, by decide +kernel, by decide +kernel⟩
theorem dp_ints {H : Hp} : ∀ ns : List Int, DpAll K H (ns.map V.int) (ns.map PyData.int)
  | [] => .nil
  | n :: r => .cons (.int n) (dp_ints r)
theorem lay_ints : ∀ ns : List Int, PyData.canLayAll0 (ns.map PyData.int) = true ∧ PyData.depthAll (ns.map PyData.int) ≤ 2
  | [] => ⟨rfl, Nat.zero_le _⟩
  | n :: r => by
    obtain ⟨h1, h2⟩ := lay_ints r
    refine ⟨?_, ?_⟩
    · simp only [List.map_cons, PyData.canLayAll0, PyData.canLay0, h1, Bool.and_self]
    · simp only [List.map_cons, PyData.depthAll, PyData.depth]
      omega
theorem shaped_ints (ns : List Int) : SeqAt.shaped (.list (ns.map PyData.int)) = true := by
  obtain ⟨h1, h2⟩ := lay_ints ns
  refine Bool.and_eq_true_iff.mpr ⟨?_, decide_eq_true ?_⟩
  · simp only [PyData.canLay0, h1]
  · simp only [PyData.depth]
    omega
theorem eqv_nil : ∀ ns : List Int, PyData.eqv (.list (ns.map PyData.int)) (.list []) = decide (ns = [])
  | [] => rfl
  | n :: r => by simp [PyData.eqv, PyData.eqvAll]
theorem ok_draw {f : Addr} {fd : FuncData} (F : Fun K "_law_draw" "_law_draw" sDraw f fd) (mi : mg "int" = none) : FnOk P w K mg base CX0 1 f fd ["_law_stream", "_law_many"] spDraw := by
  refine F.ok scDraw (fun vs H Q E h => ?_) (fun cdv A outer s H vs Q E hr h => ?_)
  · obtain ⟨S, L, many, c, rfl, _⟩ := h
    rfl
  · obtain ⟨S, L, many, c, rfl, m0, m1, hc, ⟨ns, a, m, hS, hL, a0, h0, h1, hn⟩, k⟩ := h
    have hu := hu_of hr
    have nSL : S ≠ L := StreamAt.ne ⟨ns, a, m, hS, hL, a0, h0, h1, hn⟩
    -- what stands behind the first if
    obtain ⟨tt, htt, hrest⟩ : ∃ tt, PSs (cxOf CX0 P w K mg base ["_law_stream", "_law_many", "_law_digit", "_law_mixed_here"] "_law_draw" (defScope sDraw) f cdv A outer s H E).nox ((defBody sDraw).drop 2) tt ∧
        ∀ (ns : List Int) (a m : Int) (H1 : Hp), H1 S = some (.lst [.ref L, .int a, .int ((c : Int) + 1), .int m]) → H1 L = some (.lst (ns.map V.int)) → 0 ≤ a → 0 ≤ m → m < 2147483647 → ns.length ≤ 63 → Kept S L H H1 →
          tt { nx := fun _ H' => Q .non H', rt := Q } [some (.ref S), some (.int many), none, none] H1 := by
      refine ⟨_, pss_cons (ps_if (pt_cmpR op_gt (pe_ix ix_list (pv 0) pe_int (fun _ _ => rfl)) pe_int (nomark _))
        (pss_cons (ps_set (i := 2) scDraw.nd rfl (.inl rfl) (pe_op op_modN (pe_callTy call_int1 (by rfl) mi (by decide +kernel) (pa_cons (pe_ix ix_list (pv 0) pe_int (fun _ _ => rfl)) pa_nil)) (pv 1)))
        (pss_cons (ps_asg (pe_op op_fdivN (pe_ix ix_list (pv 0) pe_int (fun _ _ => rfl)) (pv 1)) (pg_sub (pv 0) pe_int set_list))
        (pss_one (ps_ret (pv 2))))) pss_nil)
        (pss_cons (ps_set (i := 3) scDraw.nd rfl (.inl rfl) (pe_op op_mod (pe_op op_pow (pe_op op_add (pe_op op_add (pe_ix ix_list (pv 0) pe_int (fun _ _ => rfl)) (pe_op op_mul pe_int (pe_ix ix_list (pv 0) pe_int (fun _ _ => rfl)))) pe_int) pe_int) pe_int))
        (pss_one (ps_ret (pe_op op_modN (pe_op op_mod (pe_op op_pow (pe_op op_add (pe_op op_add (pe_op op_mul (pv 3) pe_int) (pe_op op_mul (pe_op op_mul pe_int (pe_ix ix_list (pv 0) pe_int (fun _ _ => rfl))) (pe_ix ix_list (pv 0) pe_int (fun _ _ => rfl)))) pe_int) pe_int) pe_int) (pv 1))))), fun ns a m H1 hS hL a0 h0 h1 hn hk => ?_⟩
      refine ⟨_, rfl, S, _, 1, _, rfl, rfl, SqL.of hS, rfl, _, _, rfl, rfl, _, rfl, ?_⟩
      refine ite2 (fun hp => ?_) (fun hp => ?_)
      · have ha : 0 < a := by simpa using hp
        refine ⟨_, rfl, S, _, 1, _, rfl, rfl, SqL.of hS, rfl, .inl ⟨_, rfl, _, rfl, _, _, rfl, rfl, (by omega), ?_⟩⟩
        refine ⟨_, rfl, S, _, 1, _, rfl, rfl, SqL.of hS, rfl, _, rfl, _, _, rfl, rfl, ⟨(by omega), (by omega)⟩, _, rfl, S, _, 1, 1, rfl, rfl, hS, rfl, _, rfl, ?_⟩
        have r0 := Int.fmod_nonneg_of_pos a m0
        have r1 := Int.fmod_lt_of_pos a m0
        refine k _ _ r0 r1 ⟨ns, a.fdiv many, m, upd_same, (upd_ne nSL.symm).trans hL, Int.fdiv_nonneg a0 (by omega), h0, h1, hn⟩ fun b o e n1 n2 => (upd_ne n1).trans (hk b o e n1 n2)
      · refine ⟨_, rfl, S, _, 3, _, rfl, rfl, SqL.of hS, rfl, _, rfl, S, _, 2, _, rfl, rfl, SqL.of hS, rfl, _, _, rfl, rfl, .inl ⟨(by decide), (by decide)⟩, _, _, rfl, rfl, _, _, rfl, rfl, _, _, rfl, rfl, ⟨(by decide), (by decide), ?_⟩, _, _, rfl, rfl, (by show (0 : Int) < 2147483629; decide), ?_⟩
        · show (m + 104729 * ((c : Int) + 1) + 17).natAbs < 2 ^ 64
          omega
        have g0 := Int.emod_nonneg ((m + 104729 * ((c : Int) + 1) + 17) ^ (5 : Int).toNat) (show (2147483629 : Int) ≠ 0 by decide)
        have g1 := Int.emod_lt_of_pos ((m + 104729 * ((c : Int) + 1) + 17) ^ (5 : Int).toNat) (show (0 : Int) < 2147483629 by decide)
        have hcc : ((c : Int) + 1) * ((c : Int) + 1) ≤ 100001 * 100001 := Int.mul_le_mul (by omega) (by omega) (by omega) (by omega)
        have hc0 : 0 ≤ ((c : Int) + 1) * ((c : Int) + 1) := Int.mul_nonneg (by omega) (by omega)
        have hca : 40503 * ((c : Int) + 1) * ((c : Int) + 1) = 40503 * (((c : Int) + 1) * ((c : Int) + 1)) := Int.mul_assoc ..
        refine ⟨_, rfl, _, _, rfl, rfl, .inl ⟨(by omega), (by omega)⟩, _, rfl, S, _, 2, _, rfl, rfl, SqL.of hS, rfl, _, _, rfl, rfl, .inl ⟨(by decide), (by decide)⟩, _, rfl, S, _, 2, _, rfl, rfl, SqL.of hS, rfl, _, _, rfl, rfl, .inl ⟨(by show -(2 ^ 64) < 40503 * ((c : Int) + 1); omega), (by show 40503 * ((c : Int) + 1) < 2 ^ 64; omega)⟩,
          _, _, rfl, rfl, _, _, rfl, rfl, _, _, rfl, rfl, ⟨(by decide), (by decide), ?_⟩, _, _, rfl, rfl, (by show (0 : Int) < 1000000007; decide), _, rfl, _, _, rfl, rfl, (by omega), ?_⟩
        · show ((m + 104729 * ((c : Int) + 1) + 17) ^ (5 : Int).toNat % 2147483629 * 48271 + 40503 * ((c : Int) + 1) * ((c : Int) + 1) + 13).natAbs < 2 ^ 64
          rw [hca]
          generalize ((m + 104729 * ((c : Int) + 1) + 17) ^ (5 : Int).toNat) % 2147483629 = y at g0 g1 ⊢
          omega
        exact k _ _ (Int.fmod_nonneg_of_pos _ m0) (Int.fmod_lt_of_pos _ m0) ⟨ns, a, m, hS, hL, a0, h0, h1, hn⟩ hk
    refine ⟨_, pss_cons (ps_asg (pe_op op_add (pe_ix ix_list (pv 0) pe_int (fun _ _ => rfl)) pe_int) (pg_sub (pv 0) pe_int set_list))
      (pss_cons (ps_if (PW.pt (pw_and (pt_cmpR op_eq (pe_ix ix_list (pv 0) pe_int (fun _ _ => rfl)) pe_int (nomark _)) (pw_and1 (pt_cmpR (op_neD hr.units) (pe_ix ix_list (pv 0) pe_int (fun _ _ => rfl)) (pe_lst pa_nil) (nomark _)))))
        (pss_cons (ps_asg (pe_bm PySem.F.plainAttrs_list PySem.F.slot_list_pop PySem.F.type_list_pop mt_popAt (pe_ix ix_list (pv 0) pe_int (fun _ _ => rfl)) (pa_cons pe_int pa_nil)) (pg_sub (pv 0) pe_int set_list))
        (pss_one (ps_if (pt_cmpR op_lt (pe_ix ix_list (pv 0) pe_int (fun _ _ => rfl)) (pe_op op_pow pe_int pe_int) (nomark _))
          (pss_cons (ps_asg (pe_op op_mod (pe_callTy call_int1 (by rfl) mi (by decide +kernel) (pa_cons (pe_op op_add (pe_op op_add (pe_op op_mul (pe_ix ix_list (pv 0) pe_int (fun _ _ => rfl)) pe_int) (pe_ix ix_list (pv 0) pe_int (fun _ _ => rfl))) pe_int) pa_nil)) pe_int) (pg_sub (pv 0) pe_int set_list))
          (pss_one (ps_asg pe_int (pg_sub (pv 0) pe_int set_list)))) pss_nil))) pss_nil) htt), ?_⟩
    refine ⟨_, rfl, S, _, 2, _, rfl, rfl, SqL.of hS, rfl, _, _, rfl, rfl, _, rfl, S, _, 2, 2, rfl, rfl, hS, rfl, ?_⟩
    have hS1 : upd H S (.lst [.ref L, .int a, .int ((c : Int) + 1), .int m]) S = some (.lst [.ref L, .int a, .int ((c : Int) + 1), .int m]) := upd_same
    have hL1 : upd H S (.lst [.ref L, .int a, .int ((c : Int) + 1), .int m]) L = some (.lst (ns.map V.int)) := (upd_ne nSL.symm).trans hL
    have hK1 : Kept S L H (upd H S (.lst [.ref L, .int a, .int ((c : Int) + 1), .int m])) := fun b o e n1 n2 => (upd_ne n1).trans e
    refine ⟨_, rfl, S, _, 1, _, rfl, rfl, SqL.of hS1, rfl, rfl, _, rfl, ?_⟩
    refine ite2 (fun he => ?_) (fun _ => hrest ns a m _ hS1 hL1 a0 h0 h1 hn hK1)
    -- the second half of the test: is the cells' list empty
    refine ⟨_, rfl, S, _, 0, _, rfl, rfl, SqL.of hS1, rfl, (by show 0 ≤ sizeLine; exact Nat.zero_le _), fun p hp => ?_⟩
    have nSp : S ≠ p := ne_of_none hS1 hp
    have nLp : L ≠ p := ne_of_none hL1 hp
    refine ⟨_, _, .lst (SqL.of ((upd_ne nLp).trans hL1)) (dp_ints ns), .lst (SqL.of upd_same) .nil, shaped_ints ns, rfl, _, rfl, ?_⟩
    have hS2 := (upd_ne (H := upd H S (.lst [.ref L, .int a, .int ((c : Int) + 1), .int m])) (o := HO.lst []) nSp).trans hS1
    have hL2 := (upd_ne (H := upd H S (.lst [.ref L, .int a, .int ((c : Int) + 1), .int m])) (o := HO.lst []) nLp).trans hL1
    have hK2 : Kept S L H (upd (upd H S (.lst [.ref L, .int a, .int ((c : Int) + 1), .int m])) p (.lst [])) := fun b o e n1 n2 => (upd_ne (ne_of_none (hK1 b o e n1 n2) hp)).trans (hK1 b o e n1 n2)
    rw [eqv_nil]
    cases ns with
    | nil => exact iteF (hrest [] a m _ hS2 hL2 a0 h0 h1 hn hK2)
    | cons z zs =>
      refine iteT ?_
      have hz : zs.length ≤ 62 := by rw [List.length_cons] at hn; omega
      -- the first cell is taken out and looked at
      refine ⟨_, rfl, S, _, 0, _, rfl, rfl, SqL.of hS2, rfl, .inl ⟨rfl, _, SqL.of hL2⟩, L, _, 0, 0, _, rfl, rfl, hL2, (by decide), (by decide), (by rw [List.length_map, List.length_cons]; unfold seqIndex?; simp), rfl, _, rfl, S, _, 1, 1, rfl, rfl, (upd_ne nSL).trans hS2, rfl, ?_⟩
      have hS3 : ∀ (H9 : Hp) (o : HO), upd H9 S o S = some o := fun _ _ => upd_same
      have hL3 : ∀ (H9 : Hp) (o o' : HO), upd (upd H9 L o) S o' L = some o := fun _ _ _ => (upd_ne nSL.symm).trans upd_same
      have hK3 : ∀ (o o' : HO), Kept S L H (upd (upd (upd (upd H S (.lst [.ref L, .int a, .int ((c : Int) + 1), .int m])) p (.lst [])) L o) S o') := fun o o' b u e n1 n2 => (upd_ne n1).trans ((upd_ne n2).trans (hK2 b u e n1 n2))
      refine ⟨_, rfl, S, _, 1, _, rfl, rfl, SqL.of (hS3 _ _), rfl, _, _, rfl, rfl, ⟨(by decide), (by decide), (by decide)⟩, _, _, rfl, rfl, _, rfl, ?_⟩
      refine ite2 (fun hlt => ?_) (fun hge => ?_)
      · refine ⟨_, rfl, S, _, 3, _, rfl, rfl, SqL.of (hS3 _ _), rfl, _, _, rfl, rfl, .inl ⟨(by omega), (by omega)⟩, _, rfl, S, _, 1, _, rfl, rfl, SqL.of (hS3 _ _), rfl, _, _, rfl, rfl, _, _, rfl, rfl, .inl ⟨_, rfl, _, _, rfl, rfl, (by show (0 : Int) < 2147483647; decide), _, rfl, S, _, 3, 3, rfl, rfl, hS3 _ _, rfl, _, rfl, S, _, 1, 1, rfl, rfl, hS3 _ _, rfl, ?_⟩⟩
        exact hrest zs 0 ((m * 31 + z + 7) % 2147483647) _ upd_same ((upd_ne nSL.symm).trans ((upd_ne nSL.symm).trans (hL3 _ _ _))) (by decide) (Int.emod_nonneg _ (by decide)) (Int.emod_lt_of_pos _ (by decide)) (by omega) fun b u e n1 n2 => (upd_ne n1).trans ((upd_ne n1).trans (hK3 _ _ b u e n1 n2))
      · have h9 : (10 : Int) ^ (18 : Int).toNat ≤ z := Int.not_lt.mp fun q => hge (decide_eq_true q)
        have e9 : (10 : Int) ^ (18 : Int).toNat = 1000000000000000000 := by decide
        exact hrest zs z m _ upd_same (hL3 _ _ _) (by omega) h0 h1 (by omega) (hK3 _ _)
end
/-! ### picks -/
def spPickL (K : PySem.W.Frag) : Sp := fun vs H Q _ => ∃ (S L T : Addr) (xs : List V) (c : Nat), vs = [.ref S, .ref T] ∧ SqL K H T xs ∧ (∀ H', Kept S L H H' → SqL K H' T xs) ∧ 0 < xs.length ∧ xs.length ≤ 1000 ∧ c ≤ 100000 ∧ StreamAt H S L c ∧
  ∀ (i : Nat) (v : V) (H' : Hp), xs[i]? = some v → StreamAt H' S L (c + 1) → Kept S L H H' → Q v H'
def spPickS : Sp := fun vs H Q _ => ∃ (S L : Addr) (z : Str) (c : Nat), vs = [.ref S, .str z] ∧ 0 < z.length ∧ z.length ≤ 1000 ∧ c ≤ 100000 ∧ StreamAt H S L c ∧
  ∀ (i : Nat) (ch : Nat) (H' : Hp), z.cps.toList[i]? = some ch → StreamAt H' S L (c + 1) → Kept S L H H' → Q (.str ⟨#[ch]⟩) H'
section
variable {P : Program} {w : World} {K : PySem.W.Frag} {mg : Str → Option Value} {base : Heap}
theorem scPick : FnScope ["_law_stream", "_law_things"] ["_law_stream", "_law_things"] (defScope sPick) := ⟨rfl, rfl, rfl, by decide +kernel, rfl, by decide +kernel, by decide +kernel⟩
theorem at_in {α : Type} {xs : List α} {r : Int} (h0 : 0 ≤ r) (h1 : r < xs.length) : ∃ v, xs[r.toNat]? = some v ∧ atI xs r = some v := by
  have hl : r.toNat < xs.length := by omega
  refine ⟨xs[r.toNat], List.getElem?_eq_getElem hl, ?_⟩
  have z := atI_nat (List.getElem?_eq_getElem hl)
  rwa [Int.toNat_of_nonneg h0] at z
variable {f fD : Addr} {fd fdD : FuncData}
theorem ok_pickL (F : Fun K "_law_pick" "_law_pick" sPick f fd) (GD : FnOk P w K mg base CX0 1 fD fdD ["_law_stream", "_law_many"] spDraw) (mD : mg "_law_draw" = some (.ref fD)) (kD : PySem.W.keepIn K (.ref fD) = true) (bD : L2.Binds K fdD ["_law_stream", "_law_many"] []) (ml : mg "len" = none) :
    FnOk P w K mg base CX0 2 f fd ["_law_stream", "_law_things"] (spPickL K) := by
  refine F.ok scPick (fun vs H Q E h => ?_) (fun cdv A outer s H vs Q E hr h => ?_)
  · obtain ⟨S, L, T, xs, c, rfl, _⟩ := h
    rfl
  · obtain ⟨S, L, T, xs, c, rfl, hT, hT', x0, x1, hc, hS, k⟩ := h
    refine ⟨_, pss_one (ps_ret (pe_ix ix_seq (pv 1) (pe_call GD hr (by rfl) mD kD bD .nil pass0 (pa_cons (pv 0) (pa_cons (pe_callB call_len (by rfl) ml PySem.boot_len (pa_cons (pv 1) pa_nil)) pa_nil))) (fun _ _ => rfl))), ?_⟩
    refine ⟨_, rfl, _, rfl, _, rfl, _, xs.length, rfl, .inl ⟨xs, hT, rfl⟩, S, L, _, c, rfl, by omega, by omega, hc, hS, fun r H' r0 r1 hS' hk => ?_⟩
    obtain ⟨v, e1, e2⟩ := at_in r0 r1
    exact .inl ⟨T, xs, r, v, rfl, rfl, hT' H' hk, e2, k _ v H' e1 hS' hk⟩
theorem ok_pickS (F : Fun K "_law_pick" "_law_pick" sPick f fd) (GD : FnOk P w K mg base CX0 1 fD fdD ["_law_stream", "_law_many"] spDraw) (mD : mg "_law_draw" = some (.ref fD)) (kD : PySem.W.keepIn K (.ref fD) = true) (bD : L2.Binds K fdD ["_law_stream", "_law_many"] []) (ml : mg "len" = none) :
    FnOk P w K mg base CX0 2 f fd ["_law_stream", "_law_things"] spPickS := by
  refine F.ok scPick (fun vs H Q E h => ?_) (fun cdv A outer s H vs Q E hr h => ?_)
  · obtain ⟨S, L, z, c, rfl, _⟩ := h
    rfl
  · obtain ⟨S, L, z, c, rfl, x0, x1, hc, hS, k⟩ := h
    refine ⟨_, pss_one (ps_ret (pe_ix ix_seq (pv 1) (pe_call GD hr (by rfl) mD kD bD .nil pass0 (pa_cons (pv 0) (pa_cons (pe_callB call_len (by rfl) ml PySem.boot_len (pa_cons (pv 1) pa_nil)) pa_nil))) (fun _ _ => rfl))), ?_⟩
    have hz : z.length ≤ sizeLine := by rw [sizeLine_eq]; omega
    refine ⟨_, rfl, _, rfl, _, rfl, _, z.length, rfl, ⟨hz, rfl⟩, S, L, _, c, rfl, by omega, by omega, hc, hS, fun r H' r0 r1 hS' hk => ?_⟩
    obtain ⟨ch, e1, e2⟩ := at_in (xs := z.cps.toList) r0 (by rw [Array.length_toList]; exact r1)
    exact .inr (.inr ⟨z, r, ch, rfl, rfl, hz, e2, k _ ch H' e1 hS' hk⟩)
/-! ### the same shown text -/
def spSame (K : PySem.W.Frag) : Sp := fun vs H Q _ => ∃ (x y : V) (d : PyData), vs = [x, y] ∧ Dq K H x d ∧ Dq K H y d ∧ d.showable = true ∧ d.shown.length ≤ sizeLine ∧ d.depth ≤ 60 ∧ Q (.bl true) H
theorem scSame : FnScope ["_law_found", "_law_due"] ["_law_found", "_law_due"] (defScope sSame) := ⟨rfl, rfl, rfl, by decide +kernel, rfl, by decide +kernel, by decide +kernel⟩
theorem ok_same (F : Fun K "_law_same" "_law_same" sSame f fd) (mr : mg "repr" = none) : FnG P w K mg base 1 f fd ["_law_found", "_law_due"] (spSame K) := by
  refine fng_of F scSame (fun vs H Q E h => ?_) (fun cdv A outer s H vs Q E hg hr h => ?_)
  · obtain ⟨x, y, d, rfl, _⟩ := h
    rfl
  · obtain ⟨x, y, d, rfl, hx, hy, h1, h2, h3, k⟩ := h
    refine ⟨_, pss_one (ps_ret (pe_cmpR op_eq (pe_callB (call_reprD hg hr.units) (by rfl) mr (by decide +kernel) (pa_cons (pv 0) pa_nil)) (pe_callB (call_reprD hg hr.units) (by rfl) mr (by decide +kernel) (pa_cons (pv 1) pa_nil)) (nomark _))), ?_⟩
    refine ⟨_, rfl, _, d, rfl, hx, h1, h2, h3, _, rfl, _, d, rfl, hy, h1, h2, h3, rfl, ?_⟩
    show Q (.bl (decide (V.str d.shown = V.str d.shown))) H
    rw [decide_eq_true rfl]
    exact k
end
end K6
namespace K6
open PySem PySem.Spec PyProof.Rows L2 LamX NdefX EV
theorem StreamAt.new {H : Hp} {S L p : Addr} {c : Nat} {o : HO} (h : StreamAt H S L c) (hp : H p = none) : StreamAt (upd H p o) S L c := by
  obtain ⟨ns, a, m, e1, e2, r⟩ := h
  exact ⟨ns, a, m, (upd_ne (ne_of_none e1 hp)).trans e1, (upd_ne (ne_of_none e2 hp)).trans e2, r⟩
theorem StreamAt.off {H : Hp} {S L p : Addr} {c : Nat} (h : StreamAt H S L c) (hp : H p = none) : p ≠ S ∧ p ≠ L := by
  obtain ⟨ns, a, m, e1, e2, r⟩ := h
  exact ⟨(ne_of_none e1 hp).symm, (ne_of_none e2 hp).symm⟩
theorem StreamAt.put {H : Hp} {S L p : Addr} {c : Nat} {o : HO} (h : StreamAt H S L c) (n1 : p ≠ S) (n2 : p ≠ L) : StreamAt (upd H p o) S L c := by
  obtain ⟨ns, a, m, e1, e2, r⟩ := h
  exact ⟨ns, a, m, (upd_ne n1.symm).trans e1, (upd_ne n2.symm).trans e2, r⟩
theorem Kept.new {S L p : Addr} {H H' : Hp} {o : HO} (k : Kept S L H H') (hp : H p = none) : Kept S L H (upd H' p o) := fun b u e n1 n2 => (upd_ne (ne_of_none e hp)).trans (k b u e n1 n2)
theorem Kept.none {S L p : Addr} {H H' : Hp} (k : Kept S L H H') (h : H' p = none) (n1 : p ≠ S) (n2 : p ≠ L) : H p = none := by
  cases e : H p with
  | none => rfl
  | some o =>
    have z := k p o e n1 n2
    rw [h] at z
    exact nomatch z
section
variable {X : Cx} {Kf : PySem.W.Frag} {T name id : String} {o e : Expr} {es : List Expr} {apos cpos : Pos} {to : TE} {t : TA} {r : List V → Hp → VK → Prop}
/-- as the library's rules, the fragment named: so they serve within a comprehension's block -/
theorem len_k (hK : X.K = Kf := by rfl) : CallR X (.builtin "len") (fun xs H Q => ∃ x n, xs = [x] ∧ LenV Kf x H n ∧ Q (.int n) H) := by
  subst hK
  exact call_len
end
theorem seq_at {r : Int} {n : Nat} (h0 : 0 ≤ r) (h1 : r < n) : seqIndex? r n = some r.toNat := by
  unfold seqIndex?
  simp only [show ¬ r < 0 by omega, if_false]
  rw [if_pos (by simp; omega)]
theorem perm_erase {α : Type} : ∀ (xs : List α) (i : Nat) (v : α), xs[i]? = some v → (v :: xs.eraseIdx i).Perm xs
  | [], i, v, h => by simp at h
  | x :: r, 0, v, h => by
    obtain rfl : x = v := by simpa using h
    exact .refl _
  | x :: r, i + 1, v, h => (List.Perm.swap x v _).trans ((perm_erase r i v (by simpa using h)).cons x)
/-! ### a list in another order -/
def spMixed (K : PySem.W.Frag) : Sp := fun vs H Q _ => ∃ (S L T : Addr) (b : Bool) (xs : List V) (c : Nat), vs = [.ref S, .ref T] ∧ Sq K b H T xs ∧ xs.length ≤ 1000 ∧ c + xs.length ≤ 100000 ∧ StreamAt H S L c ∧
  ∀ (ys : List V) (p : Addr) (H' : Hp), ys.Perm xs → H p = none → H' p = some (.lst ys) → StreamAt H' S L (c + xs.length) → Kept S L H H' → Q (.ref p) H'
section
variable {P : Program} {w : World} {K : PySem.W.Frag} {mg : Str → Option Value} {base : Heap} {f fD : Addr} {fd fdD : FuncData}
abbrev nMixed : List Str := ["_law_stream", "_law_things", "_law_left", "_law_k"]
theorem scMixed : FnScope nMixed ["_law_stream", "_law_things"] (defScope sMixed) := ⟨rfl, rfl, rfl, by decide +kernel, rfl, by decide +kernel, by decide +kernel⟩
theorem ok_mixed (F : Fun K "_law_mixed" "_law_mixed" sMixed f fd) (GD : FnOk P w K mg base CX0 1 fD fdD ["_law_stream", "_law_many"] spDraw) (mD : mg "_law_draw" = some (.ref fD)) (kD : PySem.W.keepIn K (.ref fD) = true) (bD : L2.Binds K fdD ["_law_stream", "_law_many"] []) (ml : mg "len" = none) (mr : mg "range" = none) (mli : mg "list" = none) :
    FnOk P w K mg base CX0 2 f fd ["_law_stream", "_law_things"] (spMixed K) := by
  refine F.ok scMixed (fun vs H Q E h => ?_) (fun cdv A outer s H vs Q E hr h => ?_)
  · obtain ⟨S, L, T, b, xs, c, rfl, _⟩ := h
    rfl
  · obtain ⟨S, L, T, b, xs, c, rfl, hT, hx, hc, hS, k⟩ := h
    refine ⟨_, pss_cons (ps_set (i := 2) scMixed.nd rfl (.inr rfl) (pe_callTy call_list_of (by rfl) mli (by decide +kernel) (pa_cons (pv 1) pa_nil)))
      (pss_one (ps_ret (pe_lc (own := [("_law_k", 3)]) (g := gName 3) (tt := tYes) rfl scMixed.nd (pi_range1 (by rfl) mr (pa_cons (pe_callB call_len (by rfl) ml PySem.boot_len (pa_cons (pv 2) pa_nil)) pa_nil)) (blkOk_by (N := nMixed) (sc := defScope sMixed) (by decide +kernel))
          (fun _ _ _ _ _ => pg_name (i := 3) scMixed.nd rfl (.inl rfl)) (fun _ _ _ _ _ => pts_nil)
          (fun _ _ _ _ _ => show PE _ _ (tBM K _ _ _ _) from pe_bm PySem.F.plainAttrs_list PySem.F.slot_list_pop PySem.F.type_list_pop mt_popAt (pv 2) (pa_cons (pe_call GD hr (by rfl) mD kD bD .nil pass0 (pa_cons (pv 0) (pa_cons (pe_callB (len_k (Kf := K)) (by rfl) ml PySem.boot_len (pa_cons (pv 2) pa_nil)) pa_nil))) pa_nil))))), ?_⟩
    refine ⟨_, rfl, T, xs, rfl, hT.any, fun l hl => ?_⟩
    have lS := hS.off hl
    refine ⟨_, rfl, _, xs.length, rfl, .inl ⟨xs, SqL.of upd_same, rfl⟩, _, rfl, by omega, by omega, fun D hD => lc_range (lo := 0) (n := xs.length) (fun i H2 => ∃ acc rest : List V, (acc ++ rest).Perm xs ∧ acc.length = i ∧ H2 l = some (.lst rest) ∧ H2 D = some (.lst acc) ∧ StreamAt H2 S L (c + i) ∧ Kept S L H H2) ?_ ?_ ?_⟩
    · have nD : l ≠ D := ne_of_none upd_same hD
      exact ⟨[], xs, .refl _, rfl, (upd_ne nD).trans upd_same, upd_same, (hS.new hl).new hD, ((Kept.refl H).new hl).new ((Kept.none ((Kept.refl H).new hl) hD ((hS.new hl).off hD).1 ((hS.new hl).off hD).2))⟩
    · rintro i H2 hi ⟨acc, rest, hp, ha, hl2, hD2, hS2, hk2⟩
      have len : acc.length + rest.length = xs.length := by rw [← List.length_append]; exact hp.length_eq
      have nD : D ≠ S ∧ D ≠ L := (hS.new hl).off hD
      refine ⟨rfl, _, rfl, .inl ⟨rfl, _, SqL.of hl2⟩, _, rfl, _, rfl, _, rest.length, rfl, .inl ⟨rest, SqL.of hl2, rfl⟩, S, L, _, _, rfl, by omega, by omega, by omega, hS2, fun r H3 r0 r1 hS3 hk3 => ?_⟩
      have hl3 := hk3 _ _ hl2 lS.1 lS.2
      have hD3 := hk3 _ _ hD2 nD.1 nD.2
      obtain ⟨v, e1, e2⟩ := at_in r0 r1
      have lt : r.toNat < rest.length := (List.getElem?_eq_some_iff.mp e1).1
      have nlD : D ≠ l := (ne_of_none (show upd H l (.lst xs) l = some (.lst xs) from upd_same) hD).symm
      refine ⟨l, rest, r, r.toNat, v, rfl, rfl, hl3, by omega, by omega, ?_, e1, acc, (upd_ne nlD).trans hD3, by rw [sizeLine_eq]; omega, acc ++ [v], rest.eraseIdx r.toNat, ?_, by rw [List.length_append, ha]; rfl, ?_, upd_same, ?_, ?_⟩
      · exact seq_at r0 r1
      · have z := perm_erase rest r.toNat v e1
        rw [List.append_assoc]
        exact ((List.perm_append_left_iff acc).mpr z).trans hp
      · exact (upd_ne nlD.symm).trans upd_same
      · have z := (hS3.put (o := .lst (rest.eraseIdx r.toNat)) lS.1 lS.2).put (o := .lst (acc ++ [v])) nD.1 nD.2
        exact z
      · exact fun b u e n1 n2 => (upd_ne (ne_of_none ((upd_ne (ne_of_none e hl)).trans e) hD)).trans ((upd_ne (ne_of_none e hl)).trans (hk3 b u (hk2 b u e n1 n2) n1 n2))
    · rintro H2 ⟨acc, rest, hp, ha, hl2, hD2, hS2, hk2⟩
      have len : acc.length + rest.length = xs.length := by rw [← List.length_append]; exact hp.length_eq
      obtain rfl : rest = [] := List.eq_nil_of_length_eq_zero (by omega)
      rw [List.append_nil] at hp
      exact k acc D H2 hp (Kept.none ((Kept.refl H).new hl) hD ((hS.new hl).off hD).1 ((hS.new hl).off hD).2) hD2 hS2 hk2
end
end K6
namespace K6
open PySem PySem.Spec PyProof.Rows L2 LamX NdefX EV
/-! ### names -/
/-- one to eight small letters -/
def Name1 (z : Str) : Prop := 1 ≤ z.length ∧ z.length ≤ 8 ∧ ∀ ch ∈ z.cps.toList, 97 ≤ ch ∧ ch ≤ 122
theorem join_nil : ∀ l : List Nat, TL.joinL [] (l.map fun c => [c]) = l
  | [] => rfl
  | [_] => rfl
  | a :: b :: r => by
    have z := join_nil (b :: r)
    show [a] ++ ([] ++ TL.joinL [] ((b :: r).map fun c => [c])) = a :: b :: r
    rw [z]
    rfl
def signs (l : List Nat) : List Str := l.map fun c => ⟨#[c]⟩
theorem len_signs : ∀ l : List Nat, ((signs l).map (·.length)).sum = l.length
  | [] => rfl
  | a :: r => by
    have z := len_signs r
    show 1 + ((signs r).map (·.length)).sum = r.length + 1
    rw [z]
    omega
theorem join_signs (l : List Nat) : (Txt.join (Str.ofString "") (signs l)).cps.toList = l := by
  rw [TL.join_eq]
  have z := TL.tl_join (Str.ofString "") (signs l)
  have e : (signs l).map TL.tl = l.map fun c => [c] := by
    unfold signs
    rw [List.map_map]
    rfl
  rw [e] at z
  exact z.trans (join_nil l)
theorem nodup_le {α : Type} [DecidableEq α] : ∀ (xs ys : List α), xs.Nodup → (∀ x ∈ xs, x ∈ ys) → xs.length ≤ ys.length
  | [], ys, _, _ => Nat.zero_le _
  | x :: r, ys, nd, sub => by
    have nd' := List.nodup_cons.mp nd
    have z := nodup_le r (ys.erase x) nd'.2 fun y hy => (List.mem_erase_of_ne (fun e : y = x => nd'.1 (e ▸ hy))).mpr (sub y (List.mem_cons_of_mem _ hy))
    rw [List.length_erase_of_mem (sub x List.mem_cons_self)] at z
    have pos : 0 < ys.length := List.length_pos_of_mem (sub x List.mem_cons_self)
    show r.length + 1 ≤ _
    omega
theorem inV_str (z : Str) : ∀ ns : List Str, inV (.str z) (ns.map V.str) = decide (z ∈ ns)
  | [] => by simp [inV]
  | n :: r => by
    have h := inV_str z r
    unfold inV at h ⊢
    rw [List.map_cons, List.any_cons, h]
    show ((n == z) || decide (z ∈ r)) = decide (z ∈ n :: r)
    by_cases e : n = z
    · subst e; simp
    · rw [beq_eq_false_iff_ne.mpr e]
      have e2 : z ≠ n := fun q => e q.symm
      simp [e2]
theorem flat_str (ns : List Str) : (ns.map V.str).all flatV = true := by
  rw [List.all_map]
  exact List.all_eq_true.mpr fun _ _ => rfl
def letters : Str := Str.ofString "abcdefghijklmnopqrstuvwxyz"
def words : List Str := ["sign", "helper", "clause", "dead", "forced", "all", "found"]
theorem words_good : ∀ z ∈ words, Name1 z := by
  have all : ∀ z ∈ words, 1 ≤ z.length ∧ z.length ≤ 8 ∧ ∀ ch ∈ z.cps.toList, 97 ≤ ch ∧ ch ≤ 122 := by decide +kernel
  exact all
theorem letter_at : ∀ i < 26, letters.cps.toList[i]? = some (97 + i) := by decide +kernel
def spare (j : Nat) : Str := (Str.ofString "q" ++ ⟨#[97 + j / 26]⟩) ++ ⟨#[97 + j % 26]⟩
theorem spare_list (j : Nat) : (spare j).cps.toList = [113, 97 + j / 26, 97 + j % 26] := rfl
theorem spare_good {j : Nat} (h : j < 676) : Name1 (spare j) := by
  refine ⟨by show 1 ≤ 3; decide, by show 3 ≤ 8; decide, fun ch hc => ?_⟩
  rw [spare_list] at hc
  have h2 : j / 26 < 26 := by omega
  have h3 : j % 26 < 26 := by omega
  simp only [List.mem_cons, List.not_mem_nil, or_false] at hc
  omega
theorem spare_inj {i j : Nat} (h : spare i = spare j) : i = j := by
  have z := congrArg (fun s : Str => s.cps.toList) h
  replace z : [113, 97 + i / 26, 97 + i % 26] = [113, 97 + j / 26, 97 + j % 26] := z
  injection z with _ z
  injection z with z1 z
  injection z with z2 _
  omega
theorem spare_free {ns : List Str} (small : ns.length ≤ 600) (all : ∀ j < 676, spare j ∈ ns) : False := by
  have nd : ((List.range 676).map spare).Nodup := List.nodup_range.map spare fun i j ne e => ne (spare_inj e)
  have z := nodup_le _ ns nd fun x hx => by
    obtain ⟨j, hj, rfl⟩ := List.mem_map.mp hx
    exact all j (List.mem_range.mp hj)
  rw [List.length_map, List.length_range] at z
  omega
def spFresh (K : PySem.W.Frag) : Sp := fun vs H Q _ => ∃ (S L T : Addr) (ns : List Str) (c : Nat), vs = [.ref S, .ref T] ∧ SqL K H T (ns.map V.str) ∧ (∀ H', Kept S L H H' → SqL K H' T (ns.map V.str)) ∧ ns.length ≤ 600 ∧ c ≤ 90000 ∧ StreamAt H S L c ∧
  ∀ (z : Str) (c' : Nat) (H' : Hp), c' ≤ c + 11 → Name1 z → z ∉ ns → StreamAt H' S L c' → Kept S L H H' → Q (.str z) H'
section
variable {P : Program} {w : World} {K : PySem.W.Frag} {mg : Str → Option Value} {base : Heap} {f fD fP : Addr} {fd fdD fdP : FuncData}
abbrev nFresh : List Str := ["_law_stream", "_law_taken", "_law_letters", "_law_words", "_law_k", "_law_name", "_law_spare"]
theorem scFresh : FnScope nFresh ["_law_stream", "_law_taken"] (defScope sFresh) := ⟨rfl, rfl, rfl, by decide +kernel, rfl, by decide +kernel, by decide +kernel⟩
theorem ok_fresh (F : Fun K "_law_fresh" "_law_fresh" sFresh f fd) (GD : FnOk P w K mg base CX0 1 fD fdD ["_law_stream", "_law_many"] spDraw) (mD : mg "_law_draw" = some (.ref fD)) (kD : PySem.W.keepIn K (.ref fD) = true) (bD : L2.Binds K fdD ["_law_stream", "_law_many"] [])
    (GL : FnOk P w K mg base CX0 2 fP fdP ["_law_stream", "_law_things"] (spPickL K)) (mP : mg "_law_pick" = some (.ref fP)) (kP : PySem.W.keepIn K (.ref fP) = true) (bP : L2.Binds K fdP ["_law_stream", "_law_things"] []) (mr : mg "range" = none) (mi : mg "int" = none) :
    FnOk P w K mg base CX0 3 f fd ["_law_stream", "_law_taken"] (spFresh K) := by
  refine F.ok scFresh (fun vs H Q E h => ?_) (fun cdv A outer s H vs Q E hr h => ?_)
  · obtain ⟨S, L, T, ns, c, rfl, _⟩ := h
    rfl
  · obtain ⟨S, L, T, ns, c, rfl, hT, hT', hn, hc, hS, k⟩ := h
    have hr1 : Room 1 _ := hr.mono (by decide)
    have rest : ∃ tt, PSs (cxOf CX0 P w K mg base nFresh "_law_fresh" (defScope sFresh) f cdv A outer s H E).nox ((defBody sFresh).drop 3) tt ∧
        ∀ (z : Str) (c' : Nat) (H1 : Hp) (W : Addr) (o4 : Option V), c' ≤ c + 11 → Name1 z → StreamAt H1 S L c' → Kept S L H H1 → tt { nx := fun _ H' => Q .non H', rt := Q } [some (.ref S), some (.ref T), some (.str letters), some (.ref W), o4, some (.str z), none] H1 := by
      refine ⟨_, pss_cons (ps_for PassesOwn.never rfl (pi_range1 (by rfl) mr (pa_cons (pe_op op_mul pe_int (pe_callTy call_int1 (by rfl) mi (by decide +kernel) (pa_cons (pe_cmpR op_in_seq (pv 5) (pv 1) rfl) pa_nil))) pa_nil)) (pg_name (i := 4) scFresh.nd rfl (.inl rfl))
        (pss_cons (ps_set (i := 6) scFresh.nd rfl (.inl rfl) (pe_op op_add_str (pe_op op_add_str pe_str (pe_ix ix_seq (pv 2) (pe_op op_fdiv (pv 4) pe_int) (fun _ _ => rfl))) (pe_ix ix_seq (pv 2) (pe_op op_mod (pv 4) pe_int) (fun _ _ => rfl))))
        (pss_one (ps_if (pt_cmpR op_notIn_seq (pv 6) (pv 1) rfl) (pss_one (ps_ret (pv 6))) pss_nil))))
        (pss_one (ps_ret (pv 5))), fun z c' H1 W o4 hc' good hS1 hk1 => ?_⟩
      have hT1 := hT' H1 hk1
      refine ⟨_, rfl, _, rfl, T, _, rfl, .inl hT1, rfl, flat_str ns, .inr ⟨_, rfl, ?_⟩⟩
      rw [inV_str]
      by_cases hz : z ∈ ns
      · rw [decide_eq_true hz]
        refine ⟨_, _, rfl, rfl, .inl ⟨by decide, by decide⟩, _, rfl, by decide, by decide, ?_⟩
        refine for_range (lo := 0) (n := 676) (fun i σ H2 => H2 = H1 ∧ (∀ j < i, spare j ∈ ns) ∧ ∃ o4 o6, σ = [some (.ref S), some (.ref T), some (.str letters), some (.ref W), o4, some (.str z), o6]) ⟨rfl, fun j hj => absurd hj (Nat.not_lt_zero j), _, _, rfl⟩ ?_ ?_
        · rintro i σ H2 hi ⟨rfl, hj, _, _, rfl⟩
          have h26 : (26 : Int) ≠ 0 := by decide
          have a1 : (0 + (i : Int)) / 26 = ((i / 26 : Nat) : Int) := by omega
          have a2 : (0 + (i : Int)) % 26 = ((i % 26 : Nat) : Int) := by omega
          have b1 : i / 26 < 26 := by omega
          have b2 : i % 26 < 26 := by omega
          have len : letters.length ≤ sizeLine := by show 26 ≤ sizeLine; decide
          refine ⟨_, rfl, _, rfl, _, _, rfl, rfl, ⟨by decide, by decide⟩, ?_⟩
          refine .inr (.inr ⟨letters, _, 97 + i / 26, rfl, rfl, len, by rw [a1]; exact atI_nat (letter_at _ b1), ?_⟩)
          refine ⟨_, _, rfl, rfl, by show 1 + 1 ≤ sizeLine; decide, _, rfl, _, rfl, _, _, rfl, rfl, by show (0 : Int) < 26; decide, ?_⟩
          refine .inr (.inr ⟨letters, _, 97 + i % 26, rfl, rfl, len, by rw [a2]; exact atI_nat (letter_at _ b2), ?_⟩)
          refine ⟨_, _, rfl, rfl, by show 2 + 1 ≤ sizeLine; decide, _, rfl, _, rfl, T, _, rfl, .inl hT1, rfl, flat_str ns, _, rfl, ?_⟩
          rw [if_pos rfl, inV_str]
          by_cases hs : spare i ∈ ns
          · have e : decide ((Str.ofString "q" ++ (⟨#[97 + i / 26]⟩ : Str)) ++ (⟨#[97 + i % 26]⟩ : Str) ∈ ns) = true := decide_eq_true hs
            rw [e]
            refine iteF ⟨rfl, fun j hj' => ?_, _, _, rfl⟩
            rcases Nat.lt_succ_iff_lt_or_eq.mp hj' with q | q
            · exact hj j q
            · exact q ▸ hs
          · have e : decide ((Str.ofString "q" ++ (⟨#[97 + i / 26]⟩ : Str)) ++ (⟨#[97 + i % 26]⟩ : Str) ∈ ns) = false := decide_eq_false hs
            rw [e]
            exact iteT ⟨_, rfl, k (spare i) c' _ hc' (spare_good hi) hs hS1 hk1⟩
        · rintro σ H2 ⟨rfl, hj, _⟩
          exact (spare_free hn hj).elim
      · rw [decide_eq_false hz]
        refine ⟨_, _, rfl, rfl, .inl ⟨by decide, by decide⟩, _, rfl, by decide, by decide, ?_⟩
        refine for_range (lo := 0) (n := 0) (fun i σ H2 => H2 = H1 ∧ ∃ o4 o6, σ = [some (.ref S), some (.ref T), some (.str letters), some (.ref W), o4, some (.str z), o6]) ⟨rfl, _, _, rfl⟩ (fun i _ _ hi _ => absurd hi (Nat.not_lt_zero i)) ?_
        rintro σ H2 ⟨rfl, _, _, rfl⟩
        exact ⟨_, rfl, k z c' _ hc' good hz hS1 hk1⟩
    obtain ⟨tt, htt, hrest⟩ := rest
    refine ⟨_, pss_cons (ps_asg (pe_tup (pa_cons pe_str (pa_cons (pe_lst (pa_cons pe_str (pa_cons pe_str (pa_cons pe_str (pa_cons pe_str (pa_cons pe_str (pa_cons pe_str (pa_cons pe_str pa_nil)))))))) pa_nil))) (pg_tup rfl (pgs_cons (pg_name (i := 2) scFresh.nd rfl (.inr rfl)) (pgs_cons (pg_name (i := 3) scFresh.nd rfl (.inl rfl)) pgs_nil))))
      (pss_cons (ps_set (i := 5) scFresh.nd rfl (.inl rfl) (pe_join pe_str (pe_lc (own := [("_law_k", 4)]) (g := gName 4) (tt := tYes) rfl scFresh.nd (pi_range1 (by rfl) mr (pa_cons (pe_ix ix_list (pe_lst (pa_cons pe_int (pa_cons pe_int (pa_cons pe_int (pa_cons pe_int (pa_cons pe_int (pa_cons pe_int pa_nil))))))) (pe_call GD hr1 (by rfl) mD kD bD .nil pass0 (pa_cons (pv 0) (pa_cons pe_int pa_nil))) (fun _ _ => rfl)) pa_nil)) (blkOk_by (N := nFresh) (sc := defScope sFresh) (by decide +kernel))
          (fun _ _ _ _ _ => pg_name (i := 4) scFresh.nd rfl (.inl rfl)) (fun _ _ _ _ _ => pts_nil) (fun _ _ _ _ _ => show PE _ _ (tOp (rIx K) _ _) from pe_ix ix_seq (pv 2) (pe_call GD hr1 (by rfl) mD kD bD .nil pass0 (pa_cons (pv 0) (pa_cons pe_int pa_nil))) (fun _ _ => rfl)))))
      (pss_cons (ps_set (i := 5) scFresh.nd rfl (.inl rfl) (pe_ifExp (pt_cmpR op_eq (pe_call GD hr1 (by rfl) mD kD bD .nil pass0 (pa_cons (pv 0) (pa_cons pe_int pa_nil))) pe_int (nomark _)) (pe_call GL hr (by rfl) mP kP bP .nil pass0 (pa_cons (pv 0) (pa_cons (pv 3) pa_nil))) (pv 5)))
      htt)), ?_⟩
    refine ⟨(by show 7 ≤ sizeLine; decide), fun W hW => ⟨(by show 2 ≤ sizeLine; decide), fun t ht => ⟨t, _, rfl, SqT.of upd_same, rfl, _, _, rfl, _, _, rfl, rfl, ?_⟩⟩⟩
    have offW := hS.off hW
    have hS1 := hS.new (o := .lst (words.map V.str)) hW
    have offt := hS1.off ht
    have hS2 := hS1.new (o := .tup [.str letters, .ref W]) ht
    refine ⟨⟨_, rfl⟩, (by show 6 ≤ sizeLine; decide), fun l hl => ⟨_, rfl, S, L, 6, c, rfl, by decide, by decide, by omega, hS2.new hl, fun r H1 r0 r1 hS3 hk1 => ?_⟩⟩
    have offl := hS2.off hl
    have six : ∃ n : Nat, atI [V.int 1, V.int 1, V.int 1, V.int 2, V.int 3, V.int 8] r = some (.int (n : Int)) ∧ 1 ≤ n ∧ n ≤ 8 := by
      have hh : r = 0 ∨ r = 1 ∨ r = 2 ∨ r = 3 ∨ r = 4 ∨ r = 5 := by omega
      rcases hh with rfl | rfl | rfl | rfl | rfl | rfl
      · exact ⟨1, rfl, by decide, by decide⟩
      · exact ⟨1, rfl, by decide, by decide⟩
      · exact ⟨1, rfl, by decide, by decide⟩
      · exact ⟨2, rfl, by decide, by decide⟩
      · exact ⟨3, rfl, by decide, by decide⟩
      · exact ⟨8, rfl, by decide, by decide⟩
    obtain ⟨n, hn6, n0, n8⟩ := six
    have hl1 := hk1 _ _ upd_same offl.1 offl.2
    refine ⟨l, _, r, _, rfl, rfl, SqL.of hl1, hn6, _, rfl, by omega, by omega, fun D hD => lc_range (lo := 0) (n := n) (fun i H2 => ∃ cs : List Nat, cs.length = i ∧ (∀ ch ∈ cs, 97 ≤ ch ∧ ch ≤ 122) ∧ H2 D = some (.lst ((K6.signs cs).map V.str)) ∧ StreamAt H2 S L (c + 1 + i) ∧ Kept S L H1 H2)
      ⟨[], rfl, fun _ h => (nomatch h), upd_same, hS3.new hD, (Kept.refl H1).new hD⟩ ?_ ?_⟩
    · rintro i H2 hi ⟨cs, hcs, hch, hD2, hS4, hk2⟩
      have offD := hS3.off hD
      refine ⟨rfl, _, rfl, _, rfl, S, L, 26, _, rfl, by decide, by decide, by omega, hS4, fun q H3 q0 q1 hS5 hk3 => .inr (.inr ⟨letters, q, 97 + q.toNat, rfl, rfl, by show 26 ≤ sizeLine; decide, ?_, _, hk3 _ _ hD2 offD.1 offD.2, ?_, cs ++ [97 + q.toNat], ?_, ?_, ?_, hS5.put offD.1 offD.2, ?_⟩)⟩
      · have z := atI_nat (letter_at q.toNat (by omega))
        rwa [Int.toNat_of_nonneg q0] at z
      · rw [List.length_map]
        unfold K6.signs
        rw [List.length_map, sizeLine_eq]
        omega
      · rw [List.length_append, hcs]
        rfl
      · intro x hx
        rcases List.mem_append.mp hx with z | z
        · exact hch x z
        · rw [List.mem_singleton.mp z]
          omega
      · rw [upd_same]
        unfold K6.signs
        rw [List.map_append, List.map_append]
        rfl
      · exact fun b o e n1 n2 => (upd_ne (ne_of_none e hD)).trans (hk3 b o (hk2 b o e n1 n2) n1 n2)
    · rintro H2 ⟨cs, hcs, hch, hD2, hS4, hk2⟩
      refine ⟨_, D, K6.signs cs, rfl, rfl, .inl (SqL.of hD2), ?_, ?_⟩
      · rw [len_signs, hcs]
        show n + (K6.signs cs).length * 0 ≤ 16777216
        omega
      have good : Name1 (Txt.join (Str.ofString "") (K6.signs cs)) := by
        have e := join_signs cs
        have el : (Txt.join (Str.ofString "") (K6.signs cs)).length = n := by
          show (Txt.join (Str.ofString "") (K6.signs cs)).cps.size = n
          rw [← Array.length_toList, e, hcs]
        exact ⟨by omega, by omega, fun ch h => hch ch (e ▸ h)⟩
      have same3 : Kept S L H H2 := ((((Kept.refl H).new hW).trans ((Kept.refl _).new ht)).trans ((Kept.refl _).new hl)).trans (hk1.trans hk2)
      have hWs : ∀ H', Kept S L H2 H' → H' W = some (.lst (words.map V.str)) := fun H' hk' => hk' _ _ (hk2 _ _ (hk1 _ _ ((upd_ne (ne_of_none (show upd (upd H W (.lst (words.map V.str))) t _ W = some (.lst (words.map V.str)) from (upd_ne (ne_of_none upd_same ht)).trans upd_same) hl)).trans ((upd_ne (ne_of_none upd_same ht)).trans upd_same)) offW.1 offW.2) offW.1 offW.2) offW.1 offW.2
      refine ⟨_, rfl, S, L, 9, _, rfl, by decide, by decide, by omega, hS4, fun q H3 q0 q1 hS5 hk3 => ⟨rfl, _, rfl, ?_⟩⟩
      refine ite2 (fun _ => ?_) (fun _ => ?_)
      · refine ⟨_, rfl, _, rfl, S, L, W, words.map V.str, _, rfl, SqL.of (hWs H3 hk3), fun H' hk' => SqL.of (hWs H' (hk3.trans hk')), by decide, by decide, by omega, hS5, fun i v H4 hi hS6 hk4 => ?_⟩
        obtain ⟨z, hz, rfl⟩ : ∃ z ∈ words, v = .str z := by
          obtain ⟨z, h1, h2⟩ := List.mem_map.mp (List.mem_of_getElem? hi)
          exact ⟨z, h1, h2.symm⟩
        exact hrest z _ H4 W _ (by omega) (words_good z hz) hS6 ((same3.trans hk3).trans hk4)
      · exact ⟨_, rfl, hrest _ _ H3 W _ (by omega) good hS5 (same3.trans hk3)⟩
end
end K6
namespace K6
open PySem PySem.Spec PyProof.Rows L2 LamX NdefX EV
def spNames : Sp := fun vs H Q _ => ∃ (S L : Addr) (m c : Nat), vs = [.ref S, .int (m : Int)] ∧ m ≤ 60 ∧ c ≤ 80000 ∧ StreamAt H S L c ∧
  ∀ (ns : List Str) (p : Addr) (c' : Nat) (H' : Hp), ns.length = m → ns.Nodup → (∀ z ∈ ns, Name1 z) → H p = none → H' p = some (.lst (ns.map V.str)) → c' ≤ c + 11 * m → StreamAt H' S L c' → Kept S L H H' → Q (.ref p) H'
section
variable {P : Program} {w : World} {K : PySem.W.Frag} {mg : Str → Option Value} {base : Heap} {f fD fF : Addr} {fd fdD fdF : FuncData}
abbrev nNames : List Str := ["_law_stream", "_law_many", "_law_found", "_law_k"]
theorem scNames : FnScope nNames ["_law_stream", "_law_many"] (defScope sNames) := ⟨rfl, rfl, rfl, by decide +kernel, rfl, by decide +kernel, by decide +kernel⟩
theorem ok_names (F : Fun K "_law_names" "_law_names" sNames f fd) (GF : FnOk P w K mg base CX0 3 fF fdF ["_law_stream", "_law_taken"] (spFresh K)) (mF : mg "_law_fresh" = some (.ref fF)) (kF : PySem.W.keepIn K (.ref fF) = true) (bF : L2.Binds K fdF ["_law_stream", "_law_taken"] []) (mr : mg "range" = none) :
    FnOk P w K mg base CX0 4 f fd ["_law_stream", "_law_many"] spNames := by
  refine F.ok scNames (fun vs H Q E h => ?_) (fun cdv A outer s H vs Q E hr h => ?_)
  · obtain ⟨S, L, m, c, rfl, _⟩ := h
    rfl
  · obtain ⟨S, L, m, c, rfl, hm, hc, hS, k⟩ := h
    refine ⟨_, pss_cons (ps_set (i := 2) scNames.nd rfl (.inl rfl) (pe_lst pa_nil))
      (pss_cons (ps_for PassesOwn.never rfl (pi_range1 (by rfl) mr (pa_cons (pv 1) pa_nil)) (pg_name (i := 3) scNames.nd rfl (.inl rfl))
        (pss_one (ps_expr (pe_bm PySem.F.plainAttrs_list PySem.F.slot_list_append PySem.F.type_list_append mt_append (pv 2) (pa_cons (pe_call GF hr (by rfl) mF kF bF .nil pass0 (pa_cons (pv 0) (pa_cons (pv 2) pa_nil))) pa_nil)))))
      (pss_one (ps_ret (pv 2)))), ?_⟩
    refine ⟨by show 0 ≤ sizeLine; exact Nat.zero_le _, fun p hp => ⟨_, rfl, _, rfl, by omega, by omega, for_range (lo := 0) (n := m) (fun i σ H2 => ∃ (ns : List Str) (c' : Nat) (o3 : Option V), σ = [some (.ref S), some (.int (m : Int)), some (.ref p), o3] ∧ ns.length = i ∧ ns.Nodup ∧ (∀ z ∈ ns, Name1 z) ∧ H2 p = some (.lst (ns.map V.str)) ∧ c' ≤ c + 11 * i ∧ StreamAt H2 S L c' ∧ Kept S L H H2)
      ⟨[], c, _, rfl, rfl, List.nodup_nil, (fun _ h => nomatch h), upd_same, by omega, hS.new hp, (Kept.refl H).new hp⟩ ?_ ?_⟩⟩
    · rintro i σ H2 hi ⟨ns, c', o3, rfl, hl, nd, good, hp2, hc', hS2, hk2⟩
      have off := hS.off hp
      refine ⟨_, rfl, .inl ⟨rfl, _, SqL.of hp2⟩, _, rfl, _, rfl, S, L, p, ns, c', rfl, SqL.of hp2, fun H' hk' => SqL.of (hk' _ _ hp2 off.1 off.2), by omega, by omega, hS2, fun z c2 H3 hc2 hz hn hS3 hk3 => ?_⟩
      have hp3 := hk3 _ _ hp2 off.1 off.2
      refine ⟨p, _, _, rfl, rfl, hp3, by rw [List.length_map, sizeLine_eq]; omega, ns ++ [z], c2, _, rfl, by rw [List.length_append, hl]; rfl, ?_, ?_, ?_, by omega, hS3.put off.1 off.2, ?_⟩
      · exact List.nodup_append.mpr ⟨nd, List.nodup_cons.mpr ⟨fun h => (nomatch h), List.nodup_nil⟩, fun a ha b hb e => hn (by rw [← List.mem_singleton.mp hb, ← e]; exact ha)⟩
      · intro y hy
        rcases List.mem_append.mp hy with q | q
        · exact good y q
        · exact List.mem_singleton.mp q ▸ hz
      · rw [upd_same, List.map_append]
        rfl
      · exact fun b o e n1 n2 => (upd_ne (ne_of_none e hp)).trans (hk3 b o (hk2 b o e n1 n2) n1 n2)
    · rintro σ H2 ⟨ns, c', o3, rfl, hl, nd, good, hp2, hc', hS2, hk2⟩
      exact ⟨_, rfl, k ns p c' H2 hl nd good hp hp2 hc' hS2 hk2⟩
end
theorem same_new {H : Hp} {p : Addr} {o : HO} (h : H p = none) : Same H (upd H p o) := fun _ _ e => (upd_ne (ne_of_none e h)).trans e
/-! ### literals, ascending -/
def neg (n : Str) : Str := Str.ofString "-" ++ n
def lits (ns : List Str) : List Str := ns.flatMap fun n => [n, neg n]
def asc (ns some : List Str) : List Str := (lits ns).filter fun l => decide (l ∈ some)
theorem neg_list (n : Str) : (neg n).cps.toList = 45 :: n.cps.toList := by
  show (#[45] ++ n.cps).toList = _
  rw [Array.toList_append]
  rfl
theorem neg_len (n : Str) : (neg n).length = n.length + 1 := by
  show (neg n).cps.size = n.cps.size + 1
  rw [← Array.length_toList, neg_list, List.length_cons, Array.length_toList]
theorem lits_len (ns : List Str) : (lits ns).length = 2 * ns.length := by
  unfold lits
  induction ns with
  | nil => rfl
  | cons n r ih => rw [List.flatMap_cons, List.length_append, ih]; show 2 + 2 * r.length = 2 * (r.length + 1); omega
theorem asc_len (ns some : List Str) : (asc ns some).length ≤ 2 * ns.length := Nat.le_trans (List.length_filter_le ..) (Nat.le_of_eq (lits_len ns))
def spUp (K : PySem.W.Frag) : Sp := fun vs H Q _ => ∃ (A B : Addr) (b : Bool) (ss ns : List Str), vs = [.ref A, .ref B] ∧ Sq K b H A (ss.map V.str) ∧ (∀ H', Same H H' → Sq K b H' A (ss.map V.str)) ∧ SqL K H B (ns.map V.str) ∧ (∀ H', Same H H' → SqL K H' B (ns.map V.str)) ∧ ns.length ≤ 60 ∧ (∀ z ∈ ns, z.length ≤ 8) ∧
  ∀ (p : Addr) (H' : Hp), H p = none → H' p = some (.tup ((asc ns ss).map V.str)) → Same H H' → Q (.ref p) H'
section
variable {P : Program} {w : World} {K : PySem.W.Frag} {mg : Str → Option Value} {base : Heap} {f : Addr} {fd : FuncData}
abbrev nUp : List Str := ["_law_some", "_law_names_here", "_law_found", "_law_name", "_law_one"]
theorem scUp : FnScope nUp ["_law_some", "_law_names_here"] (defScope sUp) := ⟨rfl, rfl, rfl, by decide +kernel, rfl, by decide +kernel, by decide +kernel⟩
theorem ok_up (F : Fun K "_law_up" "_law_up" sUp f fd) (mt : mg "tuple" = none) : FnOk P w K mg base CX0 1 f fd ["_law_some", "_law_names_here"] (spUp K) := by
  refine F.ok scUp (fun vs H Q E h => ?_) (fun cdv A outer s H vs Q E hr h => ?_)
  · obtain ⟨A, B, b, ss, ns, rfl, _⟩ := h
    rfl
  · obtain ⟨A, B, b, ss, ns, rfl, hA, hA', hB, hB', hn, h8, k⟩ := h
    refine ⟨_, pss_cons (ps_set (i := 2) scUp.nd rfl (.inl rfl) (pe_lst pa_nil))
      (pss_cons (ps_for PassesOwn.never rfl (pi_list (pv 1)) (pg_name (i := 3) scUp.nd rfl (.inl rfl))
        (pss_one (ps_expr (pe_bm PySem.F.plainAttrs_list PySem.F.slot_list_extend PySem.F.type_list_extend mt_extend (pv 2) (pa_cons (pe_lc (own := [("_law_one", 4)]) (g := gName 4) rfl scUp.nd (pi_tup (pe_tup (pa_cons (pv 3) (pa_cons (pe_op op_add_str pe_str (pv 3)) pa_nil)))) (blkOk_by (N := nUp) (sc := defScope sUp) (by decide +kernel))
          (fun _ _ _ _ _ => pg_name (i := 4) scUp.nd rfl (.inl rfl)) (fun _ _ _ _ _ => pts_one (show PT _ _ (tTest (tOp (rIn K false) _ _)) from pt_cmpR op_in_seq (pv 4) (pv 0) rfl)) (fun _ _ _ _ _ => pv 4)) pa_nil)))))
      (pss_one (ps_ret (pe_tupleOf (by rfl) mt (pv 2))))), ?_⟩
    refine ⟨by show 0 ≤ sizeLine; exact Nat.zero_le _, fun p hp => ⟨_, rfl, B, rfl, ⟨_, hB' _ (same_new hp)⟩, for_list (K := K) (a := B) (xs := ns.map V.str) (fun i σ H2 => ∃ (o3 o4 : Option V), σ = [some (.ref A), some (.ref B), some (.ref p), o3, o4] ∧ Same H H2 ∧ H2 p = some (.lst ((asc (ns.take i) ss).map V.str)))
      ⟨_, _, rfl, same_new hp, upd_same⟩ (fun i σ H2 hi ⟨_, _, _, sm, _⟩ => hB' _ sm) ?_ ?_⟩⟩
    · rintro i x σ H2 hx ⟨o3, o4, rfl, sm, hp2⟩
      obtain ⟨n, hn', rfl⟩ : ∃ n, ns[i]? = some n ∧ x = .str n := by
        rw [List.getElem?_map] at hx
        cases e : ns[i]? with
        | none => rw [e] at hx; cases hx
        | some n => rw [e] at hx; exact ⟨n, rfl, (Option.some.inj hx).symm⟩
      have n8 := h8 n (List.mem_of_getElem? hn')
      have ilt : i < ns.length := (List.getElem?_eq_some_iff.mp hn').1
      refine ⟨_, rfl, .inl ⟨rfl, _, SqL.of hp2⟩, _, rfl, _, rfl, _, _, rfl, rfl, ?_, by show 2 ≤ sizeLine; decide, fun t ht => ⟨t, rfl, ⟨_, SqT.of upd_same⟩, fun D hD => lc_tup (K := K) (a := t) (xs := [.str n, .str (neg n)]) (fun j H3 => Same (upd H2 t (.tup [.str n, .str (neg n)])) H3 ∧ H3 D = some (.lst (([n, neg n].take j).filter (fun l => decide (l ∈ ss)) |>.map V.str)))
        ⟨same_new hD, upd_same⟩ (fun j H3 _ hh => SqT.of (hh.1 _ _ upd_same)) ?_ ?_⟩⟩
      · show 1 + n.length ≤ sizeLine
        rw [sizeLine_eq]; omega
      · rintro j y H3 hy ⟨sm3, hD3⟩
        obtain ⟨l, hl, rfl⟩ : ∃ l, [n, neg n][j]? = some l ∧ y = .str l := by
          match j, hy with
          | 0, hy => exact ⟨n, rfl, (Option.some.inj hy).symm⟩
          | 1, hy => exact ⟨neg n, rfl, (Option.some.inj hy).symm⟩
          | j + 2, hy => simp at hy
        have sm2 : Same H H3 := (sm.trans (same_new ht)).trans sm3
        have e : [n, neg n].take (j + 1) = [n, neg n].take j ++ [l] := by rw [List.take_succ, hl]; rfl
        refine ⟨rfl, _, rfl, _, rfl, A, _, rfl, (hA' _ sm2).any, rfl, flat_str ss, _, rfl, ?_⟩
        rw [if_neg (by decide), inV_str]
        by_cases q : l ∈ ss
        · rw [decide_eq_true q]
          refine iteT ⟨_, rfl, _, hD3, ?_, fun b o h => (upd_ne (ne_of_none h hD)).trans (sm3 b o h), ?_⟩
          · rw [List.length_map, sizeLine_eq]
            have l3 : (([n, neg n].take j).filter fun l => decide (l ∈ ss)).length ≤ ([n, neg n].take j).length := List.length_filter_le _ _
            have l4 := List.length_take_le' j [n, neg n]
            have l5 : [n, neg n].length = 2 := rfl
            omega
          · rw [upd_same, e, List.filter_append, List.map_append]
            simp [q]
        · rw [decide_eq_false q]
          refine iteF ⟨sm3, ?_⟩
          rw [hD3, e, List.filter_append, List.map_append]
          simp [q]
      · rintro H3 ⟨sm3, hD3⟩
        have sm2 : Same H H3 := (sm.trans (same_new ht)).trans sm3
        have np : p ≠ D := ne_of_none (show upd H2 t (.tup [.str n, .str (neg n)]) p = some _ from (upd_ne (ne_of_none hp2 ht)).trans hp2) hD
        refine ⟨p, D, _, _, rfl, rfl, sm3 _ _ ((upd_ne (ne_of_none hp2 ht)).trans hp2), hD3, ?_, _, _, rfl, fun b o e => (upd_ne (ne_of_none e hp)).trans (sm2 b o e), ?_⟩
        · rw [List.length_map, List.length_map, sizeLine_eq]
          have l1 := asc_len (ns.take i) ss
          have l2 := List.length_take_le i ns
          have l3 : ((([n, neg n].take 2).filter fun l => decide (l ∈ ss))).length ≤ 2 := List.length_filter_le _ _
          have l4 : (List.map V.str [n, neg n]).length = 2 := rfl
          show _ + ((([n, neg n].take 2).filter fun l => decide (l ∈ ss))).length ≤ _
          omega
        · rw [upd_same]
          have e : ns.take (i + 1) = ns.take i ++ [n] := by rw [List.take_succ, hn']; rfl
          unfold asc lits
          rw [e, List.flatMap_append, List.filter_append, List.map_append]
          simp
    · rintro σ H2 ⟨o3, o4, rfl, sm, hp2⟩
      refine ⟨_, rfl, .inl ⟨p, _, rfl, SqL.of hp2, fun q hq => ?_⟩⟩
      rw [List.length_map, List.take_length]
      exact k q _ (sm.free hq) upd_same (sm.trans (same_new hq))
end
end K6
namespace K6
open PySem PySem.Spec PyProof.Rows L2 LamX NdefX EV
/-- a literal: a name, or its other side -/
def lit (q : Bool × Str) : Str := if q.1 = true then neg q.2 else q.2
/-- literals of distinct names of these -/
structure Lits (ns : List Str) (qs : List (Bool × Str)) : Prop where
  nd : (qs.map Prod.snd).Nodup
  sub : ∀ q ∈ qs, q.2 ∈ ns
theorem Kept.add {S L p : Addr} {H H' : Hp} {o : HO} (k : Kept S L H H') (h : H' p = Option.none) (off : p ≠ S ∧ p ≠ L) : Kept S L H (upd H' p o) := k.new (k.none h off.1 off.2)
theorem empty_add (n : Str) : Str.ofString "" ++ n = n := by
  obtain ⟨c⟩ := n
  show Str.mk (#[] ++ c) = _
  rw [Array.empty_append]
theorem unmap_str : ∀ (ys : List V) (xs : List Str), ys.Perm (xs.map V.str) → ∃ ms : List Str, ys = ms.map V.str ∧ ms.Perm xs := by
  intro ys xs h
  let un : V → Str := fun v => match v with | .str z => z | _ => Str.ofString ""
  have all : ∀ y ∈ ys, V.str (un y) = y := fun y hy => by
    obtain ⟨z, _, rfl⟩ := List.mem_map.mp (h.mem_iff.mp hy)
    rfl
  refine ⟨ys.map un, ?_, ?_⟩
  · rw [List.map_map]
    exact ((List.map_congr_left (f := V.str ∘ un) (g := id) all).trans (List.map_id ys)).symm
  · have z := h.map un
    rw [List.map_map] at z
    have e : xs.map (un ∘ V.str) = xs := (List.map_congr_left (g := id) fun _ _ => rfl).trans (List.map_id xs)
    rwa [e] at z
theorem dp_strs {K : PySem.W.Frag} {H : Hp} : ∀ ns : List Str, DpAll K H (ns.map V.str) (ns.map PyData.str)
  | [] => .nil
  | n :: r => .cons (.str n) (dp_strs r)
/-- a text of code points that are few enough -/
def Fit (z : Str) : Prop := ∀ ch ∈ z.cps.toList, ch < 128
theorem Fit.ok {z : Str} (h : Fit z) : PyData.strOk z = true := by
  show z.cps.all (fun c => decide (c < 0x110000)) = true
  rw [← Array.all_toList]
  exact List.all_eq_true.mpr fun c hc => decide_eq_true (Nat.lt_trans (h c hc) (by decide))
theorem Name1.fit {z : Str} (h : Name1 z) : Fit z := fun ch hc => Nat.lt_of_le_of_lt (h.2.2 ch hc).2 (by decide)
theorem Fit.neg {z : Str} (h : Fit z) : Fit (neg z) := fun ch hc => by
  rw [neg_list] at hc
  rcases List.mem_cons.mp hc with rfl | q
  · decide
  · exact h ch q
theorem Fit.lit {q : Bool × Str} (h : Fit q.2) : Fit (lit q) := by
  unfold K6.lit
  split
  · exact h.neg
  · exact h
theorem lay_strs : ∀ ns : List Str, (∀ z ∈ ns, Fit z) → PyData.canLayAll0 (ns.map PyData.str) = true ∧ PyData.depthAll (ns.map PyData.str) ≤ 2
  | [], _ => ⟨rfl, Nat.zero_le _⟩
  | n :: r, f => by
    obtain ⟨h1, h2⟩ := lay_strs r fun z h => f z (List.mem_cons_of_mem _ h)
    have h0 := (f n List.mem_cons_self).ok
    refine ⟨?_, ?_⟩
    · simp only [List.map_cons, PyData.canLayAll0, PyData.canLay0, h1, h0, Bool.and_self]
    · simp only [List.map_cons, PyData.depthAll, PyData.depth]
      omega
theorem shaped_strs (ns : List Str) (f : ∀ z ∈ ns, Fit z) : SeqAt.shaped (.list (ns.map PyData.str)) = true := by
  obtain ⟨h1, h2⟩ := lay_strs ns f
  refine Bool.and_eq_true_iff.mpr ⟨?_, decide_eq_true ?_⟩
  · simp only [PyData.canLay0, h1]
  · simp only [PyData.depth]
    omega
theorem eqv_nilS : ∀ ns : List Str, PyData.eqv (.list (ns.map PyData.str)) (.list []) = decide (ns = [])
  | [] => rfl
  | n :: r => by simp [PyData.eqv, PyData.eqvAll]
theorem cutV_take (xs : List V) (k : Nat) : cutV xs none (some (k : Int)) = xs.take k := by
  unfold cutV
  rw [HT.sIx_none, HT.sIx_nat, List.drop_zero, Nat.sub_zero]
  by_cases h : k ≤ xs.length
  · rw [Nat.min_eq_left h]
  · rw [Nat.min_eq_right (by omega), List.take_of_length_le (Nat.le_refl _), List.take_of_length_le (by omega)]
theorem cutV_drop (xs : List V) (k : Nat) : cutV xs (some (k : Int)) none = xs.drop k := by
  unfold cutV
  rw [HT.sIx_none, HT.sIx_nat]
  by_cases h : k ≤ xs.length
  · rw [Nat.min_eq_left h, List.take_of_length_le (by rw [List.length_drop]; exact Nat.le_refl _)]
  · rw [Nat.min_eq_right (by omega), Nat.sub_self, List.take_zero, List.drop_eq_nil_of_le (by omega)]
def spSided (K : PySem.W.Frag) : Sp := fun vs H Q _ => ∃ (S L T : Addr) (ns : List Str) (c : Nat), vs = [.ref S, .ref T] ∧ SqL K H T (ns.map V.str) ∧ ns.length ≤ 60 ∧ (∀ z ∈ ns, z.length ≤ 8) ∧ c ≤ 80000 ∧ StreamAt H S L c ∧
  ∀ (qs : List (Bool × Str)) (p : Addr) (c' : Nat) (H' : Hp), (qs.map Prod.snd).Perm ns → H p = none → H' p = some (.lst ((qs.map lit).map V.str)) → c' ≤ c + 120 → StreamAt H' S L c' → Kept S L H H' → Q (.ref p) H'
def spClause (K : PySem.W.Frag) : Sp := fun vs H Q _ => ∃ (S L T : Addr) (ns : List Str) (m c : Nat), vs = [.ref S, .ref T, .int (m : Int)] ∧ SqL K H T (ns.map V.str) ∧ (∀ H', Kept S L H H' → SqL K H' T (ns.map V.str)) ∧ ns.length ≤ 60 ∧ ns.Nodup ∧ (∀ z ∈ ns, Name1 z) ∧ 0 < m ∧ m ≤ 60 ∧ c ≤ 79000 ∧ StreamAt H S L c ∧
  ∀ (qs : List (Bool × Str)) (p : Addr) (c' : Nat) (H' : Hp), Lits ns qs → H p = none → H' p = some (.lst ((qs.map lit).map V.str)) → c' ≤ c + 122 → StreamAt H' S L c' → Kept S L H H' → Q (.ref p) H'
section
variable {P : Program} {w : World} {K : PySem.W.Frag} {mg : Str → Option Value} {base : Heap} {f fD fM fS : Addr} {fd fdD fdM fdS : FuncData}
abbrev nSided : List Str := ["_law_stream", "_law_names_here", "_law_name"]
theorem scSided : FnScope nSided ["_law_stream", "_law_names_here"] (defScope sSided) := ⟨rfl, rfl, rfl, by decide +kernel, rfl, by decide +kernel, by decide +kernel⟩
theorem ok_sided (F : Fun K "_law_sided" "_law_sided" sSided f fd) (GD : FnOk P w K mg base CX0 1 fD fdD ["_law_stream", "_law_many"] spDraw) (mD : mg "_law_draw" = some (.ref fD)) (kD : PySem.W.keepIn K (.ref fD) = true) (bD : L2.Binds K fdD ["_law_stream", "_law_many"] [])
    (GM : FnOk P w K mg base CX0 2 fM fdM ["_law_stream", "_law_things"] (spMixed K)) (mM : mg "_law_mixed" = some (.ref fM)) (kM : PySem.W.keepIn K (.ref fM) = true) (bM : L2.Binds K fdM ["_law_stream", "_law_things"] []) :
    FnOk P w K mg base CX0 3 f fd ["_law_stream", "_law_names_here"] (spSided K) := by
  refine F.ok scSided (fun vs H Q E h => ?_) (fun cdv A outer s H vs Q E hr h => ?_)
  · obtain ⟨S, L, T, ns, c, rfl, _⟩ := h
    rfl
  · obtain ⟨S, L, T, ns, c, rfl, hT, hn, h8, hc, hS, k⟩ := h
    have hr1 : Room 1 _ := hr.mono (by decide)
    refine ⟨_, pss_one (ps_ret (pe_lc (own := [("_law_name", 2)]) (g := gName 2) (tt := tYes) rfl scSided.nd (pi_list (pe_call GM hr (by rfl) mM kM bM .nil pass0 (pa_cons (pv 0) (pa_cons (pv 1) pa_nil)))) (blkOk_by (N := nSided) (sc := defScope sSided) (by decide +kernel))
          (fun _ _ _ _ _ => pg_name (i := 2) scSided.nd rfl (.inl rfl)) (fun _ _ _ _ _ => pts_nil)
          (fun _ _ _ _ _ => pe_op op_add_str (pe_ifExp (pt_cmpR op_eq (pe_call GD hr1 (by rfl) mD kD bD .nil pass0 (pa_cons (pv 0) (pa_cons pe_int pa_nil))) pe_int (nomark _)) pe_str pe_str) (pv 2)))), ?_⟩
    refine ⟨_, rfl, _, rfl, S, L, T, true, _, c, rfl, hT, by rw [List.length_map]; omega, by rw [List.length_map]; omega, hS, fun ys p0 H1 hp hnew hp1 hS1 hk1 => ?_⟩
    obtain ⟨ms, rfl, hpm⟩ := unmap_str ys ns hp
    have lm : ms.length = ns.length := hpm.length_eq
    have off0 := hS.off hnew
    rw [List.length_map] at hS1
    refine ⟨p0, rfl, ⟨_, SqL.of hp1⟩, fun D hD => lc_list (K := K) (a := p0) (xs := ms.map V.str) (fun i H2 => ∃ qs : List (Bool × Str), qs.map Prod.snd = ms.take i ∧ H2 D = some (.lst ((qs.map lit).map V.str)) ∧ StreamAt H2 S L (c + ns.length + i) ∧ Kept S L H1 H2)
      ⟨[], rfl, upd_same, hS1.new hD, (Kept.refl H1).new hD⟩ (fun i H2 hi ⟨_, _, _, _, hk2⟩ => SqL.of (hk2 _ _ hp1 off0.1 off0.2)) ?_ ?_⟩
    · rintro i x H2 hx ⟨qs, hq, hD2, hS2, hk2⟩
      obtain ⟨n, hn', rfl⟩ : ∃ n, ms[i]? = some n ∧ x = .str n := by
        rw [List.getElem?_map] at hx
        cases e : ms[i]? with
        | none => rw [e] at hx; cases hx
        | some n => rw [e] at hx; exact ⟨n, rfl, (Option.some.inj hx).symm⟩
      have n8 := h8 n (hpm.mem_iff.mp (List.mem_of_getElem? hn'))
      have offD := hS1.off hD
      have ilt : i < ms.length := (List.getElem?_eq_some_iff.mp hn').1
      have lq : qs.length ≤ i := by
        have z := congrArg List.length hq
        rw [List.length_map, List.length_take] at z
        omega
      have fin : ∀ (b : Bool) (H3 : Hp), StreamAt H3 S L (c + ns.length + i + 1) → Kept S L H2 H3 → ∃ acc, H3 D = some (.lst acc) ∧ acc.length < sizeLine ∧ ∃ qs' : List (Bool × Str), qs'.map Prod.snd = ms.take (i + 1) ∧ upd H3 D (.lst (acc ++ [V.str (lit (b, n))])) D = some (.lst ((qs'.map lit).map V.str)) ∧ StreamAt (upd H3 D (.lst (acc ++ [V.str (lit (b, n))]))) S L (c + ns.length + (i + 1)) ∧ Kept S L H1 (upd H3 D (.lst (acc ++ [V.str (lit (b, n))]))) := fun b H3 hS3 hk3 => by
        refine ⟨_, hk3 _ _ hD2 offD.1 offD.2, by rw [List.length_map, List.length_map, sizeLine_eq]; omega, qs ++ [(b, n)], ?_, ?_, hS3.put offD.1 offD.2, fun b' o e n1 n2 => (upd_ne (ne_of_none e hD)).trans (hk3 b' o (hk2 b' o e n1 n2) n1 n2)⟩
        · rw [List.map_append, hq, List.take_succ, hn']
          rfl
        · rw [upd_same, List.map_append, List.map_append]
          rfl
      refine ⟨rfl, _, rfl, S, L, 2, _, rfl, by decide, by decide, by omega, hS2, fun r H3 r0 r1 hS3 hk3 => ⟨rfl, _, rfl, ?_⟩⟩
      refine ite2 (fun _ => ?_) (fun _ => ?_)
      · refine ⟨_, rfl, _, _, rfl, rfl, by show 0 + n.length ≤ sizeLine; rw [sizeLine_eq]; omega, ?_⟩
        rw [empty_add]
        exact fin false H3 hS3 hk3
      · exact ⟨_, rfl, _, _, rfl, rfl, by show 1 + n.length ≤ sizeLine; rw [sizeLine_eq]; omega, fin true H3 hS3 hk3⟩
    · rintro H2 ⟨qs, hq, hD2, hS2, hk2⟩
      rw [List.length_map, List.take_length] at hq
      rw [List.length_map] at hS2
      exact k qs D _ H2 (hq ▸ hpm) (Kept.none hk1 hD (hS1.off hD).1 (hS1.off hD).2) hD2 (by omega) hS2 (hk1.trans hk2)
abbrev nClause : List Str := ["_law_stream", "_law_names_here", "_law_most"]
theorem scClause : FnScope nClause ["_law_stream", "_law_names_here", "_law_most"] (defScope sClause) := ⟨rfl, rfl, rfl, by decide +kernel, rfl, by decide +kernel, by decide +kernel⟩
theorem ok_clause (F : Fun K "_law_clause" "_law_clause" sClause f fd) (GD : FnOk P w K mg base CX0 1 fD fdD ["_law_stream", "_law_many"] spDraw) (mD : mg "_law_draw" = some (.ref fD)) (kD : PySem.W.keepIn K (.ref fD) = true) (bD : L2.Binds K fdD ["_law_stream", "_law_many"] [])
    (GS : FnOk P w K mg base CX0 3 fS fdS ["_law_stream", "_law_names_here"] (spSided K)) (mS : mg "_law_sided" = some (.ref fS)) (kS : PySem.W.keepIn K (.ref fS) = true) (bS : L2.Binds K fdS ["_law_stream", "_law_names_here"] []) :
    FnOk P w K mg base CX0 4 f fd ["_law_stream", "_law_names_here", "_law_most"] (spClause K) := by
  refine F.ok scClause (fun vs H Q E h => ?_) (fun cdv A outer s H vs Q E hr h => ?_)
  · obtain ⟨S, L, T, ns, m, c, rfl, _⟩ := h
    rfl
  · obtain ⟨S, L, T, ns, m, c, rfl, hT, hT', hn, nd, h8, m0, hm, hc, hS, k⟩ := h
    have hr1 : Room 1 _ := hr.mono (by decide)
    refine ⟨_, pss_cons (ps_if (PW.pt (pw_or (pt_cmpR (op_eqD hr.units) (pv 1) (pe_lst pa_nil) (nomark _)) (pw_or1 (pt_cmpR op_eq (pe_call GD hr1 (by rfl) mD kD bD .nil pass0 (pa_cons (pv 0) (pa_cons pe_int pa_nil))) pe_int (nomark _))))) (pss_one (ps_ret (pe_lst pa_nil))) pss_nil)
      (pss_one (ps_ret (pe_slice sl_list (pe_call GS hr (by rfl) mS kS bS .nil pass0 (pa_cons (pv 0) (pa_cons (pv 1) pa_nil))) po_none (po_some (pe_op op_add pe_int (pe_call GD hr1 (by rfl) mD kD bD .nil pass0 (pa_cons (pv 0) (pa_cons (pv 2) pa_nil)))))))), ?_⟩
    refine ⟨_, rfl, by show 0 ≤ sizeLine; exact Nat.zero_le _, fun p hp => ⟨_, _, .lst (hT' _ ((Kept.refl H).new hp)) (dp_strs ns), .lst (SqL.of upd_same) .nil, shaped_strs ns fun z hz => (h8 z hz).fit, rfl, _, rfl, ?_⟩⟩
    rw [eqv_nilS]
    have none_ : ∀ (H1 : Hp) (c' : Nat), c' ≤ c + 1 → StreamAt H1 S L c' → Kept S L H H1 → ∀ q, H1 q = none → Q (.ref q) (upd H1 q (.lst [])) := fun H1 c' hc' hS1 hk1 q hq =>
      k [] q c' _ ⟨List.nodup_nil, fun _ h => (nomatch h)⟩ (hk1.none hq (hS1.off hq).1 (hS1.off hq).2) upd_same (by omega) (hS1.new hq) (hk1.add hq (hS1.off hq))
    by_cases e : ns = []
    · rw [decide_eq_true e]
      exact iteT (iteT ⟨by show 0 ≤ sizeLine; exact Nat.zero_le _, none_ _ c (by omega) (hS.new hp) ((Kept.refl H).new hp)⟩)
    · rw [decide_eq_false e]
      refine iteF ⟨_, rfl, S, L, 40, c, rfl, by decide, by decide, by omega, hS.new hp, fun r H1 r0 r1 hS1 hk1 => ⟨rfl, _, rfl, ?_⟩⟩
      have hk1' := ((Kept.refl H).new hp).trans hk1
      refine ite2 (fun _ => ?_) (fun _ => ?_)
      · exact ⟨by show 0 ≤ sizeLine; exact Nat.zero_le _, none_ _ _ (Nat.le_refl _) hS1 hk1'⟩
      · refine ⟨_, rfl, _, rfl, S, L, T, ns, _, rfl, hT' _ hk1', hn, (fun z hz => (h8 z hz).2.1), by omega, hS1, fun qs p2 c2 H2 hq hn2 hp2 hc2 hS2 hk2 => ⟨_, rfl, _, rfl, S, L, m, c2, rfl, by omega, by omega, by omega, hS2, fun r2 H3 r3 r4 hS3 hk3 => ?_⟩⟩
        have off2 := hS1.off hn2
        refine ⟨_, _, rfl, rfl, _, rfl, p2, _, rfl, SqL.of (hk3 _ _ hp2 off2.1 off2.2), fun p3 hp3 => ?_⟩
        have hkk := (hk1'.trans hk2).trans hk3
        obtain ⟨j, hj⟩ : ∃ j : Nat, (1 : Int) + r2 = (j : Int) := ⟨(1 + r2).toNat, (Int.toNat_of_nonneg (by omega)).symm⟩
        rw [hj, cutV_take, ← List.map_take, ← List.map_take]
        have lq : (qs.map Prod.snd).Nodup := hq.nodup_iff.mpr nd
        refine k (qs.take j) p3 _ _ ⟨?_, fun q hq' => hq.mem_iff.mp (List.mem_map.mpr ⟨q, List.mem_of_mem_take hq', rfl⟩)⟩ (hkk.none hp3 (hS3.off hp3).1 (hS3.off hp3).2) upd_same (by omega) (hS3.new hp3) (hkk.add hp3 (hS3.off hp3))
        rw [List.map_take]
        exact lq.sublist (List.take_sublist ..)
end
end K6
namespace K6
open PySem PySem.Spec PyProof.Rows L2 LamX NdefX EV
theorem hu65 {A : Around} {k : Nat} (hr : Room k A) : A.units + 65 < cLine := by
  have := hr.un
  omega
/-! ### rows: tuples of texts that stand in the heap -/
def TupAt (H : Hp) (t : Addr) (r : List Str) : Prop := H t = some (.tup (r.map V.str))
abbrev RowsAt (H : Hp) : List Addr → List (List Str) → Prop := Paired (TupAt H)
theorem RowsAt.same {H H' : Hp} (sm : Same H H') {ts : List Addr} {rs : List (List Str)} (h : RowsAt H ts rs) : RowsAt H' ts rs := by
  induction h with
  | nil => exact .nil
  | cons a _ ih => exact .cons (sm _ _ a) ih
theorem RowsAt.get {H : Hp} : ∀ {ts : List Addr} {rs : List (List Str)}, RowsAt H ts rs → ∀ (i : Nat) (t : Addr), ts[i]? = some t → ∃ r, rs[i]? = some r ∧ TupAt H t r
  | _, _, .nil, i, t, h => by simp at h
  | _, _, .cons a _, 0, t, h => ⟨_, rfl, by simp at h; exact h ▸ a⟩
  | _, _, .cons _ q, i + 1, t, h => by simpa using RowsAt.get q i t (by simpa using h)
theorem RowsAt.put {H : Hp} {p : Addr} {xs : List V} {o : HO} (hp : H p = some (.lst xs)) {ts : List Addr} {rs : List (List Str)} (h : RowsAt H ts rs) : RowsAt (upd H p o) ts rs := by
  induction h with
  | nil => exact .nil
  | cons a _ ih => exact .cons ((upd_ne (ne_of a hp fun z => nomatch z)).trans a) ih
theorem RowsAt.lift {K : PySem.W.Frag} {H : Hp} : ∀ {ts : List Addr} {rs : List (List Str)}, RowsAt H ts rs → DpAll K H (ts.map V.ref) (rs.map fun r => PyData.tuple (r.map PyData.str))
  | _, _, .nil => .nil
  | _, _, .cons a q => .cons (.tup (SqT.of a) (dp_strs _)) (RowsAt.lift q)
theorem lay_rows : ∀ rs : List (List Str), (∀ r ∈ rs, ∀ z ∈ r, Fit z) → PyData.canLayAll0 (rs.map fun r => PyData.tuple (r.map PyData.str)) = true ∧ PyData.depthAll (rs.map fun r => PyData.tuple (r.map PyData.str)) ≤ 5
  | [], _ => ⟨rfl, Nat.zero_le _⟩
  | r :: rs, f => by
    obtain ⟨h1, h2⟩ := lay_rows rs fun r h => f r (List.mem_cons_of_mem _ h)
    obtain ⟨h3, h4⟩ := lay_strs r (f r List.mem_cons_self)
    refine ⟨?_, ?_⟩
    · simp only [List.map_cons, PyData.canLayAll0, PyData.canLay0, h1, h3, Bool.and_self]
    · simp only [List.map_cons, PyData.depthAll, PyData.depth]
      omega
theorem shaped_row (r : List Str) (f : ∀ z ∈ r, Fit z) : SeqAt.shaped (.tuple (r.map PyData.str)) = true := by
  obtain ⟨h1, h2⟩ := lay_strs r f
  refine Bool.and_eq_true_iff.mpr ⟨?_, decide_eq_true ?_⟩
  · simp only [PyData.canLay0, h1]
  · simp only [PyData.depth]
    omega
theorem shaped_rows (rs : List (List Str)) (f : ∀ r ∈ rs, ∀ z ∈ r, Fit z) : SeqAt.shaped (.list (rs.map fun r => PyData.tuple (r.map PyData.str))) = true := by
  obtain ⟨h1, h2⟩ := lay_rows rs f
  refine Bool.and_eq_true_iff.mpr ⟨?_, decide_eq_true ?_⟩
  · simp only [PyData.canLay0, h1]
  · simp only [PyData.depth]
    omega
theorem eqvAll_strs : ∀ a b : List Str, PyData.eqvAll (a.map PyData.str) (b.map PyData.str) = decide (a = b)
  | [], [] => rfl
  | [], _ :: _ => by simp [PyData.eqvAll]
  | _ :: _, [] => by simp [PyData.eqvAll]
  | x :: a, y :: b => by
    have h := eqvAll_strs a b
    simp only [List.map_cons, PyData.eqvAll, PyData.eqv, h]
    by_cases e : x = y
    · subst e; simp
    · simp [e]
theorem eqv_row (a b : List Str) : PyData.eqv (.tuple (a.map PyData.str)) (.tuple (b.map PyData.str)) = decide (a = b) := by
  rw [PyData.eqv]
  exact eqvAll_strs a b
theorem any_rows (r : List Str) : ∀ rs : List (List Str), ((rs.map fun r => PyData.tuple (r.map PyData.str)).any fun z => PyData.eqv z (.tuple (r.map PyData.str))) = decide (r ∈ rs)
  | [] => by simp
  | x :: rs => by
    rw [List.map_cons, List.any_cons, any_rows r rs, eqv_row]
    by_cases e : x = r
    · subst e; simp
    · have e2 : r ≠ x := fun q => e q.symm
      simp [e, e2]
theorem lits_fit {ns : List Str} (f : ∀ z ∈ ns, Fit z) : ∀ l ∈ lits ns, Fit l := fun l h => by
  obtain ⟨n, hn, hl⟩ := List.mem_flatMap.mp h
  rcases List.mem_cons.mp hl with rfl | hl
  · exact f _ hn
  · exact List.mem_singleton.mp hl ▸ (f n hn).neg
theorem asc_fit {ns ls : List Str} (f : ∀ z ∈ ns, Fit z) : ∀ l ∈ asc ns ls, Fit l := fun l h => lits_fit f l ((List.mem_filter.mp h).1)
def spOnce (K : PySem.W.Frag) : Sp := fun vs H Q _ => ∃ (A B : Addr) (cs : List Addr) (ls : List (List Str)) (ns : List Str), vs = [.ref A, .ref B] ∧ H A = some (.lst (cs.map V.ref)) ∧ Paired (fun c l => H c = some (.lst (l.map V.str))) cs ls ∧ H B = some (.lst (ns.map V.str)) ∧ ns.length ≤ 60 ∧ (∀ z ∈ ns, Name1 z) ∧ ls.length ≤ 1000 ∧
  ∀ (ts : List Addr) (rs : List (List Str)) (p : Addr) (H' : Hp), RowsAt H' ts rs → rs.Nodup → rs.length ≤ ls.length → (∀ r ∈ rs, ∃ l ∈ ls, r = asc ns l) → H p = none → H' p = some (.lst (ts.map V.ref)) → Same H H' → Q (.ref p) H'
section
variable {P : Program} {w : World} {K : PySem.W.Frag} {mg : Str → Option Value} {base : Heap} {f fU : Addr} {fd fdU : FuncData}
abbrev nOnce : List Str := ["_law_clauses", "_law_names_here", "_law_found", "_law_clause_here"]
theorem scOnce : FnScope nOnce ["_law_clauses", "_law_names_here"] (defScope sOnce) := ⟨rfl, rfl, rfl, by decide +kernel, rfl, by decide +kernel, by decide +kernel⟩
theorem get_map {α β : Type} {g : α → β} {xs : List α} {i : Nat} {y : β} (h : (xs.map g)[i]? = some y) : ∃ x, xs[i]? = some x ∧ y = g x := by
  rw [List.getElem?_map] at h
  cases e : xs[i]? with
  | none => rw [e] at h; cases h
  | some x => rw [e] at h; exact ⟨x, rfl, (Option.some.inj h).symm⟩
theorem paired_get {α β : Type} {R : α → β → Prop} : ∀ {xs : List α} {ys : List β}, Paired R xs ys → ∀ (i : Nat) (x : α), xs[i]? = some x → ∃ y, ys[i]? = some y ∧ R x y
  | _, _, .nil, i, x, h => by simp at h
  | _, _, .cons a _, 0, x, h => ⟨_, rfl, by simp at h; exact h ▸ a⟩
  | _, _, .cons _ q, i + 1, x, h => by simpa using paired_get q i x (by simpa using h)
theorem ok_once (F : Fun K "_law_once" "_law_once" sOnce f fd) (GU : FnOk P w K mg base CX0 1 fU fdU ["_law_some", "_law_names_here"] (spUp K)) (mU : mg "_law_up" = some (.ref fU)) (kU : PySem.W.keepIn K (.ref fU) = true) (bU : L2.Binds K fdU ["_law_some", "_law_names_here"] []) :
    FnOk P w K mg base CX0 2 f fd ["_law_clauses", "_law_names_here"] (spOnce K) := by
  refine F.ok scOnce (fun vs H Q E h => ?_) (fun cdv A outer s H vs Q E hr h => ?_)
  · obtain ⟨A, B, cs, ls, ns, rfl, _⟩ := h
    rfl
  · obtain ⟨A, B, cs, ls, ns, rfl, hA, hcs, hB, hn, good, hl, k⟩ := h
    have fit : ∀ z ∈ ns, Fit z := fun z hz => (good z hz).fit
    refine ⟨_, pss_cons (ps_set (i := 2) scOnce.nd rfl (.inl rfl) (pe_lst pa_nil))
      (pss_cons (ps_for PassesOwn.never rfl (pi_list (pv 0)) (pg_name (i := 3) scOnce.nd rfl (.inl rfl))
        (pss_one (ps_if (pt_cmpR (op_notInD (hu65 hr)) (pe_call GU hr (by rfl) mU kU bU .nil pass0 (pa_cons (pv 3) (pa_cons (pv 1) pa_nil))) (pv 2) rfl)
          (pss_one (ps_expr (pe_bm PySem.F.plainAttrs_list PySem.F.slot_list_append PySem.F.type_list_append mt_append (pv 2) (pa_cons (pe_call GU hr (by rfl) mU kU bU .nil pass0 (pa_cons (pv 3) (pa_cons (pv 1) pa_nil))) pa_nil)))) pss_nil)))
      (pss_one (ps_ret (pv 2)))), ?_⟩
    refine ⟨by show 0 ≤ sizeLine; exact Nat.zero_le _, fun p hp => ⟨_, rfl, A, rfl, ⟨_, SqL.of ((same_new hp) _ _ hA)⟩, for_list (K := K) (a := A) (xs := cs.map V.ref) (fun i σ H2 => ∃ (o3 : Option V) (ts : List Addr) (rs : List (List Str)), σ = [some (.ref A), some (.ref B), some (.ref p), o3] ∧ Same H H2 ∧ H2 p = some (.lst (ts.map V.ref)) ∧ RowsAt H2 ts rs ∧ rs.Nodup ∧ rs.length ≤ i ∧ ∀ r ∈ rs, ∃ l ∈ ls, r = asc ns l)
      ⟨_, [], [], rfl, same_new hp, upd_same, .nil, List.nodup_nil, Nat.zero_le _, (fun _ h => (nomatch h))⟩ (fun i σ H2 hi ⟨_, _, _, _, sm, _⟩ => SqL.of (sm _ _ hA)) ?_ ?_⟩⟩
    · rintro i x σ H2 hx ⟨o3, ts, rs, rfl, sm, hp2, hrs, nd, hlen, from_⟩
      obtain ⟨cl, hcl, rfl⟩ := get_map hx
      obtain ⟨l, hl', hcl'⟩ := paired_get hcs i cl hcl
      have memL := List.mem_of_getElem? hl'
      have up : ∀ (H3 : Hp), Same H2 H3 → SqL K H3 cl (l.map V.str) := fun H3 s3 => SqL.of (s3 _ _ (sm _ _ hcl'))
      have nm : ∀ (H3 : Hp), Same H2 H3 → SqL K H3 B (ns.map V.str) := fun H3 s3 => SqL.of (s3 _ _ (sm _ _ hB))
      refine ⟨_, rfl, _, rfl, cl, B, true, l, ns, rfl, up H2 (Same.refl _), up, nm H2 (Same.refl _), nm, hn, (fun z hz => (good z hz).2.1), fun t H3 ht ht3 sm3 => ⟨_, rfl, _, _, .tup (SqT.of ht3) (dp_strs _), .lst (SqL.of (sm3 _ _ hp2)) (RowsAt.same sm3 hrs).lift, shaped_row _ (asc_fit fit), shaped_rows rs (fun r hr => ?_), _, rfl, ?_⟩⟩
      · obtain ⟨l2, _, rfl⟩ := from_ r hr
        exact asc_fit fit
      rw [any_rows]
      by_cases q : asc ns l ∈ rs
      · rw [decide_eq_true q]
        exact iteF ⟨_, ts, rs, rfl, sm.trans sm3, sm3 _ _ hp2, RowsAt.same sm3 hrs, nd, by omega, from_⟩
      · rw [decide_eq_false q]
        refine iteT ⟨_, rfl, .inl ⟨rfl, _, SqL.of (sm3 _ _ hp2)⟩, _, rfl, _, rfl, cl, B, true, l, ns, rfl, up H3 sm3, (fun H4 s4 => up H4 (sm3.trans s4)), nm H3 sm3, (fun H4 s4 => nm H4 (sm3.trans s4)), hn, (fun z hz => (good z hz).2.1), fun t2 H4 ht2 ht4 sm4 => ?_⟩
        have sm24 := sm3.trans sm4
        have nt : t2 ≠ p := (ne_of_none (sm3 _ _ hp2) ht2).symm
        have keep : ∀ (o : HO), Same H (upd H4 p o) := fun o b u e => (upd_ne (ne_of_none e hp)).trans (sm24 b u (sm b u e))
        refine ⟨p, _, _, rfl, rfl, sm24 _ _ hp2, ?_, _, ts ++ [t2], rs ++ [asc ns l], rfl, keep _, ?_, ?_, ?_, ?_, ?_⟩
        · rw [List.length_map, Paired.length hrs, sizeLine_eq]
          have z := hlen
          have zi : i < cs.length := (List.getElem?_eq_some_iff.mp hcl).1
          have zc := Paired.length hcs
          omega
        · rw [upd_same, List.map_append]
          rfl
        · refine Paired.snoc ?_ ((upd_ne nt).trans ht4)
          exact (RowsAt.same sm24 hrs).put (sm24 _ _ hp2)
        · exact List.nodup_append.mpr ⟨nd, List.nodup_cons.mpr ⟨fun h => (nomatch h), List.nodup_nil⟩, fun a ha b hb e => q (by rw [← List.mem_singleton.mp hb, ← e]; exact ha)⟩
        · rw [List.length_append]
          show rs.length + 1 ≤ i + 1
          omega
        · intro r hr
          rcases List.mem_append.mp hr with z | z
          · exact from_ r z
          · exact ⟨l, memL, List.mem_singleton.mp z⟩
    · rintro σ H2 ⟨o3, ts, rs, rfl, sm, hp2, hrs, nd, hlen, from_⟩
      rw [List.length_map, Paired.length hcs] at hlen
      exact ⟨_, rfl, k ts rs p H2 hrs nd hlen from_ hp hp2 sm⟩
end
end K6
namespace K6
open PySem PySem.Spec PyProof.Rows L2 LamX NdefX EV
/-- a row of a code: the ascending literals of a clause over these names -/
def RowOf (ns r : List Str) : Prop := ∃ qs, Lits ns qs ∧ r = asc ns (qs.map lit)
/-- what the law draws: signs, helpers, rows -/
structure Draw1 (sg hp : List Str) (rs : List (List Str)) : Prop where
  nd : (sg ++ hp).Nodup
  good : ∀ z ∈ sg ++ hp, Name1 z
  one : 1 ≤ sg.length
  sg4 : sg.length ≤ 5
  hp3 : hp.length ≤ 3
  rnd : rs.Nodup
  r7 : rs.length ≤ 9
  row : ∀ r ∈ rs, RowOf (sg ++ hp) r
def kSigns : Key := Sum.inr (Str.ofString "signs")
def kHelpers : Key := Sum.inr (Str.ofString "helpers")
def kClauses : Key := Sum.inr (Str.ofString "clauses")
/-- the dict in which the law holds a code -/
structure CAt (H : Hp) (d ps ph pc : Addr) (sg hp : List Str) (ts : List Addr) (rs : List (List Str)) : Prop where
  d : H d = some (.dK [(kSigns, .ref ps), (kHelpers, .ref ph), (kClauses, .ref pc)])
  s : H ps = some (.lst (sg.map V.str))
  h : H ph = some (.lst (hp.map V.str))
  c : H pc = some (.lst (ts.map V.ref))
  r : RowsAt H ts rs
def spCode : Sp := fun vs H Q _ => ∃ (S L : Addr) (c : Nat), vs = [.ref S, .int 5, .int 3, .int 9] ∧ c ≤ 70000 ∧ StreamAt H S L c ∧
  ∀ (d ps ph pc : Addr) (sg hp : List Str) (ts : List Addr) (rs : List (List Str)) (c' : Nat) (H' : Hp), Draw1 sg hp rs → CAt H' d ps ph pc sg hp ts rs → (∀ p ∈ [ps, ph, pc], p ≠ S ∧ p ≠ L) → c' ≤ c + 1300 → StreamAt H' S L c' → Kept S L H H' → Q (.ref d) H'
section
variable {P : Program} {w : World} {K : PySem.W.Frag} {mg : Str → Option Value} {base : Heap} {f fD fN fC fO : Addr} {fd fdD fdN fdC fdO : FuncData}
abbrev nCode : List Str := ["_law_stream", "_law_signs", "_law_helpers", "_law_many", "_law_count", "_law_more", "_law_names_here", "_law_clauses", "_law_k"]
theorem scCode : FnScope nCode ["_law_stream", "_law_signs", "_law_helpers", "_law_many"] (defScope sCode) := ⟨rfl, rfl, rfl, by decide +kernel, rfl, by decide +kernel, by decide +kernel⟩
theorem ok_code (F : Fun K "_law_code" "_law_code" sCode f fd) (GD : FnOk P w K mg base CX0 1 fD fdD ["_law_stream", "_law_many"] spDraw) (mD : mg "_law_draw" = some (.ref fD)) (kD : PySem.W.keepIn K (.ref fD) = true) (bD : L2.Binds K fdD ["_law_stream", "_law_many"] [])
    (GN : FnOk P w K mg base CX0 4 fN fdN ["_law_stream", "_law_many"] spNames) (mN : mg "_law_names" = some (.ref fN)) (kN : PySem.W.keepIn K (.ref fN) = true) (bN : L2.Binds K fdN ["_law_stream", "_law_many"] [])
    (GC : FnOk P w K mg base CX0 4 fC fdC ["_law_stream", "_law_names_here", "_law_most"] (spClause K)) (mC : mg "_law_clause" = some (.ref fC)) (kC : PySem.W.keepIn K (.ref fC) = true) (bC : L2.Binds K fdC ["_law_stream", "_law_names_here", "_law_most"] [])
    (GO : FnOk P w K mg base CX0 2 fO fdO ["_law_clauses", "_law_names_here"] (spOnce K)) (mO : mg "_law_once" = some (.ref fO)) (kO : PySem.W.keepIn K (.ref fO) = true) (bO : L2.Binds K fdO ["_law_clauses", "_law_names_here"] []) (mr : mg "range" = none) :
    FnOk P w K mg base CX0 5 f fd ["_law_stream", "_law_signs", "_law_helpers", "_law_many"] spCode := by
  refine F.ok scCode (fun vs H Q E h => ?_) (fun cdv A outer s H vs Q E hr h => ?_)
  · obtain ⟨S, L, c, rfl, _⟩ := h
    rfl
  · obtain ⟨S, L, c, rfl, hc, hS, k⟩ := h
    have hr1 : Room 1 _ := hr.mono (by decide)
    have hr2 : Room 2 _ := hr.mono (by decide)
    refine ⟨_, pss_cons (ps_par (i := 4) (j := 5) rfl scCode.nd rfl rfl (by decide) (by rfl) (by rfl) (pa_cons (pe_op op_add pe_int (pe_call GD hr1 (by rfl) mD kD bD .nil pass0 (pa_cons (pv 0) (pa_cons (pv 1) pa_nil)))) (pa_cons (pe_call GD hr1 (by rfl) mD kD bD .nil pass0 (pa_cons (pv 0) (pa_cons (pe_op op_add (pv 2) pe_int) pa_nil))) pa_nil)) rfl)
      (pss_cons (ps_set (i := 6) scCode.nd rfl (.inr rfl) (pe_call GN hr (by rfl) mN kN bN .nil pass0 (pa_cons (pv 0) (pa_cons (pe_op op_add (pv 4) (pv 5)) pa_nil))))
      (pss_cons (ps_setLc (i := 7) (own := [("_law_k", 8)]) (g := gName 8) (tt := tYes) (by rfl) scCode.nd rfl rfl (sw_true rfl rfl rfl (by decide +kernel)) (pi_range1 (by rfl) mr (pa_cons (pe_call GD hr1 (by rfl) mD kD bD .nil pass0 (pa_cons (pv 0) (pa_cons (pe_op op_add (pv 3) pe_int) pa_nil))) pa_nil)) (blkOk_by (N := nCode) (sc := defScope sCode) (by decide +kernel))
          (fun _ _ _ _ _ => pg_name (i := 8) scCode.nd rfl (.inl rfl)) (fun _ _ _ _ _ => pts_nil) (fun _ _ _ _ _ => pe_call GC hr (by rfl) mC kC bC .nil pass0 (pa_cons (pv 0) (pa_cons (pv 6) (pa_cons pe_int pa_nil)))))
      (pss_one (ps_ret (pe_disp (pps_cons pe_str (pe_slice sl_list (pv 6) po_none (po_some (pv 4))) (pps_cons pe_str (pe_slice sl_list (pv 6) (po_some (pv 4)) po_none) (pps_cons pe_str (pe_call GO hr2 (by rfl) mO kO bO .nil pass0 (pa_cons (pv 7) (pa_cons (pv 6) pa_nil))) pps_nil))) (by rfl) (by rfl) (fun z => by cases z) (by decide)))))), ?_⟩
    refine ⟨_, rfl, _, rfl, S, L, 5, c, rfl, by decide, by decide, by omega, hS, fun r H1 r0 r1 hS1 hk1 => ⟨_, _, rfl, rfl, _, rfl, _, rfl, _, _, rfl, rfl, S, L, 4, _, rfl, by decide, by decide, by omega, hS1, fun q H2 q0 q1 hS2 hk2 => ⟨_, _, rfl, ?_⟩⟩⟩
    obtain ⟨a, rfl⟩ : ∃ a : Nat, r = (a : Int) := ⟨r.toNat, (Int.toNat_of_nonneg r0).symm⟩
    obtain ⟨b, rfl⟩ : ∃ b : Nat, q = (b : Int) := ⟨q.toNat, (Int.toNat_of_nonneg q0).symm⟩
    have hk02 := hk1.trans hk2
    refine ⟨_, rfl, _, rfl, _, rfl, _, _, rfl, rfl, S, L, 1 + a + b, _, ?_, by omega, by omega, hS2, fun ns p c3 H3 hl nd good hp hp3 hc3 hS3 hk3 => ?_⟩
    · show [V.ref S, V.int (1 + (a : Int) + b)] = [V.ref S, V.int ((1 + a + b : Nat) : Int)]
      rw [show (1 + (a : Int) + b) = ((1 + a + b : Nat) : Int) by omega]
    have offp := hS2.off hp
    refine ⟨_, rfl, _, rfl, _, _, rfl, rfl, S, L, 10, _, rfl, by decide, by decide, by omega, hS3, fun m H4 m0 m1 hS4 hk4 => ?_⟩
    obtain ⟨n, rfl⟩ : ∃ n : Nat, m = (n : Int) := ⟨m.toNat, (Int.toNat_of_nonneg m0).symm⟩
    have hp4 := hk4 _ _ hp3 offp.1 offp.2
    refine ⟨_, rfl, by omega, by omega, fun D hD => lc_range (lo := 0) (n := n) (fun i H5 => ∃ (cs : List Addr) (ls : List (List Str)) (c5 : Nat), cs.length = i ∧ Paired (fun c l => H5 c = some (.lst (l.map V.str)) ∧ (c ≠ S ∧ c ≠ L) ∧ c ≠ D) cs ls ∧ (∀ l ∈ ls, ∃ qs, Lits ns qs ∧ l = qs.map lit) ∧ H5 D = some (.lst (cs.map V.ref)) ∧ c5 ≤ c3 + 1 + 122 * i ∧ StreamAt H5 S L c5 ∧ Kept S L H4 H5)
      ⟨[], [], _, rfl, .nil, (fun _ h => (nomatch h)), upd_same, Nat.le_refl _, hS4.new hD, (Kept.refl H4).new hD⟩ ?_ ?_⟩
    · rintro i H5 hi ⟨cs, ls, c5, hcl, hcs, hls, hD5, hc5, hS5, hk5⟩
      have offD := hS4.off hD
      have hp5 := hk5 _ _ hp4 offp.1 offp.2
      refine ⟨rfl, _, rfl, _, rfl, S, L, p, ns, 3, c5, rfl, SqL.of hp5, (fun H' hk' => SqL.of (hk' _ _ hp5 offp.1 offp.2)), by omega, nd, good, by decide, by decide, by omega, hS5, fun qs q c6 H6 hq hq0 hq6 hc6 hS6 hk6 => ?_⟩
      have hD6 := hk6 _ _ hD5 offD.1 offD.2
      have nqD : q ≠ D := (ne_of_none hD5 hq0).symm
      refine ⟨_, hD6, by rw [List.length_map, sizeLine_eq]; omega, cs ++ [q], ls ++ [qs.map lit], c6, by rw [List.length_append, hcl]; rfl, Paired.snoc (Paired.mapP hcs fun c l z => ⟨(upd_ne z.2.2).trans (hk6 _ _ z.1 z.2.1.1 z.2.1.2), z.2⟩) ⟨(upd_ne nqD).trans hq6, hS5.off hq0, nqD⟩, ?_, ?_, by omega, hS6.put offD.1 offD.2, fun b o e n1 n2 => (upd_ne (ne_of_none e hD)).trans (hk6 b o (hk5 b o e n1 n2) n1 n2)⟩
      · intro l hl
        rcases List.mem_append.mp hl with z | z
        · exact hls l z
        · exact ⟨qs, hq, List.mem_singleton.mp z⟩
      · rw [upd_same, List.map_append]
        rfl
    · rintro H5 ⟨cs, ls, c5, hcl, hcs, hls, hD5, hc5, hS5, hk5⟩
      have hp5 := hk5 _ _ hp4 offp.1 offp.2
      intro d hd
      have offd := hS5.off hd
      have npd : p ≠ d := ne_of_none hp5 hd
      have hp6 : upd H5 d (.dK []) p = some (.lst (ns.map V.str)) := (upd_ne npd).trans hp5
      refine ⟨_, rfl, _, rfl, _, rfl, p, _, rfl, SqL.of hp6, fun ps hps => ?_⟩
      have hp7 := (upd_ne (o := .lst (cutV (ns.map V.str) none (some (1 + (a : Int))))) (ne_of_none hp6 hps)).trans hp6
      refine ⟨_, rfl, _, rfl, _, rfl, p, _, rfl, SqL.of hp7, fun ph hph => ?_⟩
      have hp8 := (upd_ne (o := .lst (cutV (ns.map V.str) (some (1 + (a : Int))) none)) (ne_of_none hp7 hph)).trans hp7
      have sm8 : Same H5 _ := ((same_new (o := .dK []) hd).trans (same_new (o := .lst (cutV (ns.map V.str) none (some (1 + (a : Int))))) hps)).trans (same_new (o := .lst (cutV (ns.map V.str) (some (1 + (a : Int))) none)) hph)
      refine ⟨_, rfl, _, rfl, D, p, cs, ls, ns, rfl, sm8 _ _ hD5, Paired.mapP hcs fun c l z => sm8 _ _ z.1, hp8, by omega, good, ?_, fun ts rs pc H9 hrs rnd rlen rfrom hpc hpc9 sm9 => ?_⟩
      · have z := Paired.length hcs
        omega
      have e1 : (1 + (a : Int)) = ((1 + a : Nat) : Int) := by omega
      have hd9 : H9 d = some (.dK []) := sm9 _ _ ((upd_ne (ne_of_none ((upd_ne (ne_of_none (show upd H5 d (.dK []) d = some (.dK []) from upd_same) hps)).trans upd_same) hph)).trans ((upd_ne (ne_of_none (show upd H5 d (.dK []) d = some (.dK []) from upd_same) hps)).trans upd_same))
      refine ⟨hd9, [(kSigns, .ref ps), (kHelpers, .ref ph), (kClauses, .ref pc)], rfl, (by show 3 ≤ 15; decide), ?_⟩
      have hps9 : H9 ps = some (.lst (cutV (ns.map V.str) none (some (1 + (a : Int))))) := sm9 _ _ ((upd_ne (ne_of_none (show upd (upd H5 d (.dK [])) ps _ ps = some (.lst (cutV (ns.map V.str) none (some (1 + (a : Int))))) from upd_same) hph)).trans upd_same)
      have hph9 : H9 ph = some (.lst (cutV (ns.map V.str) (some (1 + (a : Int))) none)) := sm9 _ _ upd_same
      rw [e1, cutV_take, ← List.map_take] at hps9
      rw [e1, cutV_drop, ← List.map_drop] at hph9
      have cut : ns.take (1 + a) ++ ns.drop (1 + a) = ns := List.take_append_drop ..
      have hk : Kept S L H H9 := (((hk02.trans hk3).trans hk4).trans hk5).trans fun b o e _ _ => sm9 _ _ (sm8 _ _ e)
      obtain ⟨zs, za, zm, z1, z2, z3⟩ := id hS5
      have nd1 : ∀ {x : Addr} {xs : List V}, H9 x = some (.lst xs) → x ≠ d := fun h => ne_of h hd9 fun z => nomatch z
      refine k d ps ph pc (ns.take (1 + a)) (ns.drop (1 + a)) ts rs c5 _ ⟨by rw [cut]; exact nd, by rw [cut]; exact good, ?_, ?_, ?_, rnd, ?_, ?_⟩ ⟨upd_same, (upd_ne (nd1 hps9)).trans hps9, (upd_ne (nd1 hph9)).trans hph9, (upd_ne (nd1 hpc9)).trans hpc9, ?_⟩ ?_ (by omega) ⟨zs, za, zm, (upd_ne (nd1 (sm9 _ _ (sm8 _ _ z1)))).trans (sm9 _ _ (sm8 _ _ z1)), (upd_ne (nd1 (sm9 _ _ (sm8 _ _ z2)))).trans (sm9 _ _ (sm8 _ _ z2)), z3⟩ ?_
      · rw [List.length_take]
        omega
      · rw [List.length_take]
        omega
      · rw [List.length_drop]
        omega
      · have z := Paired.length hcs
        omega
      · intro r hr
        obtain ⟨l, hl', rfl⟩ := rfrom r hr
        obtain ⟨qs, hq, rfl⟩ := hls l hl'
        rw [cut]
        exact ⟨qs, hq, rfl⟩
      · refine Paired.mapP hrs fun t r z => (upd_ne (ne_of z hd9 fun q => nomatch q)).trans z
      · intro p hp
        rcases List.mem_cons.mp hp with rfl | hp
        · exact (hS5.new (o := .dK []) hd).off hps
        · rcases List.mem_cons.mp hp with rfl | hp
          · exact ((hS5.new (o := .dK []) hd).new (o := .lst (cutV (ns.map V.str) none (some (1 + (a : Int))))) hps).off hph
          · rw [List.mem_singleton.mp hp]
            exact (((hS5.new (o := .dK []) hd).new (o := .lst (cutV (ns.map V.str) none (some (1 + (a : Int))))) hps).new (o := .lst (cutV (ns.map V.str) (some (1 + (a : Int))) none)) hph).off hpc
      · have dn : H d = none := (((hk02.trans hk3).trans hk4).trans hk5).none hd offd.1 offd.2
        exact fun b o e n1 n2 => (upd_ne (ne_of_none e dn)).trans (hk b o e n1 n2)
end
end K6
namespace K6
open PySem PySem.Spec PyProof.Rows L2 LamX NdefX EV
/-! ### the program: names and literals -/
theorem in_letters {ch : Nat} (h : 97 ≤ ch ∧ ch ≤ 122) : ch ∈ letters.cps.toList := by
  have z := letter_at (ch - 97) (by omega)
  have e : 97 + (ch - 97) = ch := by omega
  rw [e] at z
  exact List.mem_of_getElem? z
def spIsName : Sp := fun vs H Q _ => ∃ z : Str, vs = [.str z] ∧ Name1 z ∧ ∀ H', Same H H' → Q (.bl true) H'
section
variable {P : Program} {w : World} {K : PySem.W.Frag} {mg : Str → Option Value} {base : Heap} {f fI : Addr} {fd fdI : FuncData}
abbrev nIsName : List Str := ["thing", "letter"]
theorem scIsName : FnScope nIsName ["thing"] (defScope sIsName) := ⟨rfl, rfl, rfl, by decide +kernel, rfl, by decide +kernel, by decide +kernel⟩
theorem ok_isName (F : Fun K "is_name" "is_name" sIsName f fd) (mi : mg "isinstance" = none) (ms : mg "str" = none) (ml : mg "len" = none) (ma : mg "all" = none) (mL : ∃ t, mg "LETTERS" = some (.str letters t)) (mM : ∃ t, mg "MOST_LETTERS" = some (.int 8 t)) :
    FnOk P w K mg base CX0 1 f fd ["thing"] spIsName := by
  obtain ⟨tL, mL⟩ := mL
  obtain ⟨tM, mM⟩ := mM
  refine F.ok scIsName (fun vs H Q E h => ?_) (fun cdv A outer s H vs Q E hr h => ?_)
  · obtain ⟨z, rfl, _⟩ := h
    rfl
  · obtain ⟨z, rfl, good, k⟩ := h
    refine ⟨_, pss_cons (ps_if (PW.pt (pw_or (pt_not (pt_val (pe_callB call_isi (by rfl) mi (by decide +kernel) (pa_cons (pv 0) (pa_cons (pe_bltn (v := .ty "str") (by rfl) ms (by decide +kernel) rfl) pa_nil))))) (pw_or1 (pt_not (pt_chain op_le op_le pe_int (pe_callB call_len (by rfl) ml PySem.boot_len (pa_cons (pv 0) pa_nil)) (pe_glob (v := .int 8) (by rfl) mM ⟨_, rfl⟩))))))
        (pss_one (ps_ret pe_bl)) pss_nil)
      (pss_one (ps_ret (pe_callB (cr_all rfl) (by rfl) ma (by decide +kernel) (pa_cons (pe_lc (own := [("letter", 1)]) (g := gName 1) (tt := tYes) rfl scIsName.nd (pi_str (pv 0)) (blkOk_by (N := nIsName) (sc := defScope sIsName) (by decide +kernel))
          (fun _ _ _ _ _ => pg_name (i := 1) scIsName.nd rfl (.inl rfl)) (fun _ _ _ _ _ => pts_nil) (fun _ _ _ _ _ => pe_cmpR op_in_sign (pv 1) (pe_glob (v := .str letters) (by rfl) mL ⟨_, rfl⟩) rfl)) pa_nil)))), ?_⟩
    have g1 := good.1
    have g2 := good.2.1
    have lz : z.length ≤ sizeLine := by rw [sizeLine_eq]; omega
    refine ⟨_, rfl, _, _, _, _, true, rfl, .ty "str", .base (.str z), kit_ty (by decide +kernel), _, rfl, ?_⟩
    refine iteF ⟨_, rfl, _, z.length, rfl, ⟨lz, rfl⟩, ?_⟩
    refine ⟨_, _, rfl, rfl, _, rfl, ?_⟩
    have d1 : decide ((1 : Int) ≤ ((z.length : Nat) : Int)) = true := decide_eq_true (by omega)
    have d2 : decide (((z.length : Nat) : Int) ≤ 8) = true := decide_eq_true (by omega)
    rw [d1]
    refine iteT ⟨_, _, rfl, rfl, _, rfl, ?_⟩
    rw [d2]
    refine iteF ⟨_, rfl, z, rfl, fun D hD => lc_it walk_str (fun i H2 => Same H H2 ∧ H2 D = some (.lst ((List.replicate i true).map V.bl))) ⟨same_new hD, upd_same⟩ (fun _ _ _ _ => trivial) ?_ ?_⟩
    · rintro i x H2 H3 hi ⟨sm, hD2⟩ ⟨rfl, ch, hch, rfl⟩
      have mem : ch ∈ z.cps.toList := List.mem_of_getElem? (by rw [Array.getElem?_toList]; exact hch)
      have zl : z.cps.size = z.length := rfl
      refine ⟨rfl, _, rfl, ch, letters, rfl, rfl, _, hD2, by rw [List.length_map, List.length_replicate, sizeLine_eq]; omega, fun b o e => (upd_ne (ne_of_none e hD)).trans (sm b o e), ?_⟩
      rw [upd_same, decide_eq_true (in_letters (good.2.2 ch mem)), List.replicate_succ', List.map_append]
      rfl
    · rintro H2 ⟨sm, hD2⟩
      refine ⟨D, _, rfl, SqL.of hD2, ?_⟩
      have e : (List.replicate z.cps.size true).all id = true := List.all_eq_true.mpr fun x hx => (List.mem_replicate.mp hx).2
      rw [e]
      exact k H2 sm
end
end K6
namespace K6
open PySem PySem.Spec PyProof.Rows L2 LamX NdefX EV
/-- a comprehension of two fors over any walks: the outer one, and the inner one within a turn of it -/
theorem lc2_it {J : It} {n : Nat} {G : Hp → Prop} {Y : Nat → Hp → V → Hp → Prop} (w : Walk J n G Y) {D : Addr} {H1 : Hp} {Qd : Hp → Prop} {T : (Hp → Prop) → V → Hp → Prop} (Pv : Nat → Hp → Prop) (start : Pv 0 (upd H1 D (.lst []))) (stay : ∀ i H, i ≤ n → Pv i H → G H)
    (turn : ∀ i x H H', i < n → Pv i H → Y i H x H' → T (Pv (i + 1)) x H') (fin : ∀ H, Pv n H → Qd H) :
    ∃ W : Nat → Nat → Hp → Prop, (∃ m, W 0 m (upd H1 D (.lst []))) ∧ ∀ i m H, W i m H → (J.stop i H ∧ Qd H) ∨ (J.go i H ∧ ∃ Nx : Hp → Prop, (∀ H', Nx H' → ∃ m', m' < m ∧ W (i + 1) m' H') ∧ ∀ x H', J.yld i H x H' → T Nx x H') := by
  refine ⟨fun i m H => i + m = n ∧ Pv i H, ⟨n, Nat.zero_add n, start⟩, fun i m H st => ?_⟩
  obtain ⟨sum, pv⟩ := st
  have g := stay i H (by omega) pv
  match m, sum with
  | 0, sum =>
    obtain rfl : i = n := sum
    exact .inl ⟨w.stops H g, fin H pv⟩
  | m + 1, sum => exact .inr ⟨w.goes i H (by omega) g, Pv (i + 1), fun H3 p3 => ⟨m, Nat.lt_succ_self m, by omega, p3⟩, fun x H3 y => turn i x H H3 (by omega) pv (w.yields i H x H3 (by omega) g y)⟩
theorem in_it {J : It} {n : Nat} {G : Hp → Prop} {Y : Nat → Hp → V → Hp → Prop} (w : Walk J n G Y) {H1 : Hp} {Nx : Hp → Prop} {T : (Hp → Prop) → V → Hp → Prop} (Pv : Nat → Hp → Prop) (start : Pv 0 H1) (stay : ∀ i H, i ≤ n → Pv i H → G H)
    (turn : ∀ i x H H', i < n → Pv i H → Y i H x H' → T (Pv (i + 1)) x H') (fin : ∀ H, Pv n H → Nx H) :
    ∃ W : Nat → Nat → Hp → Prop, (∃ m, W 0 m H1) ∧ ∀ i m H, W i m H → (J.stop i H ∧ Nx H) ∨ (J.go i H ∧ ∃ Nx1 : Hp → Prop, (∀ H', Nx1 H' → ∃ m', m' < m ∧ W (i + 1) m' H') ∧ ∀ x H', J.yld i H x H' → T Nx1 x H') := by
  refine ⟨fun i m H => i + m = n ∧ Pv i H, ⟨n, Nat.zero_add n, start⟩, fun i m H st => ?_⟩
  obtain ⟨sum, pv⟩ := st
  have g := stay i H (by omega) pv
  match m, sum with
  | 0, sum =>
    obtain rfl : i = n := sum
    exact .inl ⟨w.stops H g, fin H pv⟩
  | m + 1, sum => exact .inr ⟨w.goes i H (by omega) g, Pv (i + 1), fun H3 p3 => ⟨m, Nat.lt_succ_self m, by omega, p3⟩, fun x H3 y => turn i x H H3 (by omega) pv (w.yields i H x H3 (by omega) g y)⟩
/-! ### a literal's name -/
theorem starts_iff (x y : Str) : Txt.startswith x y = true ↔ StrLaws.At x y x.length 0 := by
  unfold Txt.startswith StrLaws.At
  simp
theorem starts_neg (n : Str) : Txt.startswith (neg n) (Str.ofString "-") = true := by
  refine (starts_iff _ _).mpr ((TL.at_iff (y := Str.ofString "-") (fun h => nomatch h) 0).mpr ?_)
  show TL.pre [45] ((neg n).cps.toList.drop 0) = true
  rw [neg_list]
  rfl
theorem starts_name {n : Str} (h : Name1 n) : Txt.startswith n (Str.ofString "-") = false := by
  cases e : Txt.startswith n (Str.ofString "-") with
  | false => rfl
  | true =>
    have z := (TL.at_iff (y := Str.ofString "-") (fun h => nomatch h) 0).mp ((starts_iff _ _).mp e)
    replace z : TL.pre [45] (n.cps.toList.drop 0) = true := z
    rw [List.drop_zero] at z
    cases q : n.cps.toList with
    | nil => rw [q] at z; cases z
    | cons c r =>
      rw [q] at z
      have hc := h.2.2 c (by rw [q]; exact List.mem_cons_self)
      have e45 : c = 45 := by simpa [TL.pre] using z
      omega
theorem cut_neg (n : Str) : cutS (neg n) (some 1) none = n := by
  obtain ⟨cs⟩ := n
  unfold cutS
  rw [HT.sIx_none, show HT.sIx (neg ⟨cs⟩).length 0 (some 1) = min 1 (neg ⟨cs⟩).length from HT.sIx_nat _ _ 1, neg_list, neg_len, Nat.min_eq_left (by omega)]
  show Str.mk ((cs.toList.take _).toArray) = _
  rw [List.take_of_length_le (by rw [Array.length_toList]; exact Nat.le_of_eq rfl), Array.toArray_toList]
def spNameOf : Sp := fun vs H Q _ => ∃ q : Bool × Str, vs = [.str (lit q)] ∧ Name1 q.2 ∧ Q (.str q.2) H
def spLits (K : PySem.W.Frag) : Sp := fun vs H Q _ => ∃ (T : Addr) (b : Bool) (ns : List Str), vs = [.ref T] ∧ Sq K b H T (ns.map V.str) ∧ (∀ H', Same H H' → Sq K b H' T (ns.map V.str)) ∧ ns.length ≤ 60 ∧ (∀ z ∈ ns, z.length ≤ 8) ∧
  ∀ (p : Addr) (H' : Hp), H p = none → H' p = some (.lst ((lits ns).map V.str)) → Same H H' → Q (.ref p) H'
section
variable {P : Program} {w : World} {K : PySem.W.Frag} {mg : Str → Option Value} {base : Heap} {f fI : Addr} {fd fdI : FuncData}
theorem scNameOf : FnScope ["literal"] ["literal"] (defScope sNameOf) := ⟨rfl, rfl, rfl, by decide +kernel, rfl, by decide +kernel, by decide +kernel⟩
theorem ok_nameOf (F : Fun K "name_of" "name_of" sNameOf f fd) : FnOk P w K mg base CX0 1 f fd ["literal"] spNameOf := by
  refine F.ok scNameOf (fun vs H Q E h => ?_) (fun cdv A outer s H vs Q E hr h => ?_)
  · obtain ⟨q, rfl, _⟩ := h
    rfl
  · obtain ⟨⟨b, n⟩, rfl, good, k⟩ := h
    have n8 := good.2.1
    replace n8 : n.length ≤ 8 := n8
    refine ⟨_, pss_cons (ps_if (pt_val (pe_m1 PySem.F.slot_str_startswith PySem.F.type_str_startswith mt_startswith (pv 0) pe_str)) (pss_one (ps_ret (pe_slice sl_str (pv 0) (po_some pe_int) po_none))) pss_nil) (pss_one (ps_ret (pv 0))), ?_⟩
    refine ⟨_, rfl, ⟨_, rfl⟩, _, _, rfl, rfl, _, rfl, ?_⟩
    cases b
    · rw [show Txt.startswith (lit (false, n)) (Str.ofString "-") = false from starts_name good]
      exact iteF ⟨_, rfl, k⟩
    · rw [show Txt.startswith (lit (true, n)) (Str.ofString "-") = true from starts_neg n]
      refine iteT ⟨_, rfl, _, rfl, lit (true, n), rfl, ?_, ?_⟩
      · show (neg n).length ≤ sizeLine
        rw [neg_len, sizeLine_eq]
        omega
      · rw [show cutS (lit (true, n)) (some 1) none = n from cut_neg n]
        exact k
abbrev nLits : List Str := ["names", "name", "literal"]
theorem scLits : FnScope nLits ["names"] (defScope sLits) := ⟨rfl, rfl, rfl, by decide +kernel, rfl, by decide +kernel, by decide +kernel⟩
theorem ok_lits (F : Fun K "literals_of" "literals_of" sLits f fd) : FnOk P w K mg base CX0 1 f fd ["names"] (spLits K) := by
  refine F.ok scLits (fun vs H Q E h => ?_) (fun cdv A outer s H vs Q E hr h => ?_)
  · obtain ⟨T, b, ns, rfl, _⟩ := h
    rfl
  · obtain ⟨T, b, ns, rfl, hT, hT', hn, h8, k⟩ := h
    refine ⟨_, pss_one (ps_ret (pe_lc2 (own := [("name", 1), ("literal", 2)]) (vs1 := [2]) (g := gName 1) (tt := tYes) (g1 := gName 2) (tt1 := tYes) rfl scLits.nd (pi_seq (pv 0)) (blkOk_by (N := nLits) (sc := defScope sLits) (by decide +kernel)) (by decide)
          (fun _ _ _ _ _ => pg_name (i := 1) scLits.nd rfl (.inl rfl)) (fun _ _ _ _ _ => pts_nil) (fun _ _ _ _ _ => show PI _ _ _ (iTup K _) from pi_tup (pe_tup (pa_cons (pv 1) (pa_cons (pe_op op_add_str pe_str (pv 1)) pa_nil)))) (fun _ _ _ _ _ => pg_name (i := 2) scLits.nd rfl (.inl rfl)) (fun _ _ _ _ _ => pts_nil) (fun _ _ _ _ _ => pv 2))), ?_⟩
    refine ⟨_, rfl, b, T, _, rfl, hT, fun D hD => lc2_it walk_sq (fun i H2 => Same H H2 ∧ H2 D = some (.lst ((lits (ns.take i)).map V.str))) ⟨same_new hD, upd_same⟩ (fun i H2 _ hh => hT' _ hh.1) ?_ ?_⟩
    · rintro i x H2 H3 hi ⟨sm, hD2⟩ ⟨rfl, hx⟩
      obtain ⟨n, hn', rfl⟩ := get_map hx
      have n8 := h8 n (List.mem_of_getElem? hn')
      have e : ns.take (i + 1) = ns.take i ++ [n] := by rw [List.take_succ, hn']; rfl
      have lt : (lits (ns.take i)).length ≤ 120 := by
        rw [lits_len]
        have := List.length_take_le i ns
        have := List.length_take_le' i ns
        omega
      refine ⟨rfl, _, rfl, _, rfl, _, _, rfl, rfl, by show 1 + n.length ≤ sizeLine; rw [sizeLine_eq]; omega, by show 2 ≤ sizeLine; decide, fun t ht => ⟨t, rfl, ⟨_, SqT.of upd_same⟩, in_it (walk_tup (xs := [V.str n, V.str (neg n)])) (fun j H4 => Same H H4 ∧ H4 t = some (.tup [.str n, .str (neg n)]) ∧ H4 D = some (.lst ((lits (ns.take i) ++ [n, neg n].take j).map V.str))) ?_ (fun j H4 _ hh => ?_) ?_ ?_⟩⟩
      · refine ⟨sm.trans (same_new ht), upd_same, ?_⟩
        rw [List.take_zero, List.append_nil]
        exact (upd_ne (ne_of_none hD2 ht)).trans hD2
      · exact SqT.of hh.2.1
      · rintro j y H4 H5 hj ⟨sm4, ht4, hD4⟩ ⟨rfl, hy⟩
        obtain ⟨l, hl, rfl⟩ := get_map (g := V.str) (xs := [n, neg n]) hy
        have e2 : [n, neg n].take (j + 1) = [n, neg n].take j ++ [l] := by rw [List.take_succ, hl]; rfl
        refine ⟨rfl, _, rfl, _, hD4, ?_, fun b o h => (upd_ne (ne_of_none h hD)).trans (sm4 b o h), (upd_ne (ne_of ht4 hD4 fun z => nomatch z)).trans ht4, ?_⟩
        · rw [List.length_map, List.length_append, sizeLine_eq]
          have := List.length_take_le' j [n, neg n]
          have l5 : [n, neg n].length = 2 := rfl
          omega
        · rw [upd_same, e2, ← List.append_assoc, List.map_append (l₁ := _ ++ _)]
          rfl
      · rintro H4 ⟨sm4, _, hD4⟩
        refine ⟨sm4, ?_⟩
        rw [hD4, e]
        unfold lits
        rw [List.flatMap_append]
        rfl
    · rintro H2 ⟨sm, hD2⟩
      rw [List.length_map, List.take_length] at hD2
      exact k D H2 hD hD2 sm
end
end K6
namespace K6
open PySem PySem.Spec PyProof.Rows L2 LamX NdefX EV
/-! ### places -/
theorem neg_inj {m n : Str} (h : neg m = neg n) : m = n := by
  have z := congrArg (fun s : Str => s.cps.toList) h
  replace z : (neg m).cps.toList = (neg n).cps.toList := z
  rw [neg_list, neg_list] at z
  injection z with _ z
  obtain ⟨a⟩ := m
  obtain ⟨b⟩ := n
  rw [show a = b from Array.toList_inj.mp z]
theorem name_neg {m n : Str} (h : Name1 m) (e : m = neg n) : False := by
  have z := h.2.2 45 (by rw [e, neg_list]; exact List.mem_cons_self)
  omega
theorem lits_nodup : ∀ ns : List Str, ns.Nodup → (∀ z ∈ ns, Name1 z) → (lits ns).Nodup
  | [], _, _ => List.nodup_nil
  | n :: r, nd, good => by
    have nd' := List.nodup_cons.mp nd
    have gn := good n List.mem_cons_self
    have gr : ∀ z ∈ r, Name1 z := fun z h => good z (List.mem_cons_of_mem _ h)
    have ih := lits_nodup r nd'.2 gr
    have h1 : n ∉ lits r := fun h => by
      obtain ⟨m, hm, hl⟩ := List.mem_flatMap.mp h
      rcases List.mem_cons.mp hl with q | q
      · exact nd'.1 (q ▸ hm)
      · exact name_neg gn (List.mem_singleton.mp q)
    have h2 : neg n ∉ lits r := fun h => by
      obtain ⟨m, hm, hl⟩ := List.mem_flatMap.mp h
      rcases List.mem_cons.mp hl with q | q
      · exact name_neg (gr m hm) q.symm
      · exact nd'.1 (neg_inj (List.mem_singleton.mp q) ▸ hm)
    show (n :: neg n :: lits r).Nodup
    refine List.nodup_cons.mpr ⟨fun h => ?_, List.nodup_cons.mpr ⟨h2, ih⟩⟩
    rcases List.mem_cons.mp h with q | q
    · exact name_neg gn q
    · exact h1 q
/-- each text with its place, from k on -/
def plcF : Nat → List Str → List (Key × V)
  | _, [] => []
  | k, l :: r => (Sum.inr l, .int (k : Int)) :: plcF (k + 1) r
theorem plcF_snoc (l : Str) : ∀ (xs : List Str) (k : Nat), plcF k (xs ++ [l]) = plcF k xs ++ [(Sum.inr l, .int ((k + xs.length : Nat) : Int))]
  | [], k => rfl
  | x :: r, k => by
    show (Sum.inr x, V.int k) :: plcF (k + 1) (r ++ [l]) = _
    rw [plcF_snoc l r (k + 1), show k + 1 + r.length = k + (x :: r).length by rw [List.length_cons]; omega]
    rfl
theorem plcF_len : ∀ (xs : List Str) (k : Nat), (plcF k xs).length = xs.length
  | [], _ => rfl
  | x :: r, k => congrArg (· + 1) (plcF_len r (k + 1))
theorem plcF_at {l : Str} : ∀ (xs : List Str) (k i : Nat), xs.Nodup → xs[i]? = some l → valV (plcF k xs) (Sum.inr l) = some (.int ((k + i : Nat) : Int))
  | [], _, i, _, h => by simp at h
  | x :: r, k, 0, _, h => by
    obtain rfl : x = l := by simpa using h
    exact valV_pos rfl
  | x :: r, k, i + 1, nd, h => by
    have nd' := List.nodup_cons.mp nd
    have h' : r[i]? = some l := by simpa using h
    have ne : ¬ (Sum.inr x : Key) = Sum.inr l := fun e => by
      injection e with e
      exact nd'.1 (e ▸ List.mem_of_getElem? h')
    show valV ((Sum.inr x, V.int k) :: plcF (k + 1) r) _ = _
    rw [valV_neg ne, plcF_at r (k + 1) i nd'.2 h', show k + 1 + i = k + (i + 1) by omega]
theorem plcF_none {l : Str} : ∀ (xs : List Str) (k : Nat), l ∉ xs → valV (plcF k xs) (Sum.inr l) = none
  | [], _, _ => rfl
  | x :: r, k, h => by
    have ne : ¬ (Sum.inr x : Key) = Sum.inr l := fun e => by
      injection e with e
      exact h (e ▸ List.mem_cons_self)
    show valV ((Sum.inr x, V.int k) :: plcF (k + 1) r) _ = _
    rw [valV_neg ne]
    exact plcF_none r (k + 1) fun q => h (List.mem_cons_of_mem _ q)
theorem putK_new {κ : Type} [DecidableEq κ] {kvs : List (κ × V)} {k : κ} {v : V} (h : valV kvs k = none) : putK kvs k v = kvs ++ [(k, v)] := by
  unfold putK
  rw [valV_any, h]
  rfl
abbrev plc (ns : List Str) : List (Key × V) := plcF 0 (lits ns)
def spPlaces (K : PySem.W.Frag) : Sp := fun vs H Q _ => ∃ (T : Addr) (b : Bool) (ns : List Str), vs = [.ref T] ∧ Sq K b H T (ns.map V.str) ∧ (∀ H', Same H H' → Sq K b H' T (ns.map V.str)) ∧ ns.length ≤ 60 ∧ ns.Nodup ∧ (∀ z ∈ ns, Name1 z) ∧
  ∀ (p : Addr) (H' : Hp), H p = none → H' p = some (.dK (plc ns)) → Same H H' → Q (.ref p) H'
section
variable {P : Program} {w : World} {K : PySem.W.Frag} {mg : Str → Option Value} {base : Heap} {f fL : Addr} {fd fdL : FuncData}
abbrev nPlaces : List Str := ["names", "place", "literal"]
theorem scPlaces : FnScope nPlaces ["names"] (defScope sPlaces) := ⟨rfl, rfl, rfl, by decide +kernel, rfl, by decide +kernel, by decide +kernel⟩
theorem ok_places (F : Fun K "places_of" "places_of" sPlaces f fd) (GL : FnOk P w K mg base CX0 1 fL fdL ["names"] (spLits K)) (mL : mg "literals_of" = some (.ref fL)) (kL : PySem.W.keepIn K (.ref fL) = true) (bL : L2.Binds K fdL ["names"] []) (me : mg "enumerate" = none) :
    FnOk P w K mg base CX0 2 f fd ["names"] (spPlaces K) := by
  refine F.ok scPlaces (fun vs H Q E h => ?_) (fun cdv A outer s H vs Q E hr h => ?_)
  · obtain ⟨T, b, ns, rfl, _⟩ := h
    rfl
  · obtain ⟨T, b, ns, rfl, hT, hT', hn, nd, good, k⟩ := h
    have hu := hu_of hr
    refine ⟨_, pss_one (ps_ret (pe_dcP (own := [("place", 1), ("literal", 2)]) .k rfl hu scPlaces.nd (pi_enumB (by rfl) me (pa_cons (pe_call GL hr (by rfl) mL kL bL .nil pass0 (pa_cons (pv 0) pa_nil)) pa_nil)) (blkOk_by (N := nPlaces) (sc := defScope sPlaces) (by decide +kernel))
          (fun _ _ _ _ _ => show PG _ _ (gTup K 2 _) from pg_tup rfl (pgs_cons (pg_name (i := 1) scPlaces.nd rfl (.inl rfl)) (pgs_cons (pg_name (i := 2) scPlaces.nd rfl (.inl rfl)) pgs_nil))) (fun _ _ _ _ _ => pts_nil) (fun _ _ _ _ _ => pv 2) (fun _ _ _ _ _ => pv 1))), ?_⟩
    refine ⟨_, rfl, T, b, ns, rfl, hT, hT', hn, (fun z hz => (good z hz).2.1), fun p H1 hp hp1 sm1 => ⟨true, p, _, rfl, Sq.lst hp1, fun D hD => dc_it walk_enumB (fun i H2 => Same H1 H2 ∧ H2 D = some (.dK (plcF 0 ((lits ns).take i)))) ⟨same_new hD, upd_same⟩ (fun i H2 _ hh => Sq.lst (hh.1 _ _ hp1)) ?_ ?_⟩⟩
    · rintro i x H2 H3 hi ⟨sm, hD2⟩ ⟨t, v1, v2, rfl, ht, rfl, hv1, hv2⟩
      obtain ⟨l, hl, rfl⟩ := get_map hv2
      obtain rfl := Option.some.inj hv1
      have ilt : i < (lits ns).length := (List.getElem?_eq_some_iff.mp hl).1
      have l120 := lits_len ns
      have fresh : l ∉ (lits ns).take i := fun h => by
        obtain ⟨j, hj, hj2⟩ := List.getElem_of_mem h
        have jlt : j < i := by rw [List.length_take] at hj; omega
        have z : (lits ns)[j]? = some l := by
          rw [List.getElem_take] at hj2
          rw [← hj2]
          exact List.getElem?_eq_getElem _
        exact absurd ((List.getElem?_inj (by omega) (lits_nodup ns nd good)).mp (z.trans hl.symm)) (by omega)
      have hD3 := (upd_ne (o := .tup [.int (i : Nat), .str l]) (ne_of_none hD2 ht)).trans hD2
      refine ⟨t, _, rfl, SqT.of upd_same, rfl, _, _, rfl, _, _, rfl, rfl, rfl, _, rfl, _, rfl, _, DPut.k (k := Sum.inr l) hD3 (by rw [plcF_len, List.length_take, sizeLine_eq]; omega), fun b o h => (upd_ne (ne_of_none h hD)).trans ((same_new ht) _ _ (sm b o h)), ?_⟩
      rw [upd_same, putK_new (plcF_none _ 0 fresh), List.take_succ, hl]
      show _ = some (HO.dK (plcF 0 ((lits ns).take i ++ [l])))
      rw [plcF_snoc, List.length_take, Nat.min_eq_left (Nat.le_of_lt ilt), Nat.zero_add]
    · rintro H2 ⟨sm, hD2⟩
      rw [List.length_map, List.take_length] at hD2
      exact k D H2 (sm1.free hD) hD2 (sm1.trans sm)
end
end K6
namespace K6
open PySem PySem.Spec PyProof.Rows L2 LamX NdefX EV
/-! ### rising lists -/
theorem rise_eq : ∀ (a b : List Int), a.Pairwise (· < ·) → b.Pairwise (· < ·) → (∀ x, x ∈ a ↔ x ∈ b) → a = b
  | [], [], _, _, _ => rfl
  | [], y :: b, _, _, h => absurd ((h y).mpr List.mem_cons_self) (fun z => nomatch z)
  | x :: a, [], _, _, h => absurd ((h x).mp List.mem_cons_self) (fun z => nomatch z)
  | x :: a, y :: b, pa, pb, h => by
    have pa' := List.pairwise_cons.mp pa
    have pb' := List.pairwise_cons.mp pb
    have exy : x = y := by
      rcases List.mem_cons.mp ((h x).mp List.mem_cons_self) with q | q
      · exact q
      · rcases List.mem_cons.mp ((h y).mpr List.mem_cons_self) with q' | q'
        · exact q'.symm
        · have z1 := pb'.1 x q
          have z2 := pa'.1 y q'
          omega
    subst exy
    rw [rise_eq a b pa'.2 pb'.2 fun z => ?_]
    constructor
    · intro hz
      rcases List.mem_cons.mp ((h z).mp (List.mem_cons_of_mem _ hz)) with q | q
      · have := pa'.1 z hz
        omega
      · exact q
    · intro hz
      rcases List.mem_cons.mp ((h z).mpr (List.mem_cons_of_mem _ hz)) with q | q
      · have := pb'.1 z hz
        omega
      · exact q
theorem rise_strict : ∀ {a : List Int}, a.Pairwise (· ≤ ·) → a.Nodup → a.Pairwise (· < ·)
  | [], _, _ => .nil
  | x :: r, h, nd => by
    have h' := List.pairwise_cons.mp h
    have nd' := List.nodup_cons.mp nd
    exact List.pairwise_cons.mpr ⟨fun y hy => by
      have z := h'.1 y hy
      have ne : x ≠ y := fun e => nd'.1 (e ▸ hy)
      omega, rise_strict h'.2 nd'.2⟩
def txt (xs : List Str) (j : Nat) : Str := xs.getD j (Str.ofString "")
theorem txt_at {xs : List Str} {j : Nat} {l : Str} (h : xs[j]? = some l) : txt xs j = l := by
  unfold txt
  rw [List.getD_eq_getElem?_getD, h]
  rfl
theorem map_txt (xs : List Str) : (List.range xs.length).map (txt xs) = xs := by
  refine List.ext_getElem (by rw [List.length_map, List.length_range]) fun i h1 h2 => ?_
  rw [List.getElem_map, List.getElem_range]
  exact txt_at (List.getElem?_eq_getElem h2)
/-- the places of what is wanted, rising: their texts are the wanted ones of all, in order -/
theorem rise_filter {xs ls : List Str} {js : List Int} {is : List Nat} (hp : js.Perm (is.map fun j : Nat => (j : Int))) (hs : js.Pairwise (· ≤ ·)) (nd : is.Nodup) (mem : ∀ j, j ∈ is ↔ j < xs.length ∧ txt xs j ∈ ls) :
    js.map (fun j => txt xs j.toNat) = xs.filter fun l => decide (l ∈ ls) := by
  have inj : ∀ a b : Nat, a ≠ b → (a : Int) ≠ (b : Int) := fun a b h e => h (by omega)
  have ndj : js.Nodup := hp.nodup_iff.mpr (List.Pairwise.map _ (fun a b h => inj a b h) nd)
  have e : js = ((List.range xs.length).filter fun j => decide (txt xs j ∈ ls)).map fun j : Nat => (j : Int) := by
    refine rise_eq _ _ (rise_strict hs ndj) (List.Pairwise.map _ (fun a b h => by omega) (List.Pairwise.filter _ List.pairwise_lt_range)) fun x => ?_
    rw [hp.mem_iff, List.mem_map, List.mem_map]
    constructor
    · rintro ⟨j, hj, rfl⟩
      have z := (mem j).mp hj
      exact ⟨j, List.mem_filter.mpr ⟨List.mem_range.mpr z.1, decide_eq_true z.2⟩, rfl⟩
    · rintro ⟨j, hj, rfl⟩
      have z := List.mem_filter.mp hj
      exact ⟨j, (mem j).mpr ⟨List.mem_range.mp z.1, of_decide_eq_true z.2⟩, rfl⟩
  rw [e, List.map_map]
  have e2 : ((fun j : Int => txt xs j.toNat) ∘ fun j : Nat => (j : Int)) = txt xs := by
    funext j
    show txt xs (j : Int).toNat = _
    rw [Int.toNat_natCast]
  rw [e2]
  have z := List.filter_map (f := txt xs) (p := fun l => decide (l ∈ ls)) (l := List.range xs.length)
  rw [map_txt] at z
  exact z.symm
def entry (xs : List Str) (j : Nat) : Key × V := (Sum.inl (j : Int), .str (txt xs j))
theorem entry_val {xs : List Str} {j : Nat} : ∀ is : List Nat, j ∈ is → valV (is.map (entry xs)) (Sum.inl (j : Int)) = some (.str (txt xs j))
  | [], h => nomatch h
  | i :: r, h => by
    by_cases e : i = j
    · subst e
      exact valV_pos rfl
    · have ne : ¬ (entry xs i).1 = Sum.inl (j : Int) := fun q => by
        have q : (Sum.inl (i : Int) : Key) = Sum.inl (j : Int) := q
        injection q with q
        omega
      rw [List.map_cons, valV_neg ne]
      exact entry_val r ((List.mem_cons.mp h).resolve_left fun q => e q.symm)
theorem entry_none {xs : List Str} {j : Nat} : ∀ is : List Nat, j ∉ is → valV (is.map (entry xs)) (Sum.inl (j : Int)) = none
  | [], _ => rfl
  | i :: r, h => by
    have ne : ¬ (entry xs i).1 = Sum.inl (j : Int) := fun q => by
      have q : (Sum.inl (i : Int) : Key) = Sum.inl (j : Int) := q
      injection q with q
      exact h (by rw [show j = i by omega]; exact List.mem_cons_self)
    rw [List.map_cons, valV_neg ne]
    exact entry_none r fun q => h (List.mem_cons_of_mem _ q)
theorem entry_put {xs : List Str} {is : List Nat} {j : Nat} : putK (is.map (entry xs)) (Sum.inl (j : Int)) (.str (txt xs j)) = (if j ∈ is then is else is ++ [j]).map (entry xs) := by
  by_cases h : j ∈ is
  · rw [if_pos h]
    unfold putK
    rw [valV_any, entry_val is h]
    show List.map (fun kv => if kv.1 = Sum.inl (j : Int) then (kv.1, V.str (txt xs j)) else kv) (List.map (entry xs) is) = _
    rw [List.map_map]
    refine List.map_congr_left fun i _ => ?_
    show (if (entry xs i).1 = _ then _ else _) = _
    by_cases e : i = j
    · subst e
      exact (if_pos rfl).trans rfl
    · refine if_neg fun q => ?_
      have q : (Sum.inl (i : Int) : Key) = Sum.inl (j : Int) := q
      injection q with q
      omega
  · rw [if_neg h, putK_new (entry_none is h), List.map_append]
    rfl
def spInOrder (K : PySem.W.Frag) : Sp := fun vs H Q _ => ∃ (PL A : Addr) (b : Bool) (ns ls : List Str), vs = [.ref PL, .ref A] ∧ H PL = some (.dK (plc ns)) ∧ Sq K b H A (ls.map V.str) ∧ (∀ H', Same H H' → Sq K b H' A (ls.map V.str)) ∧ ns.length ≤ 60 ∧ ns.Nodup ∧ (∀ z ∈ ns, Name1 z) ∧ (∀ l ∈ ls, l ∈ lits ns) ∧
  ∀ (p : Addr) (H' : Hp), H p = none → H' p = some (.tup ((asc ns ls).map V.str)) → Same H H' → Q (.ref p) H'
section
variable {P : Program} {w : World} {K : PySem.W.Frag} {mg : Str → Option Value} {base : Heap} {f : Addr} {fd : FuncData}
abbrev nInOrder : List Str := ["places", "literals", "by_place", "literal", "place"]
theorem scInOrder : FnScope nInOrder ["places", "literals"] (defScope sInOrder) := ⟨rfl, rfl, rfl, by decide +kernel, rfl, by decide +kernel, by decide +kernel⟩
theorem ok_inOrder (F : Fun K "in_order" "in_order" sInOrder f fd) (mt : mg "tuple" = none) (ms : mg "sorted" = none) (mi : mg "int" = none) : FnOk P w K mg base CX0 1 f fd ["places", "literals"] (spInOrder K) := by
  refine F.ok scInOrder (fun vs H Q E h => ?_) (fun cdv A outer s H vs Q E hr h => ?_)
  · obtain ⟨PL, A, b, ns, ls, rfl, _⟩ := h
    rfl
  · obtain ⟨PL, A, b, ns, ls, rfl, hPL, hA, hA', hn, nd, good, sub, k⟩ := h
    have hu := hu_of hr
    refine ⟨_, pss_cons (ps_set (i := 2) scInOrder.nd rfl (.inr rfl) (pe_dcP (own := [("literal", 3)]) .k rfl hu scInOrder.nd (pi_seq (pv 1)) (blkOk_by (N := nInOrder) (sc := defScope sInOrder) (by decide +kernel))
          (fun _ _ _ _ _ => pg_name (i := 3) scInOrder.nd rfl (.inl rfl)) (fun _ _ _ _ _ => pts_nil) (fun _ _ _ _ _ => pe_dget hu (pv 0) (pv 3) (fun _ _ => rfl)) (fun _ _ _ _ _ => pv 3)))
      (pss_one (ps_ret (pe_tupleOf (by rfl) mt (pe_lc (own := [("place", 4)]) (g := gName 4) (tt := tYes) rfl scInOrder.nd
          (pi_list (pe_callB cr_sortedI (by rfl) ms (by decide +kernel) (pa_cons (pe_lock (pe_lc (own := [("place", 4)]) (g := gName 4) (tt := tYes) rfl scInOrder.nd (pi_keys (pv 2)) (blkOk_by (N := nInOrder) (sc := defScope sInOrder) (by decide +kernel))
            (fun _ _ _ _ _ => pg_name (i := 4) scInOrder.nd rfl (.inl rfl)) (fun _ _ _ _ _ => pts_nil) (fun _ _ _ _ _ => pe_callTy call_int1 (by rfl) mi (by decide +kernel) (pa_cons (pv 4) pa_nil)))) pa_nil)))
          (blkOk_by (N := nInOrder) (sc := defScope sInOrder) (by decide +kernel))
          (fun _ _ _ _ _ => pg_name (i := 4) scInOrder.nd rfl (.inl rfl)) (fun _ _ _ _ _ => pts_nil) (fun _ _ _ _ _ => pe_dget hu (pv 2) (pv 4) (fun _ _ => rfl)))))), ?_⟩
    have ndl := lits_nodup ns nd good
    have l120 := lits_len ns
    refine ⟨_, rfl, b, A, _, rfl, hA, fun D hD => dc_it walk_sq (fun i H2 => Same H H2 ∧ ∃ is : List Nat, H2 D = some (.dK (is.map (entry (lits ns)))) ∧ is.Nodup ∧ ∀ j, j ∈ is ↔ j < (lits ns).length ∧ txt (lits ns) j ∈ ls.take i) ⟨same_new hD, [], upd_same, List.nodup_nil, fun j => ⟨fun h => (nomatch h), fun h => by simp at h⟩⟩ (fun i H2 _ hh => hA' _ hh.1) ?_ ?_⟩
    · rintro i x H2 H3 hi ⟨sm, is, hD2, ndi, mem⟩ ⟨rfl, hx⟩
      obtain ⟨l, hl, rfl⟩ := get_map hx
      obtain ⟨j, hj, ej⟩ := List.getElem_of_mem (sub l (List.mem_of_getElem? hl))
      have hj' : (lits ns)[j]? = some l := by rw [← ej]; exact List.getElem?_eq_getElem hj
      have tj := txt_at hj'
      have g : DGet H3 PL (.str l) (some (.int (j : Int))) := by
        have z := DGet.k (k := Sum.inr l) (sm _ _ hPL)
        rw [plcF_at _ 0 j ndl hj', Nat.zero_add] at z
        exact z
      have few : is.length ≤ (lits ns).length := by
        have z := nodup_le is (List.range (lits ns).length) ndi fun a ha => List.mem_range.mpr ((mem a).mp ha).1
        rwa [List.length_range] at z
      refine ⟨rfl, _, rfl, _, rfl, PL, _, rfl, g, _, rfl, _, DPut.k (k := Sum.inl (j : Int)) hD2 (by rw [List.length_map, sizeLine_eq]; omega), fun c o h => (upd_ne (ne_of_none h hD)).trans (sm c o h), if j ∈ is then is else is ++ [j], ?_, ?_, ?_⟩
      · rw [upd_same, ← tj, entry_put]
      · split
        · exact ndi
        · rename_i q
          exact List.nodup_append.mpr ⟨ndi, List.nodup_cons.mpr ⟨fun h => (nomatch h), List.nodup_nil⟩, fun a ha c hc e => q (by rw [← List.mem_singleton.mp hc, ← e]; exact ha)⟩
      · intro m
        rw [List.take_succ, hl]
        have uniq : ∀ m, m < (lits ns).length → (txt (lits ns) m = l ↔ m = j) := fun m hm => by
          constructor
          · intro e
            have z : (lits ns)[m]? = some l := by rw [← e]; exact (List.getElem?_eq_getElem hm).trans (congrArg some (txt_at (List.getElem?_eq_getElem hm)).symm)
            exact (List.getElem?_inj hm ndl).mp (z.trans hj'.symm)
          · rintro rfl
            exact tj
        have old := mem m
        by_cases q : j ∈ is
        · rw [if_pos q, old]
          constructor
          · exact fun h => ⟨h.1, List.mem_append.mpr (.inl h.2)⟩
          · rintro ⟨h1, h2⟩
            rcases List.mem_append.mp h2 with z | z
            · exact ⟨h1, z⟩
            · obtain rfl := (uniq m h1).mp (List.mem_singleton.mp z)
              exact old.mp q
        · rw [if_neg q, List.mem_append, old]
          constructor
          · rintro (h | h)
            · exact ⟨h.1, List.mem_append.mpr (.inl h.2)⟩
            · obtain rfl := List.mem_singleton.mp h
              exact ⟨hj, List.mem_append.mpr (.inr (List.mem_singleton.mpr tj))⟩
          · rintro ⟨h1, h2⟩
            rcases List.mem_append.mp h2 with z | z
            · exact .inl ⟨h1, z⟩
            · exact .inr (List.mem_singleton.mpr ((uniq m h1).mp (List.mem_singleton.mp z)))
    · rintro H2 ⟨sm, is, hD2, ndi, mem⟩
      rw [List.length_map, List.take_length] at mem
      have few : is.length ≤ (lits ns).length := by
        have z := nodup_le is (List.range (lits ns).length) ndi fun a ha => List.mem_range.mpr ((mem a).mp ha).1
        rwa [List.length_range] at z
      refine ⟨D, _, hD2, trivial, fun od => ⟨_, rfl, D, od, rfl, .inl ⟨_, upd_same, fun L hL => lc_it walk_keys (fun i H3 => H3 D = some (.frz od (.dK (is.map (entry (lits ns))))) ∧ H3 L = some (.lst ((is.take i).map fun j : Nat => V.int (j : Int))) ∧ ∀ c o, c ≠ D → H2 c = some o → H3 c = some o) ?_ (fun i H3 _ hh => hh.1) ?_ ?_⟩⟩⟩
      · have nDL : D ≠ L := ne_of_none (show upd H2 D (.frz od _) D = some _ from upd_same) hL
        exact ⟨(upd_ne nDL).trans upd_same, upd_same, fun c o nc h => (upd_ne (ne_of_none ((upd_ne nc).trans h) hL)).trans ((upd_ne nc).trans h)⟩
      · rintro i x H3 H4 hi ⟨hD3, hL3, keep⟩ ⟨rfl, kk, vv, hkv, rfl⟩
        obtain ⟨j, hj, ej⟩ := get_map hkv
        injection ej with e1 e2
        subst e1
        have ilt : i < is.length := (List.getElem?_eq_some_iff.mp hj).1
        have nDL : D ≠ L := ne_of_none (show upd H2 D (.frz od (.dK (is.map (entry (lits ns))))) D = some _ from upd_same) hL
        refine ⟨rfl, _, rfl, .inl ⟨_, rfl, _, hL3, by rw [List.length_map, List.length_take, sizeLine_eq]; omega, (upd_ne nDL).trans hD3, ?_, fun c o nc h => (upd_ne (ne_of_none ((upd_ne nc).trans h) hL)).trans (keep c o nc h)⟩⟩
        rw [upd_same, List.take_succ, hj, List.map_append]
        rfl
      · rintro H3 ⟨hD3, hL3, keep⟩
        rw [List.length_map, List.take_length] at hL3
        refine ⟨hD3, ?_⟩
        have nDL : L ≠ D := (ne_of_none (show upd H2 D (.frz od (.dK (is.map (entry (lits ns))))) D = some _ from upd_same) hL).symm
        have hL2 : H2 L = none := by
          have z := hL
          rwa [upd_ne nDL] at z
        generalize eH : upd H3 D (.dK (is.map (entry (lits ns)))) = H4
        have hD4 : H4 D = some (.dK (is.map (entry (lits ns)))) := eH ▸ upd_same
        have hL4 : H4 L = some (.lst (is.map fun j : Nat => V.int (j : Int))) := eH ▸ (upd_ne nDL).trans hL3
        have sm4 : Same H2 H4 := fun c o h => by
          by_cases e : c = D
          · subst e
            rw [hD2] at h
            rw [hD4, ← h]
          · rw [← eH]
            exact (upd_ne e).trans (keep c o e h)
        have eL : (is.map fun j : Nat => V.int (j : Int)) = (is.map fun j : Nat => (j : Int)).map V.int := by rw [List.map_map]; rfl
        refine ⟨L, is.map fun j : Nat => (j : Int), rfl, SqL.of (eL ▸ hL4), fun js p perm rise hp => ⟨p, rfl, ⟨_, SqL.of upd_same⟩, fun D2 hD2' => lc_list (K := K) (a := p) (xs := js.map V.int) (fun i H5 => Same (upd H4 p (.lst (js.map V.int))) H5 ∧ H5 D2 = some (.lst ((js.take i).map fun j => V.str (txt (lits ns) j.toNat)))) ⟨same_new hD2', upd_same⟩ (fun i H5 _ hh => SqL.of (hh.1 _ _ upd_same)) ?_ ?_⟩⟩
        · rintro i x H5 hx ⟨sm5, hD5⟩
          obtain ⟨jz, hjz, rfl⟩ := get_map hx
          obtain ⟨j, hj, rfl⟩ := List.mem_map.mp (perm.mem_iff.mp (List.mem_of_getElem? hjz))
          have lj : js.length = is.length := by
            have z := perm.length_eq
            rwa [List.length_map] at z
          have hDD : H5 D = some (.dK (is.map (entry (lits ns)))) := sm5 _ _ ((same_new hp) _ _ hD4)
          have g : DGet H5 D (.int (j : Int)) (some (.str (txt (lits ns) j))) := by
            have z := DGet.k (k := Sum.inl (j : Int)) hDD
            rw [entry_val is hj] at z
            exact z
          refine ⟨rfl, _, rfl, _, rfl, D, _, rfl, g, _, hD5, by rw [List.length_map, List.length_take, sizeLine_eq]; omega, fun c o h => (upd_ne (ne_of_none h hD2')).trans (sm5 c o h), ?_⟩
          rw [upd_same, List.take_succ, hjz, List.map_append]
          show _ = some (HO.lst (_ ++ [V.str (txt (lits ns) ((j : Int)).toNat)]))
          rw [Int.toNat_natCast]
        · rintro H5 ⟨sm5, hD5⟩
          rw [List.length_map, List.take_length] at hD5
          have e6 := rise_filter (xs := lits ns) (ls := ls) perm rise ndi mem
          have smF : Same H H5 := (sm.trans sm4).trans ((same_new hp).trans sm5)
          refine .inl ⟨D2, _, rfl, SqL.of hD5, fun q hq => k q _ (smF.free hq) ?_ (smF.trans (same_new hq))⟩
          rw [upd_same]
          have e7 : (js.map fun j => V.str (txt (lits ns) j.toNat)) = (js.map fun j => txt (lits ns) j.toNat).map V.str := by rw [List.map_map]; rfl
          rw [e7, e6]
          rfl
end
end K6
/-! A def whose one default is an empty tuple. -/
namespace EV
open PySem PySem.Spec PyProof.Rows L2
/-- the empty tuple at A0, in the part that stays -/
def NilT (K : PySem.W.Frag) (A0 : Addr) : Prop := ∃ (o : Obj) (n : Nat), K.lookup A0 = some o ∧ o.cls = .type "tuple" ∧ o.data = .seq #[] n
theorem NilT.sq {K : PySem.W.Frag} {A0 : Addr} (h : NilT K A0) (H : Hp) : SqT K H A0 [] := by
  obtain ⟨o, n, h1, h2, h3⟩ := h
  exact .inr ⟨o, #[], n, h1, h2, h3, Nat.zero_le _, .nil⟩
structure FunE (K : PySem.W.Frag) (x qual : Str) (st : Stmt) (f : Addr) (fd : FuncData) (A0 : Addr) : Prop where
  fn : FunD K x qual (defArgs st) (defBody st) (defScope st) [.ref A0] [] f fd
  e0 : NilT K A0
section
variable {P : Program} {w : World} {K : PySem.W.Frag} {mg : Str → Option Value} {base : Heap} {x qual : Str} {st : Stmt} {f A0 : Addr} {fd : FuncData}
theorem FunE.ok {N ps : List Str} {k : Nat} {sp : Sp} (F : FunE K x qual st f fd A0) (S : FnScope N ps (defScope st)) (len : ∀ vs H Q E, sp vs H Q E → vs.length = ps.length)
    (body : ∀ (cdv : Value) (A : Around) (outer : List Env) (s : Shared) (H : Hp) (vs : List V) (Q : VK) (E : XK), Room k (A.deeper (envOfC qual (defScope st) s.heap.objs.size f cdv)) → sp vs H Q E →
      ∃ t, PSs (cxOf CX0 P w K mg base N qual (defScope st) f cdv A outer s H E).nox (defBody st) t ∧ t { nx := fun _ H' => Q .non H', rt := Q } (start N vs) H) : FnOk P w K mg base CX0 (k + 1) f fd ps sp :=
  F.fn.ok S len fun cdv A outer s H vs Q E hr h => by
    obtain ⟨t, p, q⟩ := body cdv A outer s H vs Q E hr h
    exact ⟨t, p.nox, q⟩
theorem funE_mk {oc : Value} {od an : Option Addr} {osl : Array (Option Value)} {kV doc pm cdv ct : Value} {T : Addr} {o o2 : Obj} {n n2 : Nat}
    (l : K.lookup f = some ⟨oc, od, .func (PySem.W.fnOf x qual (defArgs st) (defBody st) (defScope st) (.ref T) kV doc pm an cdv ct), osl⟩) (c : PySem.W.codeIn K cdv qual = true) (k : PySem.W.keepIn K (.ref f) = true)
    (lT : K.lookup T = some o) (dT : o.data = .seq #[.ref A0] n) (lA : K.lookup A0 = some o2) (cA : o2.cls = .type "tuple") (dA : o2.data = .seq #[] n2) :
    FunE K x qual st f (PySem.W.fnOf x qual (defArgs st) (defBody st) (defScope st) (.ref T) kV doc pm an cdv ct) A0 :=
  ⟨⟨⟨oc, od, .ref T, kV, doc, pm, an, cdv, ct, osl, rfl, l, c, .inr ⟨by simp, T, o, [.ref A0], n, rfl, lT, dT, .cons rfl .nil⟩, .inl rfl⟩, k⟩, ⟨o2, n2, lA, cA, dA⟩⟩
/-- the default fills up -/
theorem FunE.short {ps : List Str} (F : FunE K x qual st f fd A0) (n : Nat) (hn : n + 1 = ps.length)
    (h : ∀ (T : Addr) (kV doc pm : Value) (an : Option Addr) (cdv ct : Value) (us its : List Value), us.length = n → its.length = 1 →
      ∃ k, bindArgs (PySem.W.fnOf x qual (defArgs st) (defBody st) (defScope st) (.ref T) kV doc pm an cdv ct) ⟨us, []⟩ = seqItems? (.ref T) >>= k ∧ k (some its.toArray) = pure (ps.zip (us ++ its))) : ∃ ds, Vals [.ref A0] ds ∧ Binds K fd ps ds :=
  F.fn.binds1 n 0 (by simp) hn fun T kV doc pm an cdv ct us its h1 h2 => h T kV doc pm an cdv ct us its h1 h2
/-- all is given -/
theorem FunE.full {ps : List Str} (F : FunE K x qual st f fd A0)
    (h : ∀ (T : Addr) (kV doc pm : Value) (an : Option Addr) (cdv ct : Value) (us its : List Value), us.length = ps.length → its.length = 1 →
      ∃ k, bindArgs (PySem.W.fnOf x qual (defArgs st) (defBody st) (defScope st) (.ref T) kV doc pm an cdv ct) ⟨us, []⟩ = seqItems? (.ref T) >>= k ∧ k (some its.toArray) = pure (ps.zip us)) : Binds K fd ps [] := by
  obtain ⟨ds, r, b⟩ := F.fn.binds1 (ps := ps) ps.length 1 (by simp) (by simp) fun T kV doc pm an cdv ct us its h1 h2 => by
    obtain ⟨k, e1, e2⟩ := h T kV doc pm an cdv ct us its h1 h2
    refine ⟨k, e1, ?_⟩
    have z : its.drop 1 = [] := List.drop_eq_nil_of_le (by rw [h2]; exact Nat.le_refl 1)
    rw [z, List.append_nil]
    exact e2
  cases r
  exact b
end
end EV
namespace K6
open PySem PySem.Spec PyProof.Rows L2 LamX NdefX EV
/-- a row that is never reached -/
theorem ps_none {X : Cx} {st : Stmt} : PS X st (fun _ _ _ => False) := ⟨fun pins s σ H D I h => h.elim⟩
def spIsList (K : PySem.W.Frag) : Sp := fun vs H Q _ => ∃ (x : V) (t : Value) (b : Bool), vs = [x] ∧ (∀ H', Same H H' → TyX K H' x t) ∧ PySem.W.kitAny K t [.type "list", .type "tuple"] = some b ∧ ∀ H', Same H H' → Q (.bl b) H'
/-- names that are checked; others that are taken -/
def spChkNames (K : PySem.W.Frag) : Sp := fun vs H Q _ => ∃ (T U : Addr) (b c : Bool) (ns tk : List Str), vs = [.ref T, .ref U] ∧ (∀ H', Same H H' → Sq K b H' T (ns.map V.str)) ∧ (∀ H', Same H H' → Sq K c H' U (tk.map V.str)) ∧ ns.length ≤ 60 ∧ tk.length ≤ 60 ∧ (tk ++ ns).Nodup ∧ (∀ z ∈ ns, Name1 z) ∧ ∀ H', Same H H' → Q .non H'
section
variable {P : Program} {w : World} {K : PySem.W.Frag} {mg : Str → Option Value} {base : Heap} {f fI fL fW : Addr} {fd fdI fdL fdW : FuncData}
theorem scIsList : FnScope ["thing"] ["thing"] (defScope sIsList) := ⟨rfl, rfl, rfl, by decide +kernel, rfl, by decide +kernel, by decide +kernel⟩
theorem ok_isList (F : Fun K "is_list" "is_list" sIsList f fd) (mi : mg "isinstance" = none) (ml : mg "list" = none) (mt : mg "tuple" = none) : FnOk P w K mg base CX0 1 f fd ["thing"] (spIsList K) := by
  refine F.ok scIsList (fun vs H Q E h => ?_) (fun cdv A outer s H vs Q E hr h => ?_)
  · obtain ⟨x, t, b, rfl, _⟩ := h
    rfl
  · obtain ⟨x, t, b, rfl, ty, kit, k⟩ := h
    refine ⟨_, pss_one (ps_ret (pe_callB call_isiT (by rfl) mi (by decide +kernel) (pa_cons (pv 0) (pa_cons (pe_tup (pa_cons (pe_bltn (v := .ty "list") (by rfl) ml (by decide +kernel) rfl) (pa_cons (pe_bltn (v := .ty "tuple") (by rfl) mt (by decide +kernel) rfl) pa_nil))) pa_nil)))), ?_⟩
    refine ⟨_, rfl, by show 2 ≤ sizeLine; decide, fun tp htp => ⟨x, tp, _, t, _, b, rfl, upd_same, .cons (.ty "list") (.cons (.ty "tuple") .nil), ty _ (same_new htp), kit, k _ (same_new htp)⟩⟩
abbrev nChk : List Str := ["things", "taken", "seen", "name", "index", "thing"]
theorem scChk : FnScope nChk ["things", "taken"] (defScope sChkNames) := ⟨rfl, rfl, rfl, by decide +kernel, rfl, by decide +kernel, by decide +kernel⟩
def seenKv (n : Str) : Key × V := (Sum.inr n, .bl true)
theorem seen_none {n : Str} : ∀ ns : List Str, n ∉ ns → valV (ns.map seenKv) (Sum.inr n) = none
  | [], _ => rfl
  | m :: r, h => by
    have ne : ¬ (seenKv m).1 = Sum.inr n := fun q => by
      have q : (Sum.inr m : Key) = Sum.inr n := q
      injection q with q
      exact h (q ▸ List.mem_cons_self)
    rw [List.map_cons, valV_neg ne]
    exact seen_none r fun q => h (List.mem_cons_of_mem _ q)
theorem seen_some {n : Str} : ∀ ns : List Str, n ∈ ns → valV (ns.map seenKv) (Sum.inr n) = some (.bl true)
  | [], h => nomatch h
  | m :: r, h => by
    by_cases e : m = n
    · subst e
      exact valV_pos rfl
    · have ne : ¬ (seenKv m).1 = Sum.inr n := fun q => by
        have q : (Sum.inr m : Key) = Sum.inr n := q
        injection q with q
        exact e q
      rw [List.map_cons, valV_neg ne]
      exact seen_some r ((List.mem_cons.mp h).resolve_left fun q => e q.symm)
theorem not_before {α : Type} {xs : List α} {i : Nat} {x : α} (nd : xs.Nodup) (h : xs[i]? = some x) : x ∉ xs.take i := fun m => by
  obtain ⟨j, hj, hj2⟩ := List.getElem_of_mem m
  have ilt := (List.getElem?_eq_some_iff.mp h).1
  have jlt : j < i := by rw [List.length_take] at hj; omega
  have z : xs[j]? = some x := by
    rw [List.getElem_take] at hj2
    rw [← hj2]
    exact List.getElem?_eq_getElem _
  exact absurd ((List.getElem?_inj (by omega) nd).mp (z.trans h.symm)) (by omega)
theorem nodup_right {α : Type} {xs ys : List α} (h : (xs ++ ys).Nodup) : ys.Nodup := (List.nodup_append.mp h).2.1
theorem ok_chkNames {A0 : Addr} (F : FunE K "check_names" "check_names" sChkNames f fd A0) (GI : FnOk P w K mg base CX0 1 fI fdI ["thing"] spIsName) (mI : mg "is_name" = some (.ref fI)) (kI : PySem.W.keepIn K (.ref fI) = true) (bI : L2.Binds K fdI ["thing"] []) (me : mg "enumerate" = none) :
    FnOk P w K mg base CX0 2 f fd ["things", "taken"] (spChkNames K) := by
  refine F.ok scChk (fun vs H Q E h => ?_) (fun cdv A outer s H vs Q E hr h => ?_)
  · obtain ⟨T, U, b, c, ns, tk, rfl, _⟩ := h
    rfl
  · obtain ⟨T, U, b, c, ns, tk, rfl, hT', hU', hn, hm, nd, good, k⟩ := h
    have hu := hu_of hr
    refine ⟨_, pss_cons (ps_set (i := 2) scChk.nd rfl (.inl rfl) pe_dnewK)
      (pss_cons (ps_for PassesOwn.never rfl (pi_seq (pv 1)) (pg_name (i := 3) scChk.nd rfl (.inl rfl)) (pss_one (ps_dput hu (pv 2) (pv 3) pe_bl rfl)))
      (pss_one (ps_for PassesOwn.never rfl (pi_enumB (by rfl) me (pa_cons (pv 0) pa_nil)) (pg_tup rfl (pgs_cons (pg_name (i := 4) scChk.nd rfl (.inl rfl)) (pgs_cons (pg_name (i := 5) scChk.nd rfl (.inl rfl)) pgs_nil)))
        (pss_cons (ps_if (PW.pt (pw_or (pt_not (pt_val (pe_call GI hr (by rfl) mI kI bI .nil pass0 (pa_cons (pv 5) pa_nil)))) (pw_or1 (pt_cmp (pc_din hu (pv 5) (pv 2)))))) (pss_one ps_none) pss_nil)
        (pss_one (ps_dput hu (pv 2) (pv 5) pe_bl rfl)))))), ?_⟩
    refine fun d hd => ⟨_, rfl, c, U, _, rfl, hU' _ (same_new hd), for_it walk_sq (fun i σ H2 => ∃ o3 o4 o5, σ = [some (.ref T), some (.ref U), some (.ref d), o3, o4, o5] ∧ Same H H2 ∧ H2 d = some (.dK ((tk.take i).map seenKv))) ⟨_, _, _, rfl, same_new hd, upd_same⟩ (fun i σ H2 _ ⟨_, _, _, _, sm, _⟩ => hU' _ sm) ?_ ?_⟩
    · rintro i x σ H2 H3 hi ⟨o3, o4, o5, rfl, sm, hd2⟩ ⟨rfl, hv⟩
      obtain ⟨n, hn', rfl⟩ := get_map hv
      have fresh := not_before (List.nodup_append.mp nd).1 hn'
      refine ⟨_, rfl, _, rfl, d, _, rfl, DPut.k (k := Sum.inr n) hd2 (by rw [List.length_map, List.length_take, sizeLine_eq]; omega), _, _, _, rfl, fun c o h => (upd_ne (ne_of_none h hd)).trans (sm c o h), ?_⟩
      rw [upd_same, putK_new (seen_none _ fresh), List.take_succ, hn', List.map_append]
      rfl
    rintro σ H2 ⟨o3, o4, o5, rfl, sm, hd2⟩
    rw [List.length_map, List.take_length] at hd2
    refine ⟨_, rfl, b, T, _, rfl, hT' _ sm, for_it walk_enumB (fun i σ H3 => ∃ o3 o4 o5, σ = [some (.ref T), some (.ref U), some (.ref d), o3, o4, o5] ∧ Same H H3 ∧ H3 d = some (.dK ((tk ++ ns.take i).map seenKv))) ⟨_, _, _, rfl, sm, by rw [List.take_zero, List.append_nil]; exact hd2⟩ (fun i σ H2 _ ⟨_, _, _, _, sm, _⟩ => hT' _ sm) ?_ ?_⟩
    · rintro i x σ H2 H3 hi ⟨o3, o4, o5, rfl, sm, hd2⟩ ⟨t, v1, v2, rfl, ht, rfl, hv1, hv2⟩
      obtain ⟨n, hn', rfl⟩ := get_map hv2
      obtain rfl := Option.some.inj hv1
      have fresh : n ∉ tk ++ ns.take i := fun q => by
        rcases List.mem_append.mp q with q | q
        · exact (List.nodup_append.mp nd).2.2 n q n (List.mem_of_getElem? hn') rfl
        · exact not_before (nodup_right nd) hn' q
      have hd3 := (upd_ne (o := .tup [.int (i : Nat), .str n]) (ne_of_none hd2 ht)).trans hd2
      refine ⟨t, _, rfl, SqT.of upd_same, rfl, _, _, rfl, _, _, rfl, rfl, _, rfl, n, rfl, good n (List.mem_of_getElem? hn'), fun H4 sm4 => ?_⟩
      have hd4 := sm4 _ _ hd3
      have g : DGet H4 d (.str n) none := by
        have z := DGet.k (k := Sum.inr n) hd4
        rwa [seen_none _ fresh] at z
      refine ⟨_, rfl, iteF ⟨_, rfl, _, rfl, d, _, rfl, g, _, rfl, iteF ?_⟩⟩
      refine ⟨_, rfl, _, rfl, d, _, rfl, DPut.k (k := Sum.inr n) hd4 (by rw [List.length_map, List.length_append, List.length_take, sizeLine_eq]; omega), _, _, _, rfl, fun c o h => (upd_ne (ne_of_none h hd)).trans (sm4 _ _ ((same_new ht) _ _ (sm c o h))), ?_⟩
      rw [upd_same, putK_new (seen_none _ fresh), List.take_succ, hn', ← List.append_assoc, List.map_append (l₁ := tk ++ ns.take i)]
      rfl
    · rintro σ H2 ⟨o3, o4, o5, rfl, sm, hd2⟩
      exact k H2 sm
end
end K6
namespace K6
open PySem PySem.Spec PyProof.Rows L2 LamX NdefX EV
theorem lit_mem {ns : List Str} {q : Bool × Str} (h : q.2 ∈ ns) : lit q ∈ lits ns := by
  refine List.mem_flatMap.mpr ⟨q.2, h, ?_⟩
  unfold lit
  split
  · exact List.mem_cons_of_mem _ List.mem_cons_self
  · exact List.mem_cons_self
theorem plc_some {ns : List Str} {l : Str} (nd : ns.Nodup) (good : ∀ z ∈ ns, Name1 z) (h : l ∈ lits ns) : ∃ v, valV (plc ns) (Sum.inr l) = some v := by
  obtain ⟨j, hj, ej⟩ := List.getElem_of_mem h
  exact ⟨_, plcF_at _ 0 j (lits_nodup ns nd good) (by rw [← ej]; exact List.getElem?_eq_getElem hj)⟩
/-- a thing that may not stand behind these literals in a clause -/
inductive BadV (K : PySem.W.Frag) (H : Hp) (ns : List Str) (qs : List (Bool × Str)) : V → Prop
  | odd {x : V} (t : Value) (ty : ∀ H', Same H H' → TyX K H' x t) (kit : PySem.W.kitOne K t (.type "str") = some false) : BadV K H ns qs x
  | far {z : Str} (h : z ∉ lits ns) : BadV K H ns qs (.str z)
  | twice {q : Bool × Str} (h : q.2 ∈ ns) (h2 : q.2 ∈ qs.map Prod.snd) : BadV K H ns qs (.str (lit q))
/-- things as a clause of the names ns: all right, or wrong behind some literals -/
inductive Seen (K : PySem.W.Frag) (H : Hp) (ns : List Str) : Bool → List V → Prop
  | ok {qs : List (Bool × Str)} (h : Lits ns qs) : Seen K H ns true ((qs.map lit).map V.str)
  | bad {qs : List (Bool × Str)} {x : V} {rest : List V} (h : Lits ns qs) (b : BadV K H ns qs x) : Seen K H ns false ((qs.map lit).map V.str ++ x :: rest)
def spWrong (K : PySem.W.Frag) : Sp := fun vs H Q _ => ∃ (PL A : Addr) (b : Bool) (ns : List Str) (xs : List V) (r : Bool), vs = [.ref PL, .ref A] ∧ H PL = some (.dK (plc ns)) ∧ Sq K b H A xs ∧ (∀ H', Same H H' → Sq K b H' A xs) ∧ ns.length ≤ 60 ∧ ns.Nodup ∧ (∀ z ∈ ns, Name1 z) ∧ Seen K H ns r xs ∧
  ∀ H', Same H H' → if r = true then Q .non H' else ∀ i : Int, Q (.int i) H'
section
variable {P : Program} {w : World} {K : PySem.W.Frag} {mg : Str → Option Value} {base : Heap} {f fN : Addr} {fd fdN : FuncData}
abbrev nWrong : List Str := ["places", "things", "seen", "index", "thing"]
theorem scWrong : FnScope nWrong ["places", "things"] (defScope sWrong) := ⟨rfl, rfl, rfl, by decide +kernel, rfl, by decide +kernel, by decide +kernel⟩
theorem ok_wrong (F : Fun K "first_wrong" "first_wrong" sWrong f fd) (GN : FnOk P w K mg base CX0 1 fN fdN ["literal"] spNameOf) (mN : mg "name_of" = some (.ref fN)) (kN : PySem.W.keepIn K (.ref fN) = true) (bN : L2.Binds K fdN ["literal"] []) (me : mg "enumerate" = none) (mi : mg "isinstance" = none) (ms : mg "str" = none) :
    FnOk P w K mg base CX0 2 f fd ["places", "things"] (spWrong K) := by
  refine F.ok scWrong (fun vs H Q E h => ?_) (fun cdv A' outer s H vs Q E hr h => ?_)
  · obtain ⟨PL, A, b, ns, xs, r, rfl, _⟩ := h
    rfl
  · obtain ⟨PL, A, b, ns, xs, r, rfl, hPL, hA, hA', hn, nd, good, see, k⟩ := h
    have hu := hu_of hr
    refine ⟨_, pss_cons (ps_set (i := 2) scWrong.nd rfl (.inl rfl) pe_dnewK)
      (pss_cons (ps_for PassesOwn.never rfl (pi_enumB (by rfl) me (pa_cons (pv 1) pa_nil)) (pg_tup rfl (pgs_cons (pg_name (i := 3) scWrong.nd rfl (.inl rfl)) (pgs_cons (pg_name (i := 4) scWrong.nd rfl (.inl rfl)) pgs_nil)))
        (pss_cons (ps_if (PW.pt (pw_or (pt_not (pt_val (pe_callB call_isi (by rfl) mi (by decide +kernel) (pa_cons (pv 4) (pa_cons (pe_bltn (v := .ty "str") (by rfl) ms (by decide +kernel) rfl) pa_nil))))) (pw_or (pt_cmp (pc_dnotin hu (pv 4) (pv 0))) (pw_or1 (pt_cmp (pc_din hu (pe_call GN hr (by rfl) mN kN bN .nil pass0 (pa_cons (pv 4) pa_nil)) (pv 2))))))) (pss_one (ps_ret (pv 3))) pss_nil)
        (pss_one (ps_dput hu (pv 2) (pe_call GN hr (by rfl) mN kN bN .nil pass0 (pa_cons (pv 4) pa_nil)) pe_bl rfl))))
      (pss_one (ps_ret pe_non))), ?_⟩
    obtain ⟨qs, tail, hq, rfl, h1, h2⟩ : ∃ qs tail, Lits ns qs ∧ xs = (qs.map lit).map V.str ++ tail ∧ (tail = [] → r = true) ∧ (∀ x rest, tail = x :: rest → r = false ∧ BadV K H ns qs x) := by
      cases see with
      | @ok qs h => exact ⟨qs, [], h, (List.append_nil _).symm, fun _ => rfl, fun x rest e => (nomatch e)⟩
      | @bad qs x rest h b =>
        refine ⟨qs, x :: rest, h, rfl, (fun e => (nomatch e)), fun y s e => ⟨rfl, ?_⟩⟩
        injection e with e1 _
        exact e1 ▸ b
    have few : qs.length ≤ ns.length := by
      have z := nodup_le (qs.map Prod.snd) ns hq.nd fun n hn => by
        obtain ⟨q, hq', rfl⟩ := List.mem_map.mp hn
        exact hq.sub q hq'
      rwa [List.length_map] at z
    have ll : ((qs.map lit).map V.str).length = qs.length := by rw [List.length_map, List.length_map]
    refine fun d hd => ⟨_, rfl, b, A, _, rfl, hA' _ (same_new hd), for_it walk_enumB (fun i σ H2 => ∃ o3 o4, σ = [some (.ref PL), some (.ref A), some (.ref d), o3, o4] ∧ i ≤ qs.length ∧ Same H H2 ∧ H2 d = some (.dK (((qs.map Prod.snd).take i).map seenKv))) ⟨_, _, rfl, Nat.zero_le _, same_new hd, upd_same⟩ (fun i σ H2 _ ⟨_, _, _, _, sm, _⟩ => hA' _ sm) ?_ ?_⟩
    · rintro i x σ H2 H3 hi ⟨o3, o4, rfl, ile, sm, hd2⟩ ⟨t, v1, v2, rfl, ht, rfl, hv1, hv2⟩
      obtain rfl := Option.some.inj hv1
      replace hv2 : ((qs.map lit).map V.str ++ tail)[i]? = some v2 := hv2
      have hd3 := (upd_ne (o := .tup [.int (i : Nat), v2]) (ne_of_none hd2 ht)).trans hd2
      have sm3 : Same H (upd H2 t (.tup [.int (i : Nat), v2])) := sm.trans (same_new ht)
      have hPL3 := sm3 _ _ hPL
      refine ⟨t, _, rfl, SqT.of upd_same, rfl, _, _, rfl, _, _, rfl, rfl, _, rfl, ?_⟩
      by_cases ilt : i < qs.length
      · -- a literal that may stand here
        obtain ⟨q, hqi⟩ : ∃ q, qs[i]? = some q := ⟨_, List.getElem?_eq_getElem ilt⟩
        have ev : v2 = .str (lit q) := by
          rw [List.getElem?_append_left (by rw [ll]; exact ilt), List.getElem?_map, List.getElem?_map, hqi] at hv2
          exact (Option.some.inj hv2).symm
        subst ev
        have mem := List.mem_of_getElem? hqi
        have qn : (qs.map Prod.snd)[i]? = some q.2 := by rw [List.getElem?_map, hqi]; rfl
        have fresh := not_before hq.nd qn
        obtain ⟨v, hv⟩ := plc_some nd good (lit_mem (hq.sub q mem))
        have g1 : DGet (upd H2 t (.tup [.int (i : Nat), .str (lit q)])) PL (.str (lit q)) (some v) := by
          have z := DGet.k (k := Sum.inr (lit q)) hPL3
          rwa [hv] at z
        have g2 : DGet (upd H2 t (.tup [.int (i : Nat), .str (lit q)])) d (.str q.2) none := by
          have z := DGet.k (k := Sum.inr q.2) hd3
          rwa [seen_none _ fresh] at z
        refine ⟨_, _, _, _, true, rfl, .ty "str", .base (.str _), kit_ty (by decide +kernel), _, rfl, iteF ⟨_, rfl, _, rfl, PL, _, rfl, g1, _, rfl, iteF ⟨_, rfl, q, rfl, good _ (hq.sub q mem), _, rfl, d, _, rfl, g2, _, rfl, iteF ?_⟩⟩⟩
        refine ⟨_, rfl, _, rfl, q, rfl, good _ (hq.sub q mem), d, _, rfl, DPut.k (k := Sum.inr q.2) hd3 (by rw [List.length_map, List.length_take, sizeLine_eq]; omega), _, _, rfl, ilt, fun c o h => (upd_ne (ne_of_none h hd)).trans (sm3 c o h), ?_⟩
        rw [upd_same, putK_new (seen_none _ fresh), List.take_succ, qn, List.map_append]
        rfl
      · -- the thing that may not
        have ie : i = qs.length := by omega
        obtain ⟨rest, et⟩ : ∃ rest, tail = v2 :: rest := by
          rw [List.getElem?_append_right (by rw [ll]; omega), ll, ie, Nat.sub_self] at hv2
          cases tail with
          | nil => cases hv2
          | cons y s => exact ⟨s, by rw [← Option.some.inj hv2]⟩
        obtain ⟨er, bad⟩ := h2 v2 rest et
        have fin : ∀ H', Same H H' → Q (.int (i : Int)) H' := fun H' s' => by
          have z := k H' s'
          rw [er] at z
          exact z i
        have hd3' := hd3
        rw [ie, List.take_of_length_le (by rw [List.length_map]; exact Nat.le_refl _)] at hd3'
        cases bad with
        | odd ty0 ty kit => exact ⟨_, _, _, _, false, rfl, .ty "str", ty _ sm3, kit, _, rfl, iteT ⟨_, rfl, fin _ sm3⟩⟩
        | @far z h =>
          have g1 : DGet (upd H2 t (.tup [.int (i : Nat), .str z])) PL (.str z) none := by
            have y := DGet.k (k := Sum.inr z) hPL3
            rwa [plcF_none _ 0 h] at y
          exact ⟨_, _, _, _, true, rfl, .ty "str", .base (.str _), kit_ty (by decide +kernel), _, rfl, iteF ⟨_, rfl, _, rfl, PL, _, rfl, g1, _, rfl, iteT ⟨_, rfl, fin _ sm3⟩⟩⟩
        | @twice q hq1 hq2 =>
          obtain ⟨v, hv⟩ := plc_some nd good (lit_mem hq1)
          have g1 : DGet (upd H2 t (.tup [.int (i : Nat), .str (lit q)])) PL (.str (lit q)) (some v) := by
            have z := DGet.k (k := Sum.inr (lit q)) hPL3
            rwa [hv] at z
          have g2 : DGet (upd H2 t (.tup [.int (i : Nat), .str (lit q)])) d (.str q.2) (some (.bl true)) := by
            have z := DGet.k (k := Sum.inr q.2) hd3'
            rw [seen_some _ hq2] at z
            rw [ie] at *
            exact z
          exact ⟨_, _, _, _, true, rfl, .ty "str", .base (.str _), kit_ty (by decide +kernel), _, rfl, iteF ⟨_, rfl, _, rfl, PL, _, rfl, g1, _, rfl, iteF ⟨_, rfl, q, rfl, good _ hq1, _, rfl, d, _, rfl, g2, _, rfl, iteT ⟨_, rfl, fin _ sm3⟩⟩⟩⟩
    · rintro σ H2 ⟨o3, o4, rfl, ile, sm, hd2⟩
      rw [List.length_append, ll] at ile
      have et : tail = [] := List.eq_nil_of_length_eq_zero (by omega)
      have z := k H2 sm
      rw [h1 et] at z
      exact z
end
end K6
namespace K6
open PySem PySem.Spec PyProof.Rows L2 LamX NdefX EV
/-- what the program asks of a thing: is it a clause of these names -/
inductive Ask (K : PySem.W.Frag) (H : Hp) (ns : List Str) : Bool → V → Prop
  | seq {b : Bool} {A : Addr} {xs : List V} {r : Bool} (t : Value) (ty : ∀ H', Same H H' → TyX K H' (.ref A) t) (kit : PySem.W.kitAny K t [.type "list", .type "tuple"] = some true) (sq : ∀ H', Same H H' → Sq K b H' A xs) (see : ∀ H', Same H H' → Seen K H' ns r xs) : Ask K H ns r (.ref A)
  | odd {x : V} (t : Value) (ty : ∀ H', Same H H' → TyX K H' x t) (kit : PySem.W.kitAny K t [.type "list", .type "tuple"] = some false) : Ask K H ns false x
theorem Ask.same {K : PySem.W.Frag} {H H' : Hp} {ns : List Str} {r : Bool} {x : V} (sm : Same H H') (a : Ask K H ns r x) : Ask K H' ns r x := by
  cases a with
  | seq t ty kit sq see => exact .seq t (fun H2 s2 => ty H2 (sm.trans s2)) kit (fun H2 s2 => sq H2 (sm.trans s2)) fun H2 s2 => see H2 (sm.trans s2)
  | odd t ty kit => exact .odd t (fun H2 s2 => ty H2 (sm.trans s2)) kit
def spIsClause (K : PySem.W.Frag) : Sp := fun vs H Q _ => ∃ (PL : Addr) (x : V) (ns : List Str) (r : Bool), vs = [.ref PL, x] ∧ H PL = some (.dK (plc ns)) ∧ ns.length ≤ 60 ∧ ns.Nodup ∧ (∀ z ∈ ns, Name1 z) ∧ Ask K H ns r x ∧ ∀ H', Same H H' → Q (.bl r) H'
def spChkCl (K : PySem.W.Frag) : Sp := fun vs H Q _ => ∃ (PL T : Addr) (b : Bool) (xs : List V) (ns : List Str), vs = [.ref PL, .ref T] ∧ H PL = some (.dK (plc ns)) ∧ (∀ H', Same H H' → Sq K b H' T xs) ∧ ns.length ≤ 60 ∧ ns.Nodup ∧ (∀ z ∈ ns, Name1 z) ∧ (∀ x ∈ xs, Ask K H ns true x) ∧ ∀ H', Same H H' → Q .non H'
section
variable {P : Program} {w : World} {K : PySem.W.Frag} {mg : Str → Option Value} {base : Heap} {f fL fW fC : Addr} {fd fdL fdW fdC : FuncData}
theorem scIsClause : FnScope ["places", "thing"] ["places", "thing"] (defScope sIsClause) := ⟨rfl, rfl, rfl, by decide +kernel, rfl, by decide +kernel, by decide +kernel⟩
theorem ok_isClause (F : Fun K "is_clause" "is_clause" sIsClause f fd) (GL : FnOk P w K mg base CX0 1 fL fdL ["thing"] (spIsList K)) (mL : mg "is_list" = some (.ref fL)) (kL : PySem.W.keepIn K (.ref fL) = true) (bL : L2.Binds K fdL ["thing"] [])
    (GW : FnOk P w K mg base CX0 2 fW fdW ["places", "things"] (spWrong K)) (mW : mg "first_wrong" = some (.ref fW)) (kW : PySem.W.keepIn K (.ref fW) = true) (bW : L2.Binds K fdW ["places", "things"] []) :
    FnOk P w K mg base CX0 3 f fd ["places", "thing"] (spIsClause K) := by
  refine F.ok scIsClause (fun vs H Q E h => ?_) (fun cdv A' outer s H vs Q E hr h => ?_)
  · obtain ⟨PL, x, ns, r, rfl, _⟩ := h
    rfl
  · obtain ⟨PL, x, ns, r, rfl, hPL, hn, nd, good, ask, k⟩ := h
    have hr1 : Room 1 _ := hr.mono (by decide)
    refine ⟨_, pss_one (ps_ret (pe_and (pe_call GL hr1 (by rfl) mL kL bL .nil pass0 (pa_cons (pv 1) pa_nil)) (pe_one (pe_cmpR op_isN (pe_call GW hr (by rfl) mW kW bW .nil pass0 (pa_cons (pv 0) (pa_cons (pv 1) pa_nil))) pe_non rfl)))), ?_⟩
    cases ask with
    | @seq b A xs _ t ty kit sq see =>
      refine ⟨_, rfl, .ref A, t, true, rfl, ty, kit, fun H1 sm1 => ⟨_, rfl, iteT ⟨_, rfl, _, rfl, PL, A, b, ns, xs, r, rfl, sm1 _ _ hPL, sq H1 sm1, (fun H2 s2 => sq H2 (sm1.trans s2)), hn, nd, good, see H1 sm1, fun H2 sm2 => ?_⟩⟩⟩
      cases r with
      | true => exact ⟨rfl, k H2 (sm1.trans sm2)⟩
      | false => exact fun i => ⟨rfl, k H2 (sm1.trans sm2)⟩
    | odd t ty kit => exact ⟨_, rfl, x, t, false, rfl, ty, kit, fun H1 sm1 => ⟨_, rfl, iteF (k H1 sm1)⟩⟩
abbrev nChkCl : List Str := ["places", "things", "index", "thing"]
theorem scChkCl : FnScope nChkCl ["places", "things"] (defScope sChkCl) := ⟨rfl, rfl, rfl, by decide +kernel, rfl, by decide +kernel, by decide +kernel⟩
theorem ok_chkCl (F : Fun K "check_clauses" "check_clauses" sChkCl f fd) (GC : FnOk P w K mg base CX0 3 fC fdC ["places", "thing"] (spIsClause K)) (mC : mg "is_clause" = some (.ref fC)) (kC : PySem.W.keepIn K (.ref fC) = true) (bC : L2.Binds K fdC ["places", "thing"] []) (me : mg "enumerate" = none) :
    FnOk P w K mg base CX0 4 f fd ["places", "things"] (spChkCl K) := by
  refine F.ok scChkCl (fun vs H Q E h => ?_) (fun cdv A' outer s H vs Q E hr h => ?_)
  · obtain ⟨PL, T, b, xs, ns, rfl, _⟩ := h
    rfl
  · obtain ⟨PL, T, b, xs, ns, rfl, hPL, hT, hn, nd, good, ask, k⟩ := h
    refine ⟨_, pss_one (ps_for PassesOwn.never rfl (pi_enumB (by rfl) me (pa_cons (pv 1) pa_nil)) (pg_tup rfl (pgs_cons (pg_name (i := 2) scChkCl.nd rfl (.inl rfl)) (pgs_cons (pg_name (i := 3) scChkCl.nd rfl (.inl rfl)) pgs_nil)))
        (pss_one (ps_if (pt_not (pt_val (pe_call GC hr (by rfl) mC kC bC .nil pass0 (pa_cons (pv 0) (pa_cons (pv 3) pa_nil))))) (pss_one ps_none) pss_nil))), ?_⟩
    refine ⟨_, rfl, b, T, _, rfl, hT _ (Same.refl _), for_it walk_enumB (fun i σ H2 => ∃ o2 o3, σ = [some (.ref PL), some (.ref T), o2, o3] ∧ Same H H2) ⟨_, _, rfl, Same.refl _⟩ (fun i σ H2 _ ⟨_, _, _, sm⟩ => hT _ sm) ?_ ?_⟩
    · rintro i x σ H2 H3 hi ⟨o2, o3, rfl, sm⟩ ⟨t, v1, v2, rfl, ht, rfl, hv1, hv2⟩
      have sm3 := sm.trans (same_new (o := .tup [v1, v2]) ht)
      refine ⟨t, _, rfl, SqT.of upd_same, rfl, _, _, rfl, _, _, rfl, rfl, _, rfl, _, rfl, PL, v2, ns, true, rfl, sm3 _ _ hPL, hn, nd, good, (ask v2 (List.mem_of_getElem? hv2)).same sm3, fun H4 sm4 => ⟨_, rfl, iteF ⟨_, _, rfl, sm3.trans sm4⟩⟩⟩
    · rintro σ H2 ⟨o2, o3, rfl, sm⟩
      exact k H2 sm
end
end K6
namespace K6
open PySem PySem.Spec PyProof.Rows L2 LamX NdefX EV
abbrev sInit : Stmt := inClass (top 28) 0
abbrev sSigns : Stmt := inClass (top 28) 1
abbrev sHelpers : Stmt := inClass (top 28) 2
abbrev sClauses : Stmt := inClass (top 28) 3
abbrev sLen : Stmt := inClass (top 28) 8
abbrev sContains : Stmt := inClass (top 28) 9
abbrev sEq : Stmt := inClass (top 28) 11
/-! ### rows, each once -/
def addRow (rs : List (List Str)) (r : List Str) : List (List Str) := if r ∈ rs then rs else rs ++ [r]
def rowKv (r : List Str) : List Key × V := (r.map Sum.inr, .bl true)
theorem inr_inj : ∀ {a b : List Str}, a.map (Sum.inr : Str → Key) = b.map Sum.inr → a = b
  | [], [], _ => rfl
  | [], _ :: _, h => nomatch h
  | _ :: _, [], h => nomatch h
  | x :: a, y :: b, h => by
    injection h with h1 h2
    injection h1 with h1
    rw [h1, inr_inj h2]
theorem row_some {r : List Str} : ∀ rs : List (List Str), r ∈ rs → valV (rs.map rowKv) (r.map Sum.inr) = some (.bl true)
  | [], h => nomatch h
  | m :: rs, h => by
    by_cases e : m = r
    · subst e
      exact valV_pos rfl
    · rw [List.map_cons, valV_neg (fun q => e (inr_inj q))]
      exact row_some rs ((List.mem_cons.mp h).resolve_left fun q => e q.symm)
theorem row_none {r : List Str} : ∀ rs : List (List Str), r ∉ rs → valV (rs.map rowKv) (r.map Sum.inr) = none
  | [], _ => rfl
  | m :: rs, h => by
    rw [List.map_cons, valV_neg (fun q => h (by rw [inr_inj q]; exact List.mem_cons_self))]
    exact row_none rs fun q => h (List.mem_cons_of_mem _ q)
theorem row_put {rs : List (List Str)} {r : List Str} : putK (rs.map rowKv) (r.map Sum.inr) (.bl true) = (addRow rs r).map rowKv := by
  unfold addRow
  by_cases h : r ∈ rs
  · rw [if_pos h]
    unfold putK
    rw [valV_any, row_some rs h]
    show List.map (fun kv => if kv.1 = r.map Sum.inr then (kv.1, V.bl true) else kv) (List.map rowKv rs) = _
    rw [List.map_map]
    refine List.map_congr_left fun m _ => ?_
    show (if (rowKv m).1 = _ then _ else _) = _
    split
    · rfl
    · rfl
  · rw [if_neg h, putK_new (row_none rs h), List.map_append]
    rfl
theorem addRow_len (rs : List (List Str)) (r : List Str) : (addRow rs r).length ≤ rs.length + 1 := by
  unfold addRow
  split
  · omega
  · rw [List.length_append]; exact Nat.le_refl _
theorem kV_strs (r : List Str) : (r.map (Sum.inr : Str → Key)).map kV = r.map V.str := by
  rw [List.map_map]
  rfl
/-- the rows of clauses, each once, in the order in which they come -/
def rowsOf (ns : List Str) (qss : List (List (Bool × Str))) : List (List Str) := (qss.map fun qs => asc ns (qs.map lit)).foldl addRow []
theorem rowsOf_snoc (ns : List Str) (qss : List (List (Bool × Str))) (qs : List (Bool × Str)) : rowsOf ns (qss ++ [qs]) = addRow (rowsOf ns qss) (asc ns (qs.map lit)) := by
  unfold rowsOf
  rw [List.map_append, List.foldl_append]
  rfl
theorem rowsOf_len (ns : List Str) : ∀ qss : List (List (Bool × Str)), (rowsOf ns qss).length ≤ qss.length := by
  have go : ∀ (xs acc : List (List Str)), (xs.foldl addRow acc).length ≤ acc.length + xs.length := by
    intro xs
    induction xs with
    | nil => intro acc; exact Nat.le_refl _
    | cons x r ih =>
      intro acc
      have z := ih (addRow acc x)
      have y := addRow_len acc x
      rw [List.foldl_cons, List.length_cons]
      omega
  intro qss
  have z := go (qss.map fun qs => asc ns (qs.map lit)) []
  rw [List.length_map] at z
  unfold rowsOf
  simpa using z
/-- the fields of a code -/
def fl (a b pl r : Addr) : List (Str × V) := putF "rows" (.ref r) (putF "places" (.ref pl) (putF "own_helpers" (.ref b) (putF "own_signs" (.ref a) [])))
theorem fl_eq (a b pl r : Addr) : fl a b pl r = ([("own_signs", V.ref a), ("own_helpers", V.ref b), ("places", V.ref pl), ("rows", V.ref r)] : List (Str × V)) := by
  unfold fl putF
  rfl
/-- a code that stands in the heap -/
structure CodeAt (K : PySem.W.Frag) (C : Addr) (H : Hp) (x : Addr) (sg hp : List Str) (rs : List (List Str)) : Prop where
  at_ : ∃ dx a b pl r, H x = some (.ins C dx (fl a b pl r)) ∧ (∀ H', Same H H' → SqT K H' a (sg.map V.str)) ∧ (∀ H', Same H H' → SqT K H' b (hp.map V.str)) ∧ H pl = some (.dK (plc (sg ++ hp))) ∧ H r = some (.dT (rs.map rowKv))
/-- the same, the rows' dict named -/
structure CodeR (K : PySem.W.Frag) (C : Addr) (H : Hp) (x : Addr) (sg hp : List Str) (rs : List (List Str)) (r : Addr) : Prop where
  at_ : ∃ dx a b pl, H x = some (.ins C dx (fl a b pl r)) ∧ (∀ H', Same H H' → SqT K H' a (sg.map V.str)) ∧ (∀ H', Same H H' → SqT K H' b (hp.map V.str)) ∧ H pl = some (.dK (plc (sg ++ hp))) ∧ H r = some (.dT (rs.map rowKv))
theorem CodeR.code {K : PySem.W.Frag} {C : Addr} {H : Hp} {x r : Addr} {sg hp : List Str} {rs : List (List Str)} (c : CodeR K C H x sg hp rs r) : CodeAt K C H x sg hp rs := by
  obtain ⟨dx, a, b, pl, h⟩ := c.at_
  exact ⟨dx, a, b, pl, r, h⟩
structure CTxt (K : PySem.W.Frag) (mg : Str → Option Value) (C : Addr) : Prop where
  cl : Cls K C
  n1 : NoAttr K C "own_signs"
  n2 : NoAttr K C "own_helpers"
  n3 : NoAttr K C "places"
  n4 : NoAttr K C "rows"
  mgC : mg "Code" = some (.ref C)
  tuple : mg "tuple" = none
  list : mg "list" = none
  len : mg "len" = none
/-- all but x stays -/
def Grow (x : Addr) (H H' : Hp) : Prop := ∀ c o, c ≠ x → H c = some o → H' c = some o
theorem Grow.of {x : Addr} {H H' : Hp} (s : Same H H') : Grow x H H' := fun c o _ h => s c o h
theorem Grow.trans {x : Addr} {H H1 H2 : Hp} (a : Grow x H H1) (b : Grow x H1 H2) : Grow x H H2 := fun c o n h => b c o n (a c o n h)
theorem Grow.put {x : Addr} {H : Hp} {o : HO} : Grow x H (upd H x o) := fun _ _ n h => (upd_ne n).trans h
theorem tup_any {K : PySem.W.Frag} {H : Hp} {b : Bool} {a x : Addr} {xs : List V} {Q : VK} (hs : ∀ H', Grow x H H' → Sq K b H' a xs) {o : HO} (hx : H x = some o) (k : ∀ q H', Same H H' → (∀ H2, Grow x H' H2 → SqT K H2 q xs) → Q (.ref q) H') : kTup K (.ref a) H Q := by
  have h := hs H (Grow.of (Same.refl H))
  cases b with
  | false => exact .inr ⟨a, xs, rfl, h, k a H (Same.refl H) fun H2 g => hs H2 g⟩
  | true => exact .inl ⟨a, xs, rfl, h, fun q hq => k q _ (same_new hq) fun H2 g => SqT.of (g _ _ (ne_of_none hx hq).symm upd_same)⟩
/-- one clause handed over: a list or tuple of literals of distinct names -/
def Given (K : PySem.W.Frag) (s : Addr) (H : Hp) (ns : List Str) (x : V) (qs : List (Bool × Str)) : Prop := Lits ns qs ∧ ∃ (b : Bool) (A : Addr) (t : Value), x = .ref A ∧ (∀ H', Grow s H H' → TyX K H' (.ref A) t) ∧ PySem.W.kitAny K t [.type "list", .type "tuple"] = some true ∧ ∀ H', Grow s H H' → Sq K b H' A ((qs.map lit).map V.str)
theorem Given.ask {K : PySem.W.Frag} {s : Addr} {H : Hp} {ns : List Str} {x : V} {qs : List (Bool × Str)} (g : Given K s H ns x qs) : Ask K H ns true x := by
  obtain ⟨hq, b, A, t, rfl, ty, kit, sq⟩ := g
  exact .seq t (fun H' s' => ty H' (.of s')) kit (fun H' s' => sq H' (.of s')) fun _ _ => .ok hq
def spInit (K : PySem.W.Frag) (C : Addr) : Sp := fun vs H Q _ => ∃ (x dx S0 T0 H0 : Addr) (b1 b2 b3 : Bool) (sg hp : List Str) (xs : List V) (qss : List (List (Bool × Str))), vs = [.ref x, .ref S0, .ref T0, .ref H0] ∧ H x = some (.ins C dx []) ∧
  (∀ H', Grow x H H' → Sq K b1 H' S0 (sg.map V.str)) ∧ (∀ H', Grow x H H' → Sq K b2 H' T0 xs) ∧ (∀ H', Grow x H H' → Sq K b3 H' H0 (hp.map V.str)) ∧ (sg ++ hp).length ≤ 60 ∧ (sg ++ hp).Nodup ∧ (∀ z ∈ sg ++ hp, Name1 z) ∧ Paired (Given K x H (sg ++ hp)) xs qss ∧ qss.length ≤ 1000 ∧
  ∀ H' r, Grow x H H' → CodeR K C H' x sg hp (rowsOf (sg ++ hp) qss) r → H r = none → Q .non H'
section
variable {P : Program} {w : World} {K : PySem.W.Frag} {mg : Str → Option Value} {base : Heap} {f fN fP fC fO C : Addr} {fd fdN fdP fdC fdO : FuncData}
abbrev nInit : List Str := ["self", "signs", "clauses", "helpers", "names", "places", "clause"]
theorem scInit : FnScope nInit ["self", "signs", "clauses", "helpers"] (defScope sInit) := ⟨rfl, rfl, rfl, by decide +kernel, rfl, by decide +kernel, by decide +kernel⟩
theorem ok_init {A0 A1 : Addr} {dsN : List Value} (F : FunE K "__init__" "Code.__init__" sInit f fd A0) (T : CTxt K mg C)
    (GN : FnOk P w K mg base CX0 2 fN fdN ["things", "taken"] (spChkNames K)) (mN : mg "check_names" = some (.ref fN)) (kN : PySem.W.keepIn K (.ref fN) = true) (hN1 : NilT K A1) (dN : Vals [.ref A1] dsN) (bN : L2.Binds K fdN ["things", "taken"] dsN)
    (GP : FnOk P w K mg base CX0 2 fP fdP ["names"] (spPlaces K)) (mP : mg "places_of" = some (.ref fP)) (kP : PySem.W.keepIn K (.ref fP) = true) (bP : L2.Binds K fdP ["names"] [])
    (GC : FnOk P w K mg base CX0 4 fC fdC ["places", "things"] (spChkCl K)) (mC : mg "check_clauses" = some (.ref fC)) (kC : PySem.W.keepIn K (.ref fC) = true) (bC : L2.Binds K fdC ["places", "things"] [])
    (GO : FnOk P w K mg base CX0 1 fO fdO ["places", "literals"] (spInOrder K)) (mO : mg "in_order" = some (.ref fO)) (kO : PySem.W.keepIn K (.ref fO) = true) (bO : L2.Binds K fdO ["places", "literals"] []) :
    FnOk P w K mg base CX0 5 f fd ["self", "signs", "clauses", "helpers"] (spInit K C) := by
  refine F.ok scInit (fun vs H Q E h => ?_) (fun cdv A' outer s H vs Q E hr h => ?_)
  · obtain ⟨x, dx, S0, T0, H0, b1, b2, b3, sg, hp, xs, qss, rfl, _⟩ := h
    rfl
  · obtain ⟨x, dx, S0, T0, H0, b1, b2, b3, sg, hp, xs, qss, rfl, hx, hS, hT, hH, hn, nd, good, giv, few, k⟩ := h
    have hu := hu_of hr
    have hr1 : Room 1 _ := hr.mono (by decide)
    have hr2 : Room 2 _ := hr.mono (by decide)
    refine ⟨_, pss_cons (ps_set (i := 4) scInit.nd rfl (.inl rfl) (pe_tup (StX.pa_star (pv 1) (StX.pa_star (pv 3) pa_nil))))
      (pss_cons (ps_expr (pe_call GN hr2 (by rfl) mN kN bN dN pass0 (pa_cons (pv 4) pa_nil)))
      (pss_cons (ps_set (i := 5) scInit.nd rfl (.inr rfl) (pe_call GP hr2 (by rfl) mP kP bP .nil pass0 (pa_cons (pv 4) pa_nil)))
      (pss_cons (ps_expr (pe_call GC hr (by rfl) mC kC bC .nil pass0 (pa_cons (pv 5) (pa_cons (pv 2) pa_nil))))
      (pss_cons (ps_fld (pv 0) (pe_tupleOf (by rfl) T.tuple (pv 1)) rfl)
      (pss_cons (ps_fld (pv 0) (pe_tupleOf (by rfl) T.tuple (pv 3)) rfl)
      (pss_cons (ps_fld (pv 0) (pv 5) rfl)
      (pss_one (ps_fld (pv 0) (pe_dcP (own := [("clause", 6)]) .t rfl hu scInit.nd (pi_seq (pv 2)) (blkOk_by (N := nInit) (sc := defScope sInit) (by decide +kernel))
          (fun _ _ _ _ _ => pg_name (i := 6) scInit.nd rfl (.inl rfl)) (fun _ _ _ _ _ => pts_nil) (fun _ _ _ _ _ => pe_call GO hr1 (by rfl) mO kO bO .nil pass0 (pa_cons (pv 5) (pa_cons (pv 6) pa_nil))) (fun _ _ _ _ _ => pe_bl)) rfl)))))))), ?_⟩
    have g0 : Grow x H H := .of (Same.refl H)
    have eN : sg.map V.str ++ (hp.map V.str ++ []) = (sg ++ hp).map V.str := by rw [List.append_nil, List.map_append]
    refine ⟨_, rfl, S0, _, rfl, (hS H g0).any.symm, _, rfl, H0, _, rfl, (hH H g0).any.symm, ?_, fun N hN => ?_⟩
    · rw [eN, List.length_map, sizeLine_eq]
      omega
    rw [eN]
    have smN : Same H (upd H N (.tup ((sg ++ hp).map V.str))) := same_new hN
    have sqN : ∀ H', Same (upd H N (.tup ((sg ++ hp).map V.str))) H' → Sq K false H' N ((sg ++ hp).map V.str) := fun H' s' => Sq.tup (s' _ _ upd_same)
    refine ⟨_, rfl, N, A1, false, false, sg ++ hp, [], rfl, sqN, (fun H' _ => hN1.sq H'), hn, Nat.zero_le _, nd, good, fun H1 sm1 => ?_⟩
    refine ⟨_, rfl, N, false, sg ++ hp, rfl, sqN _ sm1, (fun H' s' => sqN H' (sm1.trans s')), hn, nd, good, fun PL H2 hPL0 hPL2 sm2 => ?_⟩
    have sm02 := smN.trans (sm1.trans sm2)
    refine ⟨_, rfl, _, rfl, PL, T0, b2, xs, sg ++ hp, rfl, hPL2, (fun H' s' => hT H' (.of (sm02.trans s'))), hn, nd, good, (fun v hv => ?_), fun H3 sm3 => ?_⟩
    · obtain ⟨i, hi⟩ := List.getElem?_of_mem hv
      obtain ⟨qs, _, g⟩ := paired_get giv i v hi
      exact g.ask.same sm02
    have sm03 := sm02.trans sm3
    have hx3 := sm03 _ _ hx
    refine ⟨_, rfl, tup_any (x := x) (fun H' g => hS H' ((Grow.of sm03).trans g)) hx3 fun a H4 sm4 ha => ⟨_, rfl, x, C, dx, [], rfl, sm4 _ _ hx3, T.cl, T.n1, (by show 0 < 1000; decide), ?_⟩⟩
    have g4 : Grow x H (upd H4 x (.ins C dx (putF "own_signs" (.ref a) []))) := (Grow.of (sm03.trans sm4)).trans .put
    refine ⟨_, rfl, tup_any (x := x) (fun H' g => hH H' (g4.trans g)) upd_same fun b H5 sm5 hb => ⟨_, rfl, x, C, dx, _, rfl, sm5 _ _ upd_same, T.cl, T.n2, (by show 1 < 1000; decide), ?_⟩⟩
    have g5 := (g4.trans (Grow.of sm5)).trans (Grow.put (o := .ins C dx (putF "own_helpers" (.ref b) (putF "own_signs" (.ref a) []))))
    refine ⟨_, rfl, _, rfl, x, C, dx, _, rfl, upd_same, T.cl, T.n3, (by show 2 < 1000; decide), ?_⟩
    have g6 := g5.trans (Grow.put (x := x) (o := .ins C dx (putF "places" (.ref PL) (putF "own_helpers" (.ref b) (putF "own_signs" (.ref a) [])))))
    have g36 : Grow x H3 (upd (upd H5 x (.ins C dx (putF "own_helpers" (.ref b) (putF "own_signs" (.ref a) [])))) x (.ins C dx (putF "places" (.ref PL) (putF "own_helpers" (.ref b) (putF "own_signs" (.ref a) []))))) :=
      ((((Grow.of sm4).trans .put).trans (Grow.of sm5)).trans .put).trans .put
    have nPx : PL ≠ x := ne_of (sm3 _ _ hPL2) hx3 fun z => nomatch z
    have ndl := lits_nodup (sg ++ hp) nd good
    generalize eH6 : upd (upd H5 x (.ins C dx (putF "own_helpers" (.ref b) (putF "own_signs" (.ref a) [])))) x (.ins C dx (putF "places" (.ref PL) (putF "own_helpers" (.ref b) (putF "own_signs" (.ref a) [])))) = H6 at g6 g36 ⊢
    have hx6 : H6 x = some (.ins C dx (putF "places" (.ref PL) (putF "own_helpers" (.ref b) (putF "own_signs" (.ref a) [])))) := eH6 ▸ upd_same
    have hPL6 : H6 PL = some (.dK (plc (sg ++ hp))) := g36 _ _ nPx (sm3 _ _ hPL2)
    have lx : xs.length = qss.length := Paired.length giv
    refine ⟨_, rfl, b2, T0, _, rfl, hT _ g6, fun D hD => dc_it walk_sq (fun i H7 => Same H6 H7 ∧ H7 D = some (.dT ((rowsOf (sg ++ hp) (qss.take i)).map rowKv))) ⟨same_new hD, upd_same⟩ (fun i H7 _ hh => hT _ (g6.trans (Grow.of hh.1))) ?_ ?_⟩
    · rintro i v H7 H8 hi ⟨sm7, hD7⟩ ⟨rfl, hv⟩
      obtain ⟨qs, hqs, hq, b', A, t', rfl, ty, kit, sq⟩ := paired_get giv i v hv
      have g7 := g6.trans (Grow.of sm7)
      refine ⟨rfl, _, rfl, _, rfl, PL, A, b', sg ++ hp, qs.map lit, rfl, sm7 _ _ hPL6, sq _ g7, (fun H' s' => sq _ (g7.trans (Grow.of s'))), hn, nd, good, (fun l hl => ?_), fun t H9 ht ht9 sm9 => ?_⟩
      · obtain ⟨q, hq', rfl⟩ := List.mem_map.mp hl
        exact lit_mem (hq.sub q hq')
      rw [← kV_strs] at ht9
      refine ⟨_, DPut.t (sm9 _ _ hD7) ht9 ?_, fun c o h => (upd_ne (ne_of_none h hD)).trans (sm9 _ _ (sm7 _ _ h)), ?_⟩
      · rw [List.length_map, sizeLine_eq]
        have := rowsOf_len (sg ++ hp) (qss.take i)
        have := List.length_take_le i qss
        have := List.length_take_le' i qss
        omega
      · rw [upd_same, row_put, List.take_succ, hqs]
        show _ = some (HO.dT ((rowsOf (sg ++ hp) (qss.take i ++ [qs])).map rowKv))
        rw [rowsOf_snoc]
    · rintro H7 ⟨sm7, hD7⟩
      rw [lx, List.take_length] at hD7
      have g67 : Grow x H6 (upd H7 x (.ins C dx (fl a b PL D))) := (Grow.of sm7).trans .put
      refine ⟨_, rfl, x, C, dx, _, rfl, sm7 _ _ hx6, T.cl, T.n4, (by show 3 < 1000; decide), k _ D (g6.trans g67) ⟨dx, a, b, PL, upd_same, ?_, ?_, g67 _ _ nPx hPL6, ?_⟩ ?_⟩
      · intro H' s'
        refine ha H' ?_
        exact (((Grow.put (x := x) (o := .ins C dx (putF "own_signs" (.ref a) []))).trans (Grow.of sm5)).trans (Grow.put.trans (eH6 ▸ Grow.put))).trans (g67.trans (Grow.of s'))
      · intro H' s'
        refine hb H' ?_
        exact (Grow.put.trans (eH6 ▸ Grow.put)).trans (g67.trans (Grow.of s'))
      · exact (upd_ne (ne_of hD7 (sm7 _ _ hx6) fun z => nomatch z)).trans hD7
      · cases hHD : H D with
        | none => rfl
        | some o =>
          by_cases e : D = x
          · rw [e, hx6] at hD
            cases hD
          · rw [g6 _ _ e hHD] at hD
            cases hD
end
end K6
namespace K6
open PySem PySem.Spec PyProof.Rows L2 LamX NdefX EV
def spSigns (K : PySem.W.Frag) (C : Addr) : Sp := fun vs H Q _ => ∃ (x : Addr) (sg hp : List Str) (rs : List (List Str)), vs = [.ref x] ∧ CodeAt K C H x sg hp rs ∧ ∀ p, H p = none → Q (.ref p) (upd H p (.lst (sg.map V.str)))
def spHelpers (K : PySem.W.Frag) (C : Addr) : Sp := fun vs H Q _ => ∃ (x : Addr) (sg hp : List Str) (rs : List (List Str)), vs = [.ref x] ∧ CodeAt K C H x sg hp rs ∧ ∀ p, H p = none → Q (.ref p) (upd H p (.lst (hp.map V.str)))
def spClauses (K : PySem.W.Frag) (C : Addr) : Sp := fun vs H Q _ => ∃ (x : Addr) (sg hp : List Str) (rs : List (List Str)), vs = [.ref x] ∧ CodeAt K C H x sg hp rs ∧ ∀ p ts, H p = none → RowsAt H ts rs → Q (.ref p) (upd H p (.lst (ts.map V.ref)))
def spLen (K : PySem.W.Frag) (C : Addr) : Sp := fun vs H Q _ => ∃ (x : Addr) (sg hp : List Str) (rs : List (List Str)), vs = [.ref x] ∧ CodeAt K C H x sg hp rs ∧ Q (.int ((rs.length : Nat) : Int)) H
def spContains (K : PySem.W.Frag) (C : Addr) : Sp := fun vs H Q _ => ∃ (x : Addr) (v : V) (sg hp : List Str) (rs : List (List Str)), vs = [.ref x, v] ∧ CodeAt K C H x sg hp rs ∧ (sg ++ hp).length ≤ 60 ∧ (sg ++ hp).Nodup ∧ (∀ z ∈ sg ++ hp, Name1 z) ∧
  ((∃ qs, Given K x H (sg ++ hp) v qs ∧ ∀ H', Same H H' → Q (.bl (decide (asc (sg ++ hp) (qs.map lit) ∈ rs))) H') ∨ (Ask K H (sg ++ hp) false v ∧ ∀ H', Same H H' → Q (.bl false) H'))
theorem keys_rows {H : Hp} : ∀ (rs : List (List Str)) (bs : List Addr), IsKeys H (rs.map rowKv) bs → RowsAt H bs rs
  | [], [], _ => .nil
  | [], _ :: _, h => nomatch h
  | _ :: _, [], h => nomatch h
  | r :: rs, b :: bs, .cons h t => .cons (by rw [show (rowKv r).1 = r.map Sum.inr from rfl, kV_strs] at h; exact h) (keys_rows rs bs t)
theorem scLen : FnScope ["self"] ["self"] (defScope sLen) := ⟨rfl, rfl, rfl, by decide +kernel, rfl, by decide +kernel, by decide +kernel⟩
theorem scContains : FnScope ["self", "thing"] ["self", "thing"] (defScope sContains) := ⟨rfl, rfl, rfl, by decide +kernel, rfl, by decide +kernel, by decide +kernel⟩
section
variable {P : Program} {w : World} {K : PySem.W.Frag} {mg : Str → Option Value} {base : Heap} {f C : Addr} {fd : FuncData}
theorem fl1 (a b pl r : Addr) : (fl a b pl r).lookup ("own_signs" : Str) = some (.ref a) := by rw [fl_eq]; rfl
theorem fl2 (a b pl r : Addr) : (fl a b pl r).lookup ("own_helpers" : Str) = some (.ref b) := by rw [fl_eq]; rfl
theorem fl3 (a b pl r : Addr) : (fl a b pl r).lookup ("places" : Str) = some (.ref pl) := by rw [fl_eq]; rfl
theorem fl4 (a b pl r : Addr) : (fl a b pl r).lookup ("rows" : Str) = some (.ref r) := by rw [fl_eq]; rfl
theorem scSigns : FnScope ["self"] ["self"] (defScope sSigns) := ⟨rfl, rfl, rfl, by decide +kernel, rfl, by decide +kernel, by decide +kernel⟩
theorem ok_signs (F : Fun K "signs" "Code.signs" sSigns f fd) (T : CTxt K mg C) : FnOk P w K mg base CX0 1 f fd ["self"] (spSigns K C) := by
  refine F.ok scSigns (fun vs H Q E h => ?_) (fun cdv A' outer s H vs Q E hr h => ?_)
  · obtain ⟨x, sg, hp, rs, rfl, _⟩ := h
    rfl
  · obtain ⟨x, sg, hp, rs, rfl, ⟨dx, a, b, pl, r, hx, ha, _⟩, k⟩ := h
    refine ⟨_, pss_one (ps_ret (pe_callTy call_list_of (by rfl) T.list (by decide +kernel) (pa_cons (pe_fld (pv 0) rfl) pa_nil))), ?_⟩
    exact ⟨_, rfl, x, C, dx, _, _, rfl, hx, T.cl, T.n1, fl1 .., a, _, rfl, .inr (ha H (Same.refl H)), k⟩
theorem scHelpers : FnScope ["self"] ["self"] (defScope sHelpers) := ⟨rfl, rfl, rfl, by decide +kernel, rfl, by decide +kernel, by decide +kernel⟩
theorem ok_helpers (F : Fun K "helpers" "Code.helpers" sHelpers f fd) (T : CTxt K mg C) : FnOk P w K mg base CX0 1 f fd ["self"] (spHelpers K C) := by
  refine F.ok scHelpers (fun vs H Q E h => ?_) (fun cdv A' outer s H vs Q E hr h => ?_)
  · obtain ⟨x, sg, hp, rs, rfl, _⟩ := h
    rfl
  · obtain ⟨x, sg, hp, rs, rfl, ⟨dx, a, b, pl, r, hx, _, hb, _⟩, k⟩ := h
    refine ⟨_, pss_one (ps_ret (pe_callTy call_list_of (by rfl) T.list (by decide +kernel) (pa_cons (pe_fld (pv 0) rfl) pa_nil))), ?_⟩
    exact ⟨_, rfl, x, C, dx, _, _, rfl, hx, T.cl, T.n2, fl2 .., b, _, rfl, .inr (hb H (Same.refl H)), k⟩
theorem scClauses : FnScope ["self"] ["self"] (defScope sClauses) := ⟨rfl, rfl, rfl, by decide +kernel, rfl, by decide +kernel, by decide +kernel⟩
theorem ok_clauses (F : Fun K "clauses" "Code.clauses" sClauses f fd) (T : CTxt K mg C) : FnOk P w K mg base CX0 1 f fd ["self"] (spClauses K C) := by
  refine F.ok scClauses (fun vs H Q E h => ?_) (fun cdv A' outer s H vs Q E hr h => ?_)
  · obtain ⟨x, sg, hp, rs, rfl, _⟩ := h
    rfl
  · obtain ⟨x, sg, hp, rs, rfl, ⟨dx, a, b, pl, r, hx, _, _, _, hr4⟩, k⟩ := h
    refine ⟨_, pss_one (ps_ret (pe_callTy (call_list_dT rfl) (by rfl) T.list (by decide +kernel) (pa_cons (pe_fld (pv 0) rfl) pa_nil))), ?_⟩
    refine ⟨_, rfl, x, C, dx, _, _, rfl, hx, T.cl, T.n4, fl4 .., r, _, rfl, .inl hr4, fun p bs hp hk => k p bs hp ?_⟩
    exact keys_rows rs bs hk
theorem ok_len (F : Fun K "__len__" "Code.__len__" sLen f fd) (T : CTxt K mg C) : FnOk P w K mg base CX0 1 f fd ["self"] (spLen K C) := by
  refine F.ok scLen (fun vs H Q E h => ?_) (fun cdv A' outer s H vs Q E hr h => ?_)
  · obtain ⟨x, sg, hp, rs, rfl, _⟩ := h
    rfl
  · obtain ⟨x, sg, hp, rs, rfl, ⟨dx, a, b, pl, r, hx, _, _, _, hr4⟩, k⟩ := h
    refine ⟨_, pss_one (ps_ret (pe_callB call_len_dT (by rfl) T.len PySem.boot_len (pa_cons (pe_fld (pv 0) rfl) pa_nil))), ?_⟩
    refine ⟨_, rfl, x, C, dx, _, _, rfl, hx, T.cl, T.n4, fl4 .., r, _, rfl, hr4, ?_⟩
    rw [List.length_map]
    exact k
theorem ok_contains {fC fO : Addr} {fdC fdO : FuncData} (F : Fun K "__contains__" "Code.__contains__" sContains f fd) (T : CTxt K mg C)
    (GC : FnOk P w K mg base CX0 3 fC fdC ["places", "thing"] (spIsClause K)) (mC : mg "is_clause" = some (.ref fC)) (kC : PySem.W.keepIn K (.ref fC) = true) (bC : L2.Binds K fdC ["places", "thing"] [])
    (GO : FnOk P w K mg base CX0 1 fO fdO ["places", "literals"] (spInOrder K)) (mO : mg "in_order" = some (.ref fO)) (kO : PySem.W.keepIn K (.ref fO) = true) (bO : L2.Binds K fdO ["places", "literals"] []) :
    FnOk P w K mg base CX0 4 f fd ["self", "thing"] (spContains K C) := by
  refine F.ok scContains (fun vs H Q E h => ?_) (fun cdv A' outer s H vs Q E hr h => ?_)
  · obtain ⟨x, v, sg, hp, rs, rfl, _⟩ := h
    rfl
  · obtain ⟨x, v, sg, hp, rs, rfl, ⟨dx, a, b, pl, r, hx, _, _, hpl, hr4⟩, hn, nd, good, way⟩ := h
    have hu := hu_of hr
    have hr1 : Room 1 _ := hr.mono (by decide)
    refine ⟨_, pss_one (ps_ret (pe_and (pe_call GC hr (by rfl) mC kC bC .nil pass0 (pa_cons (pe_fld (pv 0) rfl) (pa_cons (pv 1) pa_nil))) (pe_one (pe_cmp (pc_din hu (pe_call GO hr1 (by rfl) mO kO bO .nil pass0 (pa_cons (pe_fld (pv 0) rfl) (pa_cons (pv 1) pa_nil))) (pe_fld (pv 0) rfl)))))), ?_⟩
    refine ⟨_, rfl, x, C, dx, _, _, rfl, hx, T.cl, T.n3, fl3 .., _, rfl, ?_⟩
    rcases way with ⟨qs, giv, k⟩ | ⟨ask, k⟩
    · refine ⟨pl, v, sg ++ hp, true, rfl, hpl, hn, nd, good, giv.ask, fun H1 sm1 => ⟨_, rfl, iteT ?_⟩⟩
      obtain ⟨hq, b', A, t, rfl, ty, kit, sq⟩ := giv
      refine ⟨_, rfl, x, C, dx, _, _, rfl, sm1 _ _ hx, T.cl, T.n3, fl3 .., _, rfl, pl, A, b', sg ++ hp, qs.map lit, rfl, sm1 _ _ hpl, sq _ (.of sm1), (fun H' s' => sq _ (.of (sm1.trans s'))), hn, nd, good, (fun l hl => ?_), fun t1 H2 ht ht2 sm2 => ?_⟩
      · obtain ⟨q, hq', rfl⟩ := List.mem_map.mp hl
        exact lit_mem (hq.sub q hq')
      rw [← kV_strs] at ht2
      have sm := sm1.trans sm2
      have g := DGet.t (k := (asc (sg ++ hp) (qs.map lit)).map Sum.inr) (sm _ _ hr4) ht2
      refine ⟨_, rfl, x, C, dx, _, _, rfl, sm _ _ hx, T.cl, T.n4, fl4 .., r, _, rfl, g, ?_⟩
      by_cases e : asc (sg ++ hp) (qs.map lit) ∈ rs
      · rw [row_some rs e]
        have z := k H2 sm
        rwa [decide_eq_true e] at z
      · rw [row_none rs e]
        have z := k H2 sm
        rwa [decide_eq_false e] at z
    · exact ⟨pl, v, sg ++ hp, false, rfl, hpl, hn, nd, good, ask, fun H1 sm1 => ⟨_, rfl, iteF (k H1 sm1)⟩⟩
end
end K6
/-! set(xs) of a tuple or list of distinct keys; set == set. -/
namespace EV
open PySem PySem.Spec PyProof.Rows L2
section
variable {prog : Program} {w : World} {K : Type} [DecidableEq K] [BEq K] [LawfulBEq K] {knd : KeyKind prog w K} {A : Around}
/-- the loop that fills a set from a walk: each key is new -/
theorem fill_loop {R : Result → Shared → Prop} {I : Addr} {fp wr : List Addr} {G : Array GenState → Array GenState → Prop} {n : Nat} {Pv : Nat → Value → Prop} {St : Nat → Shared → Prop}
    (W : WalksS prog w A.in1 I fp wr G n Pv St) (D : Addr) (off : D ∉ fp) (ks : List K) (len : ks.length = n) (few : n < 4000) (nd : ks.Nodup)
    (val : ∀ i v, Pv i v → ∃ k, ks[i]? = some k ∧ knd.is k v = true ∧ v.scannable = true) : ∀ (m i : Nat) (s : Shared), i + m = n → St i s → s.heap.SetOf knd D (fun j => decide (j ∈ ks.take i)) i →
      (∀ s', Moved (D :: wr) G s s' → s'.heap.SetOf knd D (fun j => decide (j ∈ ks)) n → R (.ok (.ret .none)) s') →
      codeAny (model prog w) A (.builtin "set.update.loop" ⟨[.ref D, .ref I], []⟩) R s := by
  have offw : D ∉ wr := fun h => off (W.sub _ h)
  have wide : ∀ b ∈ wr, b ∈ D :: wr := fun b hb => List.mem_cons_of_mem _ hb
  have stays : ∀ {h h' : Heap} {S : K → Bool} {c : Nat}, h.SetOf knd D S c → (∀ o, h.get? D = some o → h'.get? D = some o) → h'.SetOf knd D S c := fun x k => by
    obtain ⟨o, es, ep, t, ho, rest⟩ := x
    exact ⟨o, es, ep, t, k o ho, rest⟩
  intro m
  induction m with
  | zero =>
    intro i s sum st hS fin
    obtain rfl : i = n := sum
    refine codeAny_builtin PyProof.Rows.F.entry_set_update_loop ?_
    rw [Around.under_plainId PyProof.Rows.F.plain_set_update_loop _]
    show wpAny _ A.in1 (pyNext (.ref I) >>= _) _ _ s
    refine wpAny_bind (W.done s _ _ st fun s' mv => ?_)
    show wpAny _ A.in1 (ret Value.none) _ _ s'
    rw [← len, List.take_length] at hS
    exact wpAny_pure (fin s' (mv.mono wide) (len ▸ stays hS fun o e => mv.heap D _ offw e))
  | succ m ih =>
    intro i s sum st hS fin
    have lt : i < n := by omega
    refine codeAny_builtin PyProof.Rows.F.entry_set_update_loop ?_
    rw [Around.under_plainId PyProof.Rows.F.plain_set_update_loop _]
    show wpAny _ A.in1 (pyNext (.ref I) >>= _) _ _ s
    refine wpAny_bind (W.item i s _ _ lt st fun v s' hv st' mv => ?_)
    obtain ⟨k, hk, isk, sc⟩ := val i v hv
    have hS' : s'.heap.SetOf knd D (fun j => decide (j ∈ ks.take i)) i := stays hS fun o e => mv.heap D _ offw e
    show wpAny _ A.in1 (holding [v] (setAdd D v) >>= _) _ _ s'
    refine wpAny_bind (wpAny_holding ?_)
    unfold setAdd
    refine wpAny_holding (wpAny_bind (knd.pyHash (k := k) isk ?_))
    refine wpAny_setAddHashed_of (knd := knd) (s := { s' with toks := s'.toks + 1 }) isk sc hS' (by unfold scanBound; omega) fun h' sb hS2 => ?_
    have new : k ∉ ks.take i := fun q => by
      obtain ⟨j, hj, e⟩ := List.getElem_of_mem q
      have il := (List.getElem?_eq_some_iff.mp hk).1
      have jl : j < i := by rw [List.length_take] at hj; omega
      rw [List.getElem_take] at e
      have z : ks[j]? = some k := by rw [← e]; exact List.getElem?_eq_getElem _
      exact absurd ((List.getElem?_inj (by omega) nd).mp (z.trans hk.symm)) (by omega)
    have hS3 : h'.SetOf knd D (fun j => decide (j ∈ ks.take (i + 1))) (i + 1) := by
      refine SetOf_congr hS2 (fun j => ?_) (by rw [decide_eq_false new]; rfl)
      rw [List.take_succ, hk]
      show (decide (j ∈ ks.take i) || decide (j = k)) = decide (j ∈ ks.take i ++ [k])
      rw [← Bool.decide_or]
      exact decide_eq_decide.mpr (by rw [List.mem_append, List.mem_singleton])
    refine wpAny_pure ⟨plainId_quiet PyProof.Rows.F.plain_set_update_loop _, ih (i + 1) _ (by omega) (W.frame _ s' _ _ st' (Nat.le_succ _) fun b hb o e => ?_) hS3 fun s2 mv2 hS4 => ?_⟩
    · exact (sb.2 b fun q => off (q ▸ hb)).trans e
    · refine fin s2 (Moved.trans W.gtrans ((mv.mono wide).then_heap (Nat.le_succ _) fun b o hb e => ?_) mv2) hS4
      exact (sb.2 b fun q => hb (q ▸ List.mem_cons_self)).trans e
end
section
variable {prog : Program} {w : World} {K : Type} [DecidableEq K] [BEq K] [LawfulBEq K] {knd : KeyKind prog w K} {A : Around} {E : Value → Shared → Prop} {s : Shared}
/-- set(t), t a tuple of distinct keys -/
theorem call_setOf {l : Addr} {items : Array Value} {ks : List K} {Q : Value → Shared → Prop} (hh : A.handled = none) (hl : s.heap.IsTuple l items) (len : ks.length = items.size) (few : items.size < 4000) (nd : ks.Nodup)
    (val : ∀ (i : Nat) (v : Value), items[i]? = some v → ∃ k, ks[i]? = some k ∧ knd.is k v = true ∧ v.scannable = true)
    (h : ∀ (h' : Heap) (tk : Nat), h'.SetOf knd s.heap.objs.size (fun j => decide (j ∈ ks)) items.size → (∀ b o, b < s.heap.objs.size → s.heap.get? b = some o → h'.get? b = some o) → Q (.ref s.heap.objs.size) { s with heap := h', toks := tk }) :
    wpAny (model prog w) A (call (.type "set") [.ref l]) Q E s := by
  have made := PySem.F.called_set.made
  have subs := PySem.F.called_set.sub
  have nt := PySem.F.called_set.notType
  have cc := PySem.F.called_set.canCreate
  have tc := PySem.F.typeCall_set_1 (.ref l)
  obtain ⟨c, tl, mro⟩ := PySem.F.called_set.mro
  refine wpAny_call (codeAny_of_tree ?_)
  show wpAny _ _ (callAny (.type "set") _) _ _ _
  refine wpAny_pure ⟨Code.quiet_builtin _ (by decide +kernel), codeAny_builtin PySem.F.entry_type_call ?_⟩
  rw [Around.under_plain (weight_type_call_type "set" [.ref l] []) rfl]
  repeat (any_goals (first | assumption | wp_step))
  refine codeAny_mono (code_set_new_1 (.ref l) (E := E) (Q₁ := fun obj s₁ => ∃ led : Bool, obj = .ref s.heap.objs.size ∧ s₁ = { s with heap := s.heap.push { cls := .type "set", dict := none, data := .set #[] 0 (.fresh 0 0 led) } }) fun led => ⟨led, rfl, rfl⟩) fun res s₁ got => ?_
  match res, got with
  | .error _, got => exact got
  | .ok .next, got => exact got.elim
  | .ok .brk, got => exact got.elim
  | .ok .cont, got => exact got.elim
  | .ok (.ret _), ⟨led, e1, e2⟩ =>
  subst e1 e2
  have hS : (s.heap.push { cls := .type "set", dict := none, data := .set #[] 0 (.fresh 0 0 led) }).get? s.heap.objs.size = some { cls := .type "set", dict := none, data := .set #[] 0 (.fresh 0 0 led) } := Heap.get?_push_size _ rfl
  have hT : Shared.TypeIs { s with heap := s.heap.push { cls := .type "set", dict := none, data := .set #[] 0 (.fresh 0 0 led) } } (.ref s.heap.objs.size) "set" := ⟨_, hS, rfl⟩
  have il := PySem.F.called_set.init.lookup
  have ib := PySem.F.called_set.init.bind (.ref s.heap.objs.size)
  repeat (any_goals (first | assumption | wp_step))
  refine codeAny_mono (codeAny_call_builtin (R := wants (fun r s₂ => r = .none ∧ Q (.ref s.heap.objs.size) s₂) E) PySem.F.called_set.init.plain PySem.F.entry_set_init (check_set_init_1 hT ?_)) fun res s₂ got => ?_
  rotate_left
  · match res, got with
    | .error _, got => exact got
    | .ok .next, got => exact got.elim
    | .ok .brk, got => exact got.elim
    | .ok .cont, got => exact got.elim
    | .ok (.ret _), ⟨e1, q⟩ =>
      subst e1
      repeat (any_goals (first | assumption | wp_step))
  obtain ⟨⟨oc, od, dt, osl⟩, at0, hc, n, hd⟩ := hl
  obtain rfl : oc = .type "tuple" := hc
  obtain rfl : dt = .seq items n := hd
  have at1 : (s.heap.push { cls := .type "set", dict := none, data := .set #[] 0 (.fresh 0 0 led) }).get? l = some { cls := .type "tuple", dict := od, data := .seq items n, slots := osl } := Heap.get?_push_of_some _ at0
  have s1 := PySem.F.sub_tuple_set
  have s2 := PySem.F.sub_tuple_frozenset
  have nd1 : (Value.type "tuple" == Value.type "dict") = false := by decide
  have tup : (s.heap.push { cls := .type "set", dict := none, data := .set #[] 0 (.fresh 0 0 led) }).IsTuple l items := ⟨_, at1, rfl, n, rfl⟩
  unfold Builtin.«set.__init__» noKeywords Builtin.Frozenset.updateFrom
  generalize hPI : pyIter = PI
  wp_walk
  subst hPI
  refine wpAny_pyIter_tuple tup ?_
  refine wpAny_bind (wpAny_runValue ?_)
  have ll : l < s.heap.objs.size := Heap.lt_size at0
  have hh3 : A.in1.in1.in1.handled = none := by simp [hh]
  have up : (s.heap.push { cls := .type "set", dict := none, data := .set #[] 0 (.fresh 0 0 led) }).objs.size = s.heap.objs.size + 1 := Heap.size_push ..
  have ne : l ≠ (s.heap.push { cls := .type "set", dict := none, data := .set #[] 0 (.fresh 0 0 led) }).objs.size := by
    rw [up]
    exact Nat.ne_of_lt (Nat.lt_succ_of_lt ll)
  have off : s.heap.objs.size ∉ [(s.heap.push { cls := .type "set", dict := none, data := .set #[] 0 (.fresh 0 0 led) }).objs.size, l] := fun q => by
    rcases List.mem_cons.mp q with q | q
    · rw [up] at q
      exact Nat.ne_of_lt (Nat.lt_succ_self _) q
    · exact Nat.ne_of_gt ll (List.mem_singleton.mp q)
  refine fill_loop (knd := knd) ((Walks.tuple hh3 _ l ne items).toS) s.heap.objs.size off ks len few nd val items.size 0 _ (Nat.zero_add _) ⟨⟨_, Heap.get?_push_size _ rfl, rfl, rfl⟩, tup.push _⟩ ?_ fun s' mv hS' => ?_
  · exact SetOf_congr ((PyProof.Rows.setObjOf_fresh (knd := knd) led).setOf (Heap.get?_push_of_some _ hS) (by unfold scanBound; omega)) (fun j => (decide_eq_false (by rw [List.take_zero]; exact List.not_mem_nil)).symm) rfl
  · obtain ⟨h', g', d', tk', os'⟩ := s'
    obtain rfl : g' = s.gens := mv.gens
    obtain rfl : d' = s.drawn := mv.drawn
    obtain rfl : os' = s.os := mv.os
    show wpAny _ _ _ _ _ _
    refine wpAny_pure ?_
    show wpAny _ _ (ret Value.none) _ _ _
    refine wpAny_pure ⟨rfl, h h' tk' hS' fun b o hb e => ?_⟩
    refine mv.heap b o (fun q => ?_) (Heap.get?_push_of_some _ (Heap.get?_push_of_some _ e))
    rcases List.mem_cons.mp q with q | q
    · exact Nat.ne_of_lt hb q
    · have z := List.mem_singleton.mp q
      rw [up] at z
      exact Nat.ne_of_lt (Nat.lt_succ_of_lt hb) z
end
theorem entry_setEq : entryFor table "set.__eq__" = some Builtin.«frozenset.__eq__» :=
  entryFor_alias (id' := "frozenset.__eq__") (by kernel_rfl) rfl (by decide +kernel) (by kernel_rfl)
section
variable {prog : Program} {w : World} {K : Type} [DecidableEq K] [BEq K] [LawfulBEq K] {knd : KeyKind prog w K} {A : Around} {E : Value → Shared → Prop} {s : Shared}
theorem quiet_of {M : Model} {x : Value} {Q : Bool → Shared → Prop} (h : x.scannable = true) (k : Q true s) : wpAny M A (Builtin.Frozenset.quietEq x) Q E s := by
  cases x <;> first | exact wpAny_pure k | exact Bool.noConfusion h
/-- is one set part of the other -/
theorem sub_sets {nm : String} {a b : Addr} {S T : K → Bool} {n m : Nat} {r : Bool} {Q : Bool → Shared → Prop} (ha : s.heap.SetOf knd a S n) (hb : s.heap.SetOf knd b T m) (le : n ≤ m) (hr : r = true ↔ ∀ k, S k = true → T k = true) (h : Q r s) :
    wpAny (model prog w) A (Builtin.Frozenset.subsetOf nm a b) Q E s := by
  obtain ⟨oa, es, ep, ta, hoa, hxa, hda, hka, hma, hba, hfa, rfl⟩ := id ha
  obtain ⟨ob, es', ep', tb, hob, hxb, hdb, hkb, hmb, hbb, hfb, rfl⟩ := id hb
  unfold Builtin.Frozenset.subsetOf Builtin.Frozenset.sizeOf
  refine wpAny_bind (wpAny_bind (wpAny_setEntries_of hoa hda hfa (wpAny_pure ?_)))
  refine wpAny_bind (wpAny_bind (wpAny_setEntries_of hob hdb hfb (wpAny_pure ?_)))
  rw [if_neg (Nat.not_lt.mpr le)]
  refine wpAny_bind (wpAny_setEpoch_of hoa hda hfa ?_)
  refine wpAny_bind ?_
  unfold Builtin.Frozenset.walkUnseen
  refine wpAny_bind (wpAny_setEntries_of hoa hda hfa ?_)
  refine wpAny_bind (wpAny_setEntries_of hob hdb hfb ?_)
  refine wpAny_bind (wpAny_forIn_list _ (fun rest q s' => s' = s ∧ q = (none, ()) ∧ ∀ e ∈ rest, e.2.scannable = true) _ ?_ ?_ _ _ ⟨rfl, rfl, fun e he => (List.mem_append.mp he).elim (fun z => (hka e z).2) fun z => (hkb e z).2⟩)
  · rintro ⟨hx, x⟩ rest q s1 ⟨rfl, rfl, sc⟩
    refine wpAny_bind (quiet_of (sc _ List.mem_cons_self) ?_)
    rw [if_neg (by decide)]
    exact wpAny_pure ⟨rfl, rfl, fun e he => sc e (List.mem_cons_of_mem _ he)⟩
  · rintro q s1 ⟨rfl, rfl, _⟩
    refine wpAny_pure ?_
    refine wpAny_bind (wpAny_forIn_list _ (fun rest q s' => s' = s1 ∧ q = (none, ()) ∧ (∀ e ∈ rest, e ∈ es.toList) ∧ ((∀ e ∈ rest, ∀ k, knd.is k e.2 = true → T k = true) → r = true)) _ ?_ ?_ _ _ ⟨rfl, rfl, fun e he => he, fun z => hr.2 fun k hk => ?_⟩)
    · rintro ⟨hx, x⟩ rest q s2 ⟨rfl, rfl, sub, up⟩
      obtain ⟨⟨k, isk, rfl⟩, sc⟩ := hka _ (sub _ List.mem_cons_self)
      refine wpAny_bind (wpAny_holding (wpAny_setFind_of isk sc hb fun i hi => ?_))
      have inS : S k = true := (hma k).2 ⟨_, sub _ List.mem_cons_self, isk⟩
      cases hT : T k with
      | true =>
        rw [hT] at hi
        obtain ⟨j, rfl⟩ := Option.isSome_iff_exists.mp hi
        rw [if_neg (by simp)]
        unfold Builtin.Frozenset.unchanged
        refine wpAny_bind (wpAny_bind (wpAny_setEpoch_of hoa hda hfa ?_))
        rw [if_neg (by simp)]
        refine wpAny_pure (wpAny_pure ⟨rfl, rfl, fun e he => sub e (List.mem_cons_of_mem _ he), fun z => up fun e he => ?_⟩)
        rcases List.mem_cons.mp he with rfl | he
        · intro k' hk'
          obtain rfl := knd.inj _ _ _ hk' isk
          exact hT
        · exact z e he
      | false =>
        rw [hT] at hi
        obtain rfl : i = none := by simpa using hi
        rw [if_pos (show (none : Option Nat).isNone = true from rfl)]
        have rf : r = false := by
          cases r with
          | false => rfl
          | true => exact absurd (hr.1 rfl k inS) (by rw [hT]; decide)
        rw [rf] at h
        exact wpAny_pure (wpAny_pure h)
    · rintro q s2 ⟨rfl, rfl, _, up⟩
      have rt : r = true := up fun e he => nomatch he
      rw [rt] at h
      exact wpAny_pure h
    · obtain ⟨e, he, q⟩ := (hma k).1 hk
      exact z e he k q
end
end EV
/-! set == set. -/
namespace EV
open PySem PySem.Spec PyProof.Rows L2
section
variable {prog : Program} {w : World} {K : Type} [DecidableEq K] [BEq K] [LawfulBEq K] {knd : KeyKind prog w K} {A : Around} {E : Value → Shared → Prop} {s : Shared}
/-- set == set -/
theorem eq_sets {a b : Addr} {S T : K → Bool} {n m : Nat} {r : Bool} {Q : Value → Shared → Prop} (hu : A.units < cLine) (ha : s.heap.SetOf knd a S n) (hb : s.heap.SetOf knd b T m) (hr : r = true ↔ n = m ∧ ∀ k, S k = true → T k = true) (h : Q (.bool r) s) :
    wpAny (model prog w) A (richCompare .Eq (.ref a) (.ref b)) Q E s := by
  refine wpAny_richCompare_same_room (op := .Eq) ha.typeIs hb.typeIs PySem.F.slot_set_eq (wpAny_call_entry PySem.F.slot_set_eq ha.typeIs entry_setEq ?_ (PySem.F.args_set_eq_2 _ _)) hu
  unfold Builtin.«frozenset.__eq__»
  wp_delta
  refine wpAny_bind ?_
  unfold Builtin.Frozenset.slot1 slotArgs
  simp only [List.isEmpty_nil, Bool.not_true, Bool.false_eq_true, ↓reduceIte, bind_assoc, List.length_cons, List.length_nil, bne_self_eq_false]
  refine wpAny_bind (wpAny_pure ?_)
  try dsimp only
  refine wpAny_pure ?_
  try dsimp only
  unfold Builtin.Frozenset.isAnySet
  refine wpAny_bind ?_
  unfold orM
  refine wpAny_bind (wpAny_isInstance (b := true) hb.typeIs PySem.F.sub_set_set ?_)
  refine wpAny_pure ?_
  rw [if_neg (by decide)]
  unfold Builtin.Frozenset.addrOf Builtin.Frozenset.sizeOf
  refine wpAny_bind (wpAny_pure ?_)
  refine wpAny_bind (wpAny_pure ?_)
  obtain ⟨oa, es, ep, ta, hoa, hxa, hda, hka, hma, hba, hfa, rfl⟩ := id ha
  obtain ⟨ob, es', ep', tb, hob, hxb, hdb, hkb, hmb, hbb, hfb, rfl⟩ := id hb
  refine wpAny_bind (wpAny_bind (wpAny_setEntries_of hoa hda hfa (wpAny_pure ?_)))
  refine wpAny_bind (wpAny_bind (wpAny_setEntries_of hob hdb hfb (wpAny_pure ?_)))
  refine wpAny_bind ?_
  by_cases e : es.size = es'.size
  · rw [if_neg (by rw [e]; simp)]
    refine wpAny_bind ?_
    unfold andM
    refine wpAny_bind (wpAny_isInstance (b := false) ha.typeIs PySem.F.sub_set_frozenset ?_)
    refine wpAny_pure ?_
    rw [if_neg (by decide)]
    refine sub_sets (r := r) ha hb (Nat.le_of_eq e) (hr.trans ⟨fun z => z.2, fun z => ⟨e, z⟩⟩) ?_
    exact wpAny_pure ⟨_, rfl, (fun z => nomatch z), h⟩
  · rw [if_pos (by simpa using e)]
    have rf : r = false := by
      cases r with
      | false => rfl
      | true => exact absurd (hr.1 rfl).1 e
    rw [rf] at h
    exact wpAny_pure (wpAny_pure ⟨_, rfl, (fun z => nomatch z), h⟩)
end
end EV
/-! set(t) of a tuple of distinct texts, == of such sets, as rules. -/
namespace EV
open PySem PySem.Spec PyProof.Rows L2
/-- the set of these texts, distinct -/
def SetX (P : Program) (w : World) (a : Addr) (xs : List Str) : HO := .ext fun h => h.SetOf (PySem.strKind P w) a (fun j => decide (j ∈ xs)) xs.length
theorem setX_new {P : Program} {w : World} {H : Hp} {h : Heap} {a : Addr} {xs : List Str} (R : h.SetOf (PySem.strKind P w) a (fun j => decide (j ∈ xs)) xs.length) : ObjOk P w H h a (SetX P w a xs) := by
  have ⟨o, _, _, _, ho, _⟩ := R
  exact ⟨R, ⟨o, ho⟩, fun h1 h2 p k => by
    obtain ⟨o, es, ep, t, ho, r⟩ := p
    exact ⟨o, es, ep, t, k o ho, r⟩⟩
theorem txt_at : ∀ {xs : List Str} {us : List Value}, Vals (xs.map V.str) us → ∀ (i : Nat) (v : Value), us[i]? = some v → ∃ k t, xs[i]? = some k ∧ v = .str k t
  | [], _, .nil, i, v, h => by simp at h
  | x :: xs, _, .cons ⟨t, e⟩ r, 0, v, h => ⟨x, t, rfl, (Option.some.inj h).symm.trans e⟩
  | x :: xs, _, .cons _ r, i + 1, v, h => txt_at r i v h
section
variable {X : Cx}
def rSetX (K : PySem.W.Frag) (P : Program) (w : World) : List V → Hp → VK → Prop := fun vs H Q => ∃ (l : Addr) (xs : List Str), vs = [V.ref l] ∧ SqT K H l (xs.map V.str) ∧ xs.Nodup ∧ xs.length < 4000 ∧ ∀ a, H a = none → Q (.ref a) (upd H a (SetX P w a xs))
theorem cr_setX (hc : X.calm = true) : CallR X (.type "set") (rSetX X.K X.prog X.w) := by
  intro pins s σ H vs us Q I r h
  obtain ⟨l, xs, rfl, hl, nd, few, q⟩ := h
  rw [Vals.ref1 r]
  obtain ⟨its, rv, p, hz⟩ := I.tuple hl
  have hp : s.heap.IsTuple l its.toArray := p
  have len : xs.length = its.length := by
    have z := rv.length
    rwa [List.length_map] at z
  refine call_setOf (knd := PySem.strKind X.prog X.w) (ks := xs) (I.ok.hd hc) hp (by simpa using len) (by simp; omega) nd (fun i v hv => ?_) fun h' tk R k => ?_
  · obtain ⟨k, t, h1, rfl⟩ := txt_at rv i v (by simpa using hv)
    exact ⟨k, h1, strKind_is _ _ _ _, rfl⟩
  · have R2 : h'.SetOf (PySem.strKind X.prog X.w) s.heap.objs.size (fun j => decide (j ∈ xs)) xs.length := by
      have e : its.toArray.size = xs.length := by simpa using len.symm
      rw [← e]
      exact R
    exact ⟨.ref s.heap.objs.size, upd H s.heap.objs.size (SetX X.prog X.w s.heap.objs.size xs), I.laid (t' := tk) (fun b u e => k b u (Heap.lt_size e) e) (Nat.le_refl _) (setX_new R2), rfl, q _ (I.hok.fresh (Nat.le_refl _))⟩
/-- do two lists of distinct texts have the same members -/
def sameMem (xs ys : List Str) : Bool := xs.length == ys.length && xs.all fun x => decide (x ∈ ys)
theorem sameMem_iff {xs ys : List Str} : sameMem xs ys = true ↔ xs.length = ys.length ∧ ∀ x ∈ xs, x ∈ ys := by
  unfold sameMem
  rw [Bool.and_eq_true, beq_iff_eq, List.all_eq_true]
  exact ⟨fun h => ⟨h.1, fun x hx => of_decide_eq_true (h.2 x hx)⟩, fun h => ⟨h.1, fun x hx => decide_eq_true (h.2 x hx)⟩⟩
def rEqX (P : Program) (w : World) : V → V → Hp → VK → Prop := fun x y H Q => ∃ (a b : Addr) (xs ys : List Str), x = .ref a ∧ y = .ref b ∧ H a = some (SetX P w a xs) ∧ H b = some (SetX P w b ys) ∧ Q (.bl (sameMem xs ys)) H
theorem op_eqX (hu : X.A.units < cLine) : OpR X (compareOp .Eq) (rEqX X.prog X.w) := by
  intro pins s σ H x y v u Q I rx ry h
  obtain ⟨a, b, xs, ys, rfl, rfl, ha, hb, q⟩ := h
  obtain rfl : v = Value.ref a := rx
  obtain rfl : u = Value.ref b := ry
  have ra : s.heap.SetOf (PySem.strKind X.prog X.w) a (fun j => decide (j ∈ xs)) xs.length := (I.hok a _ ha).1
  have rb : s.heap.SetOf (PySem.strKind X.prog X.w) b (fun j => decide (j ∈ ys)) ys.length := (I.hok b _ hb).1
  show wpAny (model X.prog X.w) X.A (richCompare .Eq (.ref a) (.ref b)) (EP X pins σ Q) X.xe s
  refine eq_sets (r := sameMem xs ys) hu ra rb (sameMem_iff.trans ?_) ⟨.bl (sameMem xs ys), H, I, rfl, q⟩
  refine ⟨fun h => ⟨h.1, fun k hk => decide_eq_true (h.2 k (of_decide_eq_true hk))⟩, fun h => ⟨h.1, fun x hx => of_decide_eq_true (h.2 x (decide_eq_true hx))⟩⟩
end
end EV
/-! len, in, == and != of instances with methods of their own for them: any answer. -/
namespace EV
open PySem PySem.Spec PyProof.Rows L2
section
variable {X : Cx} {CX : CXT} {n : Nat} {C f : Addr} {fd : FuncData} {ps : List Str} {sp : Sp} {E : XK}
/-- an own function, called by the machine with values that stand for these -/
theorem own_call {A : Around} {pins : List (Addr × Obj)} {σ : L2.St} {H : Hp} {s : Shared} {vs : List V} {us : List Value} {Q : VK} (sb : L2.Sub X n A) (I : Inv X pins σ H s) (F : FnOk X.prog X.w X.K X.mg X.base CX n f fd ps sp) (hb : L2.Binds X.K fd ps []) (hx : Passes CX X E) (r : Vals vs us) (hsp : sp vs H Q E) :
    wpAny (model X.prog X.w) A (call (.ref f) us) (fun v s' => ∃ z H', Inv X pins σ H' s' ∧ RelV z v ∧ Q z H') X.xe s := by
  have e0 : Env0 X.prog X.w X.K X.mg X.base A X.stack s H := by
    have e := I.env0
    exact ⟨by rw [sb.fr]; exact e.frames, e.mod, e.bs, e.bsz, e.funs, e.frf, e.hok, e.bare⟩
  have hl := F.len _ _ _ _ hsp
  have hl2 : us.length = ps.length := r.length.symm.trans hl
  refine wpAny_call (codeAny_mono (F.run A X.stack s H ⟨us, []⟩ us vs _ E sb.room e0 (by
    have z := hb s us I.kIn (by simpa using hl2)
    simpa using z) r hsp) fun r s' hq => ?_)
  cases r with
  | error e => exact hx pins σ H s e s' I hq
  | ok fl =>
    cases fl with
    | ret w =>
      obtain ⟨z, H', I', rz, q⟩ := I.after hq
      exact ⟨z, H', I', rz, q⟩
    | next => exact False.elim hq
    | brk => exact False.elim hq
    | cont => exact False.elim hq
/-- what an own method for a question asks: it answers with a truth value -/
def rOwn (C : Addr) (sp : Sp) (E : XK) (x y : V) (H : Hp) (Q : Bool → Hp → Prop) : Prop := ∃ a dx fs, x = .ref a ∧ H a = some (.ins C dx fs) ∧ sp [.ref a, y] H (fun v H' => ∃ b, v = .bl b ∧ Q b H') E
theorem op_inOwn (F : FnOk X.prog X.w X.K X.mg X.base CX n f fd ps sp) (hs : PySem.W.findIn X.K (.ref C) "__contains__" = some (some (.ref f))) (hf : PySem.W.isFn X.K (.ref f) = true) (hb : L2.Binds X.K fd ps []) (hx : Passes CX X E) (hr : Room n X.A) :
    OpR X (compareOp .In) fun x y H Q => rOwn C sp E y x H fun b H' => Q (.bl b) H' := by
  intro pins s σ H x y v u Q I rx ry h
  obtain ⟨a, dx, fs, rfl, ha, hsp⟩ := h
  obtain rfl : u = Value.ref a := ry
  obtain ⟨mA, J, _⟩ := ins_get I.hok ha
  obtain ⟨od, J, _⟩ := J.look
  obtain ⟨m, hF⟩ := I.fr
  refine PySem.W.in_K hF I.ok.mod.kin J hs hf (wpAny_mono (own_call (Q := fun v H' => ∃ b, v = .bl b ∧ Q (.bl b) H') ⟨hr, rfl⟩ I F hb hx (.cons (show RelV (.ref a) (.ref a) from rfl) (.cons rx .nil)) hsp) (fun w s' z => ?_) fun _ _ e => e)
  obtain ⟨z, H', I', rz, b, rfl, q⟩ := z
  obtain rfl : w = Value.bool b := rz
  exact wpAny_truthy_bool ⟨.bl b, H', I', rfl, q⟩
theorem call_lenOwn (F : FnOk X.prog X.w X.K X.mg X.base CX n f fd ps sp) (hs : PySem.W.findIn X.K (.ref C) "__len__" = some (some (.ref f))) (hf : PySem.W.isFn X.K (.ref f) = true) (hb : L2.Binds X.K fd ps []) (hx : Passes CX X E) (hr : Room (n + 1) X.A) :
    CallR X (.builtin "len") fun vs H Q => ∃ a dx fs, vs = [.ref a] ∧ H a = some (.ins C dx fs) ∧ sp [.ref a] H (fun v H' => ∃ k : Nat, v = .int (k : Int) ∧ k < 1000000 ∧ Q (.int (k : Int)) H') E := by
  intro pins s σ H xs us Q I r h
  obtain ⟨a, dx, fs, rfl, ha, hsp⟩ := h
  obtain ⟨u, rfl, ru⟩ := vals1 r
  obtain rfl : u = Value.ref a := ru
  obtain ⟨mA, J, _⟩ := ins_get I.hok ha
  obtain ⟨od, J, _⟩ := J.look
  obtain ⟨m, hF⟩ := I.fr
  have sb : L2.Sub X (n + 1) X.A := ⟨hr, rfl⟩
  refine PySem.W.len_K hF I.ok.mod.kin J hs hf (wpAny_mono (own_call (Q := fun v H' => ∃ k : Nat, v = .int (k : Int) ∧ k < 1000000 ∧ Q (.int (k : Int)) H') sb.in1 I F hb hx (.cons (show RelV (.ref a) (.ref a) from rfl) .nil) hsp) (fun w s' z => ?_) fun _ _ e => e)
  obtain ⟨z, H', I', rz, k, rfl, lt, q⟩ := z
  obtain ⟨t, rfl⟩ := rz
  exact ⟨⟨by omega, by omega⟩, .int (k : Int), H', I'.tok _, ⟨_, rfl⟩, q⟩
/-- ==, the left one an instance whose class has a method of its own for it; the other one of a class that does not come first -/
theorem op_eqOwn (F : FnOk X.prog X.w X.K X.mg X.base CX n f fd ps sp) (hs : PySem.W.findIn X.K (.ref C) "__eq__" = some (some (.ref f))) (hf : PySem.W.isFn X.K (.ref f) = true) (hb : L2.Binds X.K fd ps []) (hx : Passes CX X E) (hr : Room n X.A) :
    OpR X (compareOp .Eq) fun x y H Q => ∃ t, TyX X.K H y t ∧ PySem.W.notFirst X.K C t = true ∧ rOwn C sp E x y H fun b H' => Q (.bl b) H' := by
  intro pins s σ H x y v u Q I rx ry h
  obtain ⟨t, ty, nf, a, dx, fs, rfl, ha, hsp⟩ := h
  obtain rfl : v = Value.ref a := rx
  obtain ⟨mA, J, _⟩ := ins_get I.hok ha
  obtain ⟨od, J, _⟩ := J.look
  obtain ⟨m, hF⟩ := I.fr
  obtain ⟨P, Z, hP, _⟩ := kit_of I ry ty
  show wpAny (model X.prog X.w) X.A (richCompare .Eq (.ref a) u) (EP X pins σ Q) X.xe s
  refine PySem.W.cmp_K (op := .Eq) (tb := t) hr.units0 hF I.ok.mod.kin J (Z.ty _ _ I.kIn hP) nf hs hf (wpAny_mono (own_call (Q := fun v H' => ∃ b, v = .bl b ∧ Q (.bl b) H') ⟨hr, rfl⟩ I F hb hx (.cons (show RelV (.ref a) (.ref a) from rfl) (.cons ry .nil)) hsp) (fun w s' z => ?_) fun _ _ e => e)
  obtain ⟨z, H', I', rz, b, rfl, q⟩ := z
  obtain rfl : w = Value.bool b := rz
  exact ⟨.bl b, H', I', rfl, q⟩
end
end EV
/-! != of instances by object.__ne__ and an own __eq__; of things of built-in types and an instance. -/
namespace EV
open PySem PySem.Spec PyProof.Rows L2
open AutoSeq1 (wpAny_loadPart')
section
variable {M : Model} {prog : Program} {w : World} {A : Around} {E : Value → Shared → Prop} {s : Shared} {K : PySem.W.Frag} {x C dx : Addr} {od : Option Obj}
theorem not_inst {T : String} {Q : Bool → Shared → Prop} (X : K.In s.heap) (at0 : s.heap.get? x = some (PySem.W.instObj C dx)) (e : PySem.W.subIn K (.ref C) (.type T) = some false) (h : Q false s) : wpAny M A (isInstance (.ref x) (.type T)) Q E s := by
  unfold isInstance
  exact wpAny_bind (wpAny_typeOf_ref at0 ((PySem.W.looks_subIn X e).here h))
theorem no_str {Q : Option Str → Shared → Prop} (at0 : s.heap.get? x = some (PySem.W.instObj C dx)) (h : Q none s) : wpAny M A (asStr? (.ref x)) Q E s := by
  unfold asStr?
  exact wpAny_bind (wpAny_load at0 (wpAny_pure h))
theorem no_int {Q : Option Int → Shared → Prop} (at0 : s.heap.get? x = some (PySem.W.instObj C dx)) (h : Q none s) : wpAny M A (asInt? (.ref x)) Q E s := by
  unfold asInt?
  exact wpAny_bind (wpAny_load at0 (wpAny_pure h))
theorem ne_none {Q : Value → Shared → Prop} (h : Q .notImplemented s) : wpAny (model prog w) A (call (.builtin "NoneType.__ne__") [.none, .ref x]) Q E s :=
  call_gives F.slot_NoneType_ne rfl F.entry_NoneType_ne (F.args_NoneType_ne_2 _ _) (PySem.SeqAt.NoneType___ne___none_ref_0 x) h
theorem ne_int {i : Int} {t : Tok} {Q : Value → Shared → Prop} (at0 : s.heap.get? x = some (PySem.W.instObj C dx)) (h : Q .notImplemented s) : wpAny (model prog w) A (call (.builtin "int.__ne__") [.int i t, .ref x]) Q E s := by
  refine wpAny_call_entry F.slot_int_ne (show s.TypeIs (.int i t) "int" from typeIs_int s i t) F.entry_int_ne ?_ (F.args_int_ne_2 _ _)
  obtain ⟨hp, g, d, tk, os⟩ := s
  wp_walk using wpAny_load at0
  exact ⟨_, rfl, h⟩
theorem ne_str {y : Str} {t : Tok} {Q : Value → Shared → Prop} (at0 : s.heap.get? x = some (PySem.W.instObj C dx)) (h : Q .notImplemented s) : wpAny (model prog w) A (call (.builtin "str.__ne__") [.str y t, .ref x]) Q E s := by
  refine wpAny_call_entry F.slot_str_ne (show s.TypeIs (.str y t) "str" from typeIs_str s y t) F.entry_str_ne ?_ (F.args_str_ne_2 _ _)
  obtain ⟨hp, g, d, tk, os⟩ := s
  wp_walk using wpAny_load at0
  exact ⟨_, rfl, h⟩
theorem ne_list {l : Addr} {Q : Value → Shared → Prop} (X : K.In s.heap) (at0 : s.heap.get? x = some (PySem.W.instObj C dx)) (e : PySem.W.subIn K (.ref C) (.type "list") = some false) (hl : s.TypeIs (.ref l) "list") (h : Q .notImplemented s) :
    wpAny (model prog w) A (call (.builtin "list.__ne__") [.ref l, .ref x]) Q E s := by
  refine wpAny_call_entry F.slot_list_ne hl F.entry_list_ne ?_ (F.args_list_ne_2 _ _)
  wp_walk using not_inst X at0 e
  exact ⟨_, rfl, h⟩
theorem ne_tuple {l : Addr} {Q : Value → Shared → Prop} (X : K.In s.heap) (at0 : s.heap.get? x = some (PySem.W.instObj C dx)) (e : PySem.W.subIn K (.ref C) (.type "tuple") = some false) (hl : s.TypeIs (.ref l) "tuple") (h : Q .notImplemented s) :
    wpAny (model prog w) A (call (.builtin "tuple.__ne__") [.ref l, .ref x]) Q E s := by
  refine wpAny_call_entry F.slot_tuple_ne hl F.entry_tuple_ne ?_ (F.args_tuple_ne_2 _ _)
  wp_walk using not_inst X at0 e
  exact ⟨_, rfl, h⟩
theorem ne_dict {l : Addr} {Q : Value → Shared → Prop} (X : K.In s.heap) (at0 : s.heap.get? x = some (PySem.W.instObj C dx)) (e : PySem.W.subIn K (.ref C) (.type "dict") = some false) (hl : s.TypeIs (.ref l) "dict") (h : Q .notImplemented s) :
    wpAny (model prog w) A (call (.builtin "dict.__ne__") [.ref l, .ref x]) Q E s := by
  refine wpAny_call_entry F.slot_dict_ne hl F.entry_dict_ne ?_ (F.args_dict_ne_2 _ _)
  show wpAny _ _ (Builtin.Dict.dictSlotArgs "__ne__" ⟨[.ref l, .ref x], []⟩ >>= _) _ _ s
  refine wpAny_bind ?_
  unfold Builtin.Dict.dictSlotArgs
  refine wpAny_bind (wpAny_notOrdered_dict hl ?_)
  show wpAny _ _ (pure (Value.ref l, Value.ref x)) _ _ s
  refine wpAny_pure ?_
  refine wpAny_bind (not_inst X at0 e ?_)
  rw [if_pos (by decide)]
  exact wpAny_bind (wpAny_rule (wpAny_pure ⟨_, rfl, h⟩))
/-- object.__ne__ of an instance asks its own __eq__ -/
theorem call_objNe {f : Addr} {b : Value} {ox : Obj} {Q : Value → Shared → Prop} (hu : A.units + 1 < cLine) (X : K.In s.heap) (I : PySem.W.InstAt s.heap x ox C od) (hm : PySem.W.mroIn K C (.type "object") = some true) (hs : PySem.W.findIn K (.ref C) "__eq__" = some (some (.ref f))) (hf : PySem.W.isFn K (.ref f) = true)
    (h : wpAny (model prog w) A.in1 (call (.ref f) [.ref x, b]) (fun v s' => ∃ r, v = .bool r ∧ Q (.bool (!r)) s') E s) : wpAny (model prog w) A (call (.builtin "object.__ne__") [.ref x, b]) Q E s := by
  refine wpAny_call (codeAny_call_builtin F.cmp_object.ne.plain F.cmpEntry_ne (PySem.W.check_slot F.cmpKind_ne F.cmpSplit_ne (I.type.andThen (PySem.W.looks_mroIn X hm)) (F.cmpArgs_ne _ _) ?_))
  unfold Builtin.«object.__ne__»
  refine wpAny_bind (m := slotArgs "__ne__" 1 ⟨[.ref x, b], []⟩) (wpAny_pure ?_)
  dsimp only
  refine wpAny_bind (wpAny_cRoomFor hu ?_)
  refine wpAny_bind (PySem.W.ifBound_K X I hs hf (wpAny_mono h (fun v s' hv => ?_) fun _ _ e => e))
  obtain ⟨r, rfl, q⟩ := hv
  show wpAny _ _ (truthy (Value.bool r) >>= _) _ _ _
  refine wpAny_bind (wpAny_truthy_bool ?_)
  exact wpAny_pure q
theorem bound_ne {args : List Value} {ox : Obj} {Q : Option Value → Shared → Prop} (X : K.In s.heap) (I : PySem.W.InstAt s.heap x ox C od) (hs : PySem.W.findIn K (.ref C) "__ne__" = some (some (.builtin "object.__ne__")))
    (h : wpAny M A (call (.builtin "object.__ne__") (.ref x :: args)) (fun v => Q (some v)) E s) : wpAny M A (callSpecialIfBound? (.ref x) "__ne__" args) Q E s := by
  simp only [callSpecialIfBound?, bindSpecialIfBound?]
  refine wpAny_holding (wpAny_bind (wpAny_bind (wpAny_bind (I.type.here ((PySem.W.looks_findIn X hs).here ?_)))))
  have last : wpAny M A (call (.builtin "object.__ne__") ([.ref x] ++ args) >>= fun v => pure (some v)) Q E s := wpAny_bind (wpAny_mono h (fun v s' q => wpAny_pure q) fun _ _ q => q)
  refine wpAny_bind (wpAny_askSetting (wpAny_ite ?_))
  split
  · exact wpAny_bind (wpAny_of_eq (F.cmp_object.ne.bind _) (wpAny_pure (by exact last)))
  · exact wpAny_tryCatch (wpAny_bind (wpAny_of_eq (F.cmp_object.ne.bind _) (wpAny_pure (by exact last))))
/-- x.__ne__(b), x an instance -/
theorem try_ne {f : Addr} {b : Value} {ox : Obj} {Q : Value → Shared → Prop} (hu : A.units + 1 < cLine) (X : K.In s.heap) (I : PySem.W.InstAt s.heap x ox C od) (hm : PySem.W.mroIn K C (.type "object") = some true) (hs : PySem.W.findIn K (.ref C) "__eq__" = some (some (.ref f))) (hf : PySem.W.isFn K (.ref f) = true) (hn : PySem.W.findIn K (.ref C) "__ne__" = some (some (.builtin "object.__ne__")))
    (h : wpAny (model prog w) A.in1 (call (.ref f) [.ref x, b]) (fun v s' => ∃ r, v = .bool r ∧ Q (.bool (!r)) s') E s) : wpAny (model prog w) A (tryCompare (.ref x) "__ne__" b) (fun r s' => ∃ v, r = some v ∧ Q v s') E s := by
  unfold tryCompare
  refine wpAny_bind (bound_ne X I hn (call_objNe hu X I hm hs hf (wpAny_mono h (fun v s' hv => ?_) fun _ _ e => e)))
  obtain ⟨r, rfl, q⟩ := hv
  exact ⟨r, rfl, wpAny_pure ⟨_, rfl, q⟩⟩
/-- x != b, x an instance -/
theorem rc_neL {f : Addr} {b tb : Value} {ox : Obj} {Q : Value → Shared → Prop} (hu : A.units + 1 < cLine) (X : K.In s.heap) (I : PySem.W.InstAt s.heap x ox C od) (hb : PySem.W.Looks (model prog w) s.heap (typeOf b) tb) (nf : PySem.W.notFirst K C tb = true) (hm : PySem.W.mroIn K C (.type "object") = some true) (hs : PySem.W.findIn K (.ref C) "__eq__" = some (some (.ref f))) (hf : PySem.W.isFn K (.ref f) = true) (hn : PySem.W.findIn K (.ref C) "__ne__" = some (some (.builtin "object.__ne__")))
    (h : wpAny (model prog w) A.in1 (call (.ref f) [.ref x, b]) (fun v s' => ∃ r, v = .bool r ∧ Q (.bool (!r)) s') E s) : wpAny (model prog w) A (richCompare .NotEq (.ref x) b) Q E s := by
  have one := try_ne hu X I hm hs hf hn h
  unfold richCompare
  simp only [oneThing_ref]
  refine wpAny_holding (wpAny_bind (wpAny_cRoomFor (Nat.lt_of_succ_lt hu) ?_))
  rw [cmpInfo_NotEq]
  dsimp only
  refine wpAny_bind (I.type.here (wpAny_bind (hb.here ?_)))
  split
  · rename_i q
    have e : PySem.W.subIn K tb (.ref C) = some false := by
      rcases Bool.or_eq_true_iff.mp nf with e | e
      · rw [beq_iff_eq.mp e] at q
        simp at q
      · exact beq_iff_eq.mp e
    refine wpAny_bind ((PySem.W.looks_subIn X e).here ?_)
    simp only [Bool.false_eq_true, if_false]
    refine wpAny_bind (wpAny_mono one (fun r s' z => ?_) fun _ _ e => e)
    obtain ⟨v, rfl, hq⟩ := z
    exact wpAny_pure hq
  · refine wpAny_bind (wpAny_pure ?_)
    simp only [Bool.false_eq_true, if_false]
    refine wpAny_bind (wpAny_mono one (fun r s' z => ?_) fun _ _ e => e)
    obtain ⟨v, rfl, hq⟩ := z
    exact wpAny_pure hq
/-- a != x, a of a built-in type whose __ne__ declines -/
theorem rc_neR {f : Addr} {a : Value} {T id : String} {ox : Obj} {Q : Value → Shared → Prop} (hu : A.units + 1 < cLine) (X : K.In s.heap) (I : PySem.W.InstAt s.heap x ox C od) (ha : s.TypeIs a T) (one : oneThing? .NotEq a (.ref x) = none) (ns : PySem.W.subIn K (.ref C) (.type T) = some false) (sl : Slot T "__ne__" id) (dec : ∀ (Q : Value → Shared → Prop), Q .notImplemented s → wpAny (model prog w) A (call (.builtin id) [a, .ref x]) Q E s)
    (hm : PySem.W.mroIn K C (.type "object") = some true) (hs : PySem.W.findIn K (.ref C) "__eq__" = some (some (.ref f))) (hf : PySem.W.isFn K (.ref f) = true) (hn : PySem.W.findIn K (.ref C) "__ne__" = some (some (.builtin "object.__ne__")))
    (h : wpAny (model prog w) A.in1 (call (.ref f) [.ref x, a]) (fun v s' => ∃ r, v = .bool r ∧ Q (.bool (!r)) s') E s) : wpAny (model prog w) A (richCompare .NotEq a (.ref x)) Q E s := by
  have two := try_ne hu X I hm hs hf hn h
  unfold richCompare
  simp only [one]
  refine wpAny_holding (wpAny_bind (wpAny_cRoomFor (Nat.lt_of_succ_lt hu) ?_))
  rw [cmpInfo_NotEq]
  dsimp only
  refine wpAny_bind (wpAny_typeOf ha (wpAny_bind (I.type.here ?_)))
  have rest : wpAny (model prog w) A (do
      if let some v ← tryCompare a "__ne__" (.ref x) then return v
      if let some v ← tryCompare (.ref x) "__ne__" a then return v
      rule "compare.ne-identity"; return .bool (!(← isSame a (.ref x)))) Q E s := by
    refine wpAny_bind (wpAny_tryCompare_declines ha sl (dec _ ⟨rfl, ?_⟩))
    refine wpAny_bind (wpAny_mono two (fun r s' z => ?_) fun _ _ e => e)
    obtain ⟨v, rfl, hq⟩ := z
    exact wpAny_pure hq
  split
  · refine wpAny_bind ((PySem.W.looks_subIn X ns).here ?_)
    simp only [Bool.false_eq_true, if_false, Bool.not_false, if_true]
    exact rest
  · refine wpAny_bind (wpAny_pure ?_)
    simp only [Bool.false_eq_true, if_false, Bool.not_false, if_true]
    exact rest
end
end EV
/-! != of an instance with an own __eq__ and any other thing, as a rule. -/
namespace EV
open PySem PySem.Spec PyProof.Rows L2
def oddTypes : List String := ["NoneType", "int", "str", "list", "tuple", "dict"]
structure NeTxt (K : PySem.W.Frag) (C f : Addr) : Prop where
  eq : PySem.W.findIn K (.ref C) "__eq__" = some (some (.ref f))
  fn : PySem.W.isFn K (.ref f) = true
  ne : PySem.W.findIn K (.ref C) "__ne__" = some (some (.builtin "object.__ne__"))
  obj : PySem.W.mroIn K C (.type "object") = some true
  sub : ∀ T ∈ oddTypes, PySem.W.subIn K (.ref C) (.type T) = some false
/-- things of built-in types, as left ones -/
inductive OddL (K : PySem.W.Frag) (H : Hp) : V → Prop
  | non : OddL K H .non
  | int (i : Int) : OddL K H (.int i)
  | str (z : Str) : OddL K H (.str z)
  | lst {a : Addr} {xs : List V} (h : SqL K H a xs) : OddL K H (.ref a)
  | tup {a : Addr} {xs : List V} (h : SqT K H a xs) : OddL K H (.ref a)
  | dct {a : Addr} {kvs : List (Key × V)} (h : H a = some (.dK kvs)) : OddL K H (.ref a)
section
variable {X : Cx} {CX : CXT} {n : Nat} {C f : Addr} {fd : FuncData} {ps : List Str} {sp : Sp} {E : XK}
def rNeL (K : PySem.W.Frag) (C : Addr) (sp : Sp) (E : XK) (x y : V) (H : Hp) (Q : VK) : Prop := ∃ a dx fs t, x = .ref a ∧ H a = some (.ins C dx fs) ∧ TyX K H y t ∧ PySem.W.notFirst K C t = true ∧ sp [.ref a, y] H (fun v H' => ∃ b, v = .bl b ∧ Q (.bl !b) H') E
def rNeR (K : PySem.W.Frag) (C : Addr) (sp : Sp) (E : XK) (x y : V) (H : Hp) (Q : VK) : Prop := ∃ a dx fs, y = .ref a ∧ H a = some (.ins C dx fs) ∧ OddL K H x ∧ sp [.ref a, x] H (fun v H' => ∃ b, v = .bl b ∧ Q (.bl !b) H') E
theorem op_neOwn (F : FnOk X.prog X.w X.K X.mg X.base CX n f fd ps sp) (T : NeTxt X.K C f) (hb : L2.Binds X.K fd ps []) (hx : Passes CX X E) (hr : Room (n + 1) X.A) :
    OpR X (compareOp .NotEq) fun x y H Q => rNeL X.K C sp E x y H Q ∨ rNeR X.K C sp E x y H Q := by
  intro pins s σ H x y v u Q I rx ry h
  have sb : L2.Sub X (n + 1) X.A := ⟨hr, rfl⟩
  have hu : X.A.units + 1 < cLine := hu_of hr
  show wpAny (model X.prog X.w) X.A (richCompare .NotEq v u) (EP X pins σ Q) X.xe s
  rcases h with ⟨a, dx, fs, t, rfl, ha, ty, nf, hsp⟩ | ⟨a, dx, fs, rfl, ha, odd, hsp⟩
  · obtain rfl : v = Value.ref a := rx
    obtain ⟨mA, J, _⟩ := ins_get I.hok ha
    obtain ⟨od, J, _⟩ := J.look
    obtain ⟨P, Z, hP, _⟩ := kit_of I ry ty
    refine rc_neL hu I.kIn J (Z.ty _ _ I.kIn hP) nf T.obj T.eq T.fn T.ne (wpAny_mono (own_call (Q := fun v H' => ∃ b, v = .bl b ∧ Q (.bl !b) H') sb.in1 I F hb hx (.cons (show RelV (.ref a) (.ref a) from rfl) (.cons ry .nil)) hsp) (fun w s' z => ?_) fun _ _ e => e)
    obtain ⟨z, H', I', rz, b, rfl, q⟩ := z
    obtain rfl : w = Value.bool b := rz
    exact ⟨b, rfl, .bl !b, H', I', rfl, q⟩
  · obtain rfl : u = Value.ref a := ry
    obtain ⟨mA, J0, _⟩ := ins_get I.hok ha
    have at0 := J0.obj
    obtain ⟨od, J, _⟩ := J0.look
    have inner : ∀ {w : Value}, RelV x w → wpAny (model X.prog X.w) X.A.in1 (call (.ref f) [.ref a, w]) (fun v s' => ∃ r, v = .bool r ∧ EP X pins σ Q (.bool (!r)) s') X.xe s := fun rw' => by
      refine wpAny_mono (own_call (Q := fun v H' => ∃ b, v = .bl b ∧ Q (.bl !b) H') sb.in1 I F hb hx (.cons (show RelV (.ref a) (.ref a) from rfl) (.cons rw' .nil)) hsp) (fun w s' z => ?_) fun _ _ e => e
      obtain ⟨z, H', I', rz, b, rfl, q⟩ := z
      obtain rfl : w = Value.bool b := rz
      exact ⟨b, rfl, .bl !b, H', I', rfl, q⟩
    have sub : ∀ T' ∈ oddTypes, PySem.W.subIn X.K (.ref C) (.type T') = some false := T.sub
    cases odd with
    | non =>
      obtain rfl : v = Value.none := rx
      exact rc_neR hu I.kIn J rfl rfl (sub "NoneType" (by decide)) PySem.F.slot_NoneType_ne (fun Q q => ne_none q) T.obj T.eq T.fn T.ne (inner rfl)
    | int i =>
      obtain ⟨t, rfl⟩ := rx
      exact rc_neR hu I.kIn J (typeIs_int s i t) rfl (sub "int" (by decide)) PySem.F.slot_int_ne (fun Q q => ne_int at0 q) T.obj T.eq T.fn T.ne (inner ⟨t, rfl⟩)
    | str z =>
      obtain ⟨t, rfl⟩ := rx
      exact rc_neR hu I.kIn J (typeIs_str s z t) rfl (sub "str" (by decide)) PySem.F.slot_str_ne (fun Q q => ne_str at0 q) T.obj T.eq T.fn T.ne (inner ⟨t, rfl⟩)
    | @lst l xs hl =>
      obtain rfl : v = Value.ref l := rx
      obtain ⟨its, _, p, _⟩ := I.list hl
      have tl : s.TypeIs (.ref l) "list" := p.isList.elim fun o q => ⟨o, q.1, q.2.1⟩
      exact rc_neR hu I.kIn J tl rfl (sub "list" (by decide)) PySem.F.slot_list_ne (fun Q q => ne_list I.kIn at0 (sub "list" (by decide)) tl q) T.obj T.eq T.fn T.ne (inner rfl)
    | @tup l xs hl =>
      obtain rfl : v = Value.ref l := rx
      obtain ⟨its, _, p, _⟩ := I.tuple hl
      have hp : s.heap.IsTuple l its.toArray := p
      have tl : s.TypeIs (.ref l) "tuple" := hp.elim fun o q => ⟨o, q.1, q.2.1⟩
      exact rc_neR hu I.kIn J tl rfl (sub "tuple" (by decide)) PySem.F.slot_tuple_ne (fun Q q => ne_tuple I.kIn at0 (sub "tuple" (by decide)) tl q) T.obj T.eq T.fn T.ne (inner rfl)
    | @dct l kvs hl =>
      obtain rfl : v = Value.ref l := rx
      obtain ⟨_, hd, vs, rel, dd⟩ := dk_of I.hok hl
      have tl : s.TypeIs (.ref l) "dict" := dd.typeIs
      exact rc_neR hu I.kIn J tl rfl (sub "dict" (by decide)) PySem.F.slot_dict_ne (fun Q q => ne_dict I.kIn at0 (sub "dict" (by decide)) tl q) T.obj T.eq T.fn T.ne (inner rfl)
end
end EV
namespace K6
open PySem PySem.Spec PyProof.Rows L2 LamX NdefX EV
/-! ### rows as literals of distinct names -/
theorem lit_inj {p q : Bool × Str} (hp : Name1 p.2) (hq : Name1 q.2) (e : lit p = lit q) : p = q := by
  obtain ⟨a, m⟩ := p
  obtain ⟨b, n⟩ := q
  unfold lit at e
  cases a <;> cases b <;> simp at e
  · rw [e]
  · exact (name_neg hp e).elim
  · exact (name_neg hq e.symm).elim
  · rw [neg_inj e]
def pairs (ns : List Str) : List (Bool × Str) := ns.flatMap fun n => [(false, n), (true, n)]
theorem pairs_lit : ∀ ns : List Str, (pairs ns).map lit = lits ns
  | [] => rfl
  | n :: r => by
    show lit (false, n) :: lit (true, n) :: (pairs r).map lit = n :: neg n :: lits r
    rw [pairs_lit r]
    rfl
theorem pairs_mem {ns : List Str} {q : Bool × Str} : q ∈ pairs ns ↔ q.2 ∈ ns := by
  unfold pairs
  rw [List.mem_flatMap]
  constructor
  · rintro ⟨n, hn, h⟩
    rcases List.mem_cons.mp h with h | h
    · rw [h]; exact hn
    · rw [List.mem_singleton.mp h]; exact hn
  · intro h
    refine ⟨q.2, h, ?_⟩
    obtain ⟨b, n⟩ := q
    cases b <;> simp
theorem pairs_nodup : ∀ (ns : List Str) (p : Bool × Str → Bool), ns.Nodup → (∀ n ∈ ns, ¬ (p (false, n) = true ∧ p (true, n) = true)) → (((pairs ns).filter p).map Prod.snd).Nodup
  | [], _, _, _ => List.nodup_nil
  | n :: r, p, nd, one => by
    obtain ⟨n1, n2⟩ := List.nodup_cons.mp nd
    have ih := pairs_nodup r p n2 fun m hm => one m (List.mem_cons_of_mem _ hm)
    have fresh : n ∉ ((pairs r).filter p).map Prod.snd := fun q => by
      obtain ⟨z, hz, e⟩ := List.mem_map.mp q
      have z2 := pairs_mem.mp (List.mem_filter.mp hz).1
      rw [e] at z2
      exact n1 z2
    have o := one n List.mem_cons_self
    show ((((false, n) :: (true, n) :: pairs r).filter p).map Prod.snd).Nodup
    cases h1 : p (false, n) with
    | true =>
      have h2 : p (true, n) = false := by
        cases h2 : p (true, n) with
        | false => rfl
        | true => exact absurd ⟨h1, h2⟩ o
      rw [List.filter_cons_of_pos h1, List.filter_cons_of_neg (by rw [h2]; decide), List.map_cons]
      exact List.nodup_cons.mpr ⟨fresh, ih⟩
    | false =>
      rw [List.filter_cons_of_neg (by rw [h1]; decide)]
      cases h2 : p (true, n) with
      | true =>
        rw [List.filter_cons_of_pos h2, List.map_cons]
        exact List.nodup_cons.mpr ⟨fresh, ih⟩
      | false =>
        rw [List.filter_cons_of_neg (by rw [h2]; decide)]
        exact ih
/-- a row is a clause again -/
theorem RowOf.lits {ns r : List Str} (nd : ns.Nodup) (good : ∀ z ∈ ns, Name1 z) (h : RowOf ns r) : ∃ qs, Lits ns qs ∧ r = qs.map lit := by
  obtain ⟨qs, hq, rfl⟩ := h
  refine ⟨(pairs ns).filter fun q => decide (lit q ∈ qs.map lit), ⟨pairs_nodup ns _ nd ?_, fun q h => pairs_mem.mp (List.mem_filter.mp h).1⟩, ?_⟩
  · rintro n hn ⟨h1, h2⟩
    obtain ⟨p, hp, e1⟩ := List.mem_map.mp (of_decide_eq_true h1)
    obtain ⟨q, hq', e2⟩ := List.mem_map.mp (of_decide_eq_true h2)
    have p1 := lit_inj (good _ (hq.sub p hp)) (good n hn) e1
    have q1 := lit_inj (good _ (hq.sub q hq')) (good n hn) e2
    subst p1 q1
    have same : ∀ {qs : List (Bool × Str)} {p q : Bool × Str}, (qs.map Prod.snd).Nodup → p ∈ qs → q ∈ qs → p.2 = q.2 → p = q := fun {qs} => by
      induction qs with
      | nil => intro p q _ h; cases h
      | cons z r ih =>
        intro p q nd hp hq e
        rw [List.map_cons] at nd
        obtain ⟨m1, m2⟩ := List.nodup_cons.mp nd
        rcases List.mem_cons.mp hp with h1 | h1
        · rcases List.mem_cons.mp hq with h2 | h2
          · exact h1.trans h2.symm
          · exact absurd (h1 ▸ e ▸ List.mem_map_of_mem h2 : z.2 ∈ r.map Prod.snd) m1
        · rcases List.mem_cons.mp hq with h2 | h2
          · exact absurd (h2 ▸ e ▸ List.mem_map_of_mem h1 : z.2 ∈ r.map Prod.snd) m1
          · exact ih m2 h1 h2 e
    have z := same hq.nd hp hq' rfl
    cases z
  · unfold asc
    rw [← pairs_lit, List.filter_map]
    rfl
theorem Lits.names {ns ns' : List Str} {qs : List (Bool × Str)} (h : Lits ns qs) (sub : ∀ z ∈ ns, z ∈ ns') : Lits ns' qs := ⟨h.nd, fun q hq => sub _ (h.sub q hq)⟩
theorem lits_mem {ns : List Str} {l : Str} : l ∈ lits ns ↔ ∃ n ∈ ns, l = n ∨ l = neg n := by
  unfold lits
  rw [List.mem_flatMap]
  constructor
  · rintro ⟨n, hn, h⟩
    rcases List.mem_cons.mp h with h | h
    · exact ⟨n, hn, .inl h⟩
    · exact ⟨n, hn, .inr (List.mem_singleton.mp h)⟩
  · rintro ⟨n, hn, h | h⟩
    · exact ⟨n, hn, by rw [h]; exact List.mem_cons_self⟩
    · exact ⟨n, hn, by rw [h]; exact List.mem_cons_of_mem _ (List.mem_singleton.mpr rfl)⟩
theorem asc_congr {ns a b : List Str} (h : ∀ l, l ∈ a ↔ l ∈ b) : asc ns a = asc ns b := by
  unfold asc
  refine List.filter_congr fun l _ => ?_
  exact decide_eq_decide.mpr (h l)
theorem asc_asc {ns ls : List Str} : asc ns (asc ns ls) = asc ns ls := by
  unfold asc
  refine List.filter_congr fun l hl => ?_
  exact decide_eq_decide.mpr ⟨fun h => of_decide_eq_true (List.mem_filter.mp h).2, fun h => List.mem_filter.mpr ⟨hl, decide_eq_true h⟩⟩
end K6
namespace K6
open PySem PySem.Spec PyProof.Rows L2 LamX NdefX EV
theorem CodeR.same {K : PySem.W.Frag} {C : Addr} {H H' : Hp} {x r : Addr} {sg hp : List Str} {rs : List (List Str)} (c : CodeR K C H x sg hp rs r) (sm : Same H H') : CodeR K C H' x sg hp rs r := by
  obtain ⟨dx, a, b, pl, h1, h2, h3, h4, h5⟩ := c.at_
  exact ⟨dx, a, b, pl, sm _ _ h1, fun H2 s2 => h2 H2 (sm.trans s2), fun H2 s2 => h3 H2 (sm.trans s2), sm _ _ h4, sm _ _ h5⟩
theorem CodeAt.same {K : PySem.W.Frag} {C : Addr} {H H' : Hp} {x : Addr} {sg hp : List Str} {rs : List (List Str)} (c : CodeAt K C H x sg hp rs) (sm : Same H H') : CodeAt K C H' x sg hp rs := by
  obtain ⟨dx, a, b, pl, r, h1, h2, h3, h4, h5⟩ := c.at_
  exact ⟨dx, a, b, pl, r, sm _ _ h1, fun H2 s2 => h2 H2 (sm.trans s2), fun H2 s2 => h3 H2 (sm.trans s2), sm _ _ h4, sm _ _ h5⟩
/-- a tuple stands while a dict elsewhere is locked -/
theorem sqT_off {K : PySem.W.Frag} {H H' : Hp} {a d : Addr} {xs : List V} {ws : List (List Key × V)} (h : SqT K H a xs) (hd : H d = some (.dT ws)) (g : Grow d H H') : SqT K H' a xs := by
  rcases h with h | h
  · refine .inl ?_
    rcases h with h | ⟨o, h⟩
    · exact .inl (g _ _ (fun e => by rw [e, hd] at h; cases h) h)
    · exact .inr ⟨o, g _ _ (fun e => by rw [e, hd] at h; cases h) h⟩
  · exact .inr h
theorem CodeR.off {K : PySem.W.Frag} {C : Addr} {H H' : Hp} {x r d : Addr} {sg hp : List Str} {rs : List (List Str)} {ws : List (List Key × V)} (c : CodeR K C H x sg hp rs r) (hd : H d = some (.dT ws)) (ne : r ≠ d) (g : Grow d H H') : CodeR K C H' x sg hp rs r := by
  obtain ⟨dx, a, b, pl, h1, h2, h3, h4, h5⟩ := c.at_
  refine ⟨dx, a, b, pl, g _ _ (fun e => by rw [e, hd] at h1; cases h1) h1, fun H2 s2 => ?_, fun H2 s2 => ?_, g _ _ (fun e => by rw [e, hd] at h4; cases h4) h4, g _ _ ne h5⟩
  · exact (sqT_off (h2 H (Same.refl H)) hd g).ext s2
  · exact (sqT_off (h3 H (Same.refl H)) hd g).ext s2
def spSame2 (K : PySem.W.Frag) (C : Addr) : Sp := fun vs H Q _ => ∃ (x y : Addr) (sg hp sg' hp' : List Str) (rs rs' : List (List Str)), vs = [.ref x, .ref y] ∧ CodeAt K C H x sg hp rs ∧ CodeAt K C H y sg' hp' rs' ∧ (sg ++ hp).length ≤ 60 ∧ (sg' ++ hp').length ≤ 60 ∧ (sg ++ hp).Nodup ∧ (sg' ++ hp').Nodup ∧
  ∀ H', Same H H' → Q (.bl (sameMem sg sg' && sameMem hp hp')) H'
section
variable {P : Program} {w : World} {K : PySem.W.Frag} {mg : Str → Option Value} {base : Heap} {f C : Addr} {fd : FuncData}
theorem scSame2 : FnScope ["one", "other"] ["one", "other"] (defScope sSameNames) := ⟨rfl, rfl, rfl, by decide +kernel, rfl, by decide +kernel, by decide +kernel⟩
theorem ok_same2 (F : Fun K "have_same_names" "have_same_names" sSameNames f fd) (T : CTxt K mg C) (ms : mg "set" = none) : FnOk P w K mg base CX0 1 f fd ["one", "other"] (spSame2 K C) := by
  refine F.ok scSame2 (fun vs H Q E h => ?_) (fun cdv A' outer s H vs Q E hr h => ?_)
  · obtain ⟨x, y, sg, hp, sg', hp', rs, rs', rfl, _⟩ := h
    rfl
  · obtain ⟨x, y, sg, hp, sg', hp', rs, rs', rfl, cx, cy, n1, n2, d1, d2, k⟩ := h
    have hu := Nat.lt_of_succ_lt (hu_of hr)
    refine ⟨_, pss_one (ps_ret (pe_and (pe_cmpR (op_eqX hu) (pe_callTy (cr_setX rfl) (by rfl) ms (by decide +kernel) (pa_cons (pe_fld (pv 0) rfl) pa_nil)) (pe_callTy (cr_setX rfl) (by rfl) ms (by decide +kernel) (pa_cons (pe_fld (pv 1) rfl) pa_nil)) (nomark _))
      (pe_one (pe_cmpR (op_eqX hu) (pe_callTy (cr_setX rfl) (by rfl) ms (by decide +kernel) (pa_cons (pe_fld (pv 0) rfl) pa_nil)) (pe_callTy (cr_setX rfl) (by rfl) ms (by decide +kernel) (pa_cons (pe_fld (pv 1) rfl) pa_nil)) (nomark _))))), ?_⟩
    rw [List.length_append] at n1 n2
    obtain ⟨dx, a, b, pl, r, hx, ha, hb, _⟩ := cx.at_
    obtain ⟨dy, a', b', pl', r', hy, ha', hb', _⟩ := cy.at_
    obtain ⟨s1, s2, _⟩ := List.nodup_append.mp d1
    obtain ⟨s3, s4, _⟩ := List.nodup_append.mp d2
    refine ⟨_, rfl, x, C, dx, _, _, rfl, hx, T.cl, T.n1, fl1 .., a, sg, rfl, ha H (Same.refl H), s1, by omega, fun p hp0 => ?_⟩
    have sm1 : Same H _ := same_new (o := SetX P w p sg) hp0
    refine ⟨_, rfl, y, C, dy, _, _, rfl, sm1 _ _ hy, T.cl, T.n1, fl1 .., a', sg', rfl, ha' _ sm1, s3, by omega, fun q hq0 => ?_⟩
    have sm2 : Same H _ := sm1.trans (same_new (o := SetX P w q sg') hq0)
    refine ⟨p, q, sg, sg', rfl, rfl, (upd_ne (ne_of_none upd_same hq0)).trans upd_same, upd_same, _, rfl, ?_⟩
    cases h1 : sameMem sg sg' with
    | false =>
      refine iteF ?_
      have z := k _ sm2
      rw [h1] at z
      exact z
    | true =>
      refine iteT ⟨_, rfl, x, C, dx, _, _, rfl, sm2 _ _ hx, T.cl, T.n2, fl2 .., b, hp, rfl, hb _ sm2, s2, by omega, fun p2 hp2 => ?_⟩
      have sm3 : Same H _ := sm2.trans (same_new (o := SetX P w p2 hp) hp2)
      refine ⟨_, rfl, y, C, dy, _, _, rfl, sm3 _ _ hy, T.cl, T.n2, fl2 .., b', hp', rfl, hb' _ sm3, s4, by omega, fun q2 hq2 => ?_⟩
      refine ⟨p2, q2, hp, hp', rfl, rfl, (upd_ne (ne_of_none upd_same hq2)).trans upd_same, upd_same, ?_⟩
      have z := k _ (sm3.trans (same_new (o := SetX P w q2 hp') hq2))
      rw [h1] at z
      exact z
end
end K6
namespace K6
open PySem PySem.Spec PyProof.Rows L2 LamX NdefX EV
/-- which of these rows, brought into the order of the names ns, stand in rs -/
def found (ns : List Str) (rs rs' : List (List Str)) : List Bool := rs'.map fun q => decide (asc ns q ∈ rs)
/-- what == of two codes tells -/
def eqC (sg hp : List Str) (rs : List (List Str)) (sg' hp' : List Str) (rs' : List (List Str)) : Bool := decide (rs.length = rs'.length) && ((sameMem sg sg' && sameMem hp hp') && (found (sg ++ hp) rs rs').all id)
structure CIs (K : PySem.W.Frag) (C : Addr) : Prop where
  cl : PySem.W.findIn K (.ref C) "__class__" = some (some (.builtin "object.__class__"))
  gt : PySem.W.specialIn K (.builtin "object.__class__") "__get__" = some (some (.builtin "getset_descriptor.__get__"))
  tk : PySem.W.takesIn K (.builtin "object.__class__") = some true
  ob : PySem.W.mroIn K C (.type "object") = some true
def spEq (K : PySem.W.Frag) (C : Addr) : Sp := fun vs H Q _ => ∃ (x : Addr) (v : V) (sg hp : List Str) (rs : List (List Str)) (r : Addr), vs = [.ref x, v] ∧ CodeR K C H x sg hp rs r ∧ (sg ++ hp).length ≤ 60 ∧ (sg ++ hp).Nodup ∧ (∀ z ∈ sg ++ hp, Name1 z) ∧
  ((∃ (y : Addr) (sg' hp' : List Str) (rs' : List (List Str)) (r' : Addr), v = .ref y ∧ CodeR K C H y sg' hp' rs' r' ∧ r ≠ r' ∧ (sg' ++ hp').length ≤ 60 ∧ (sg' ++ hp').Nodup ∧ (∀ z ∈ sg' ++ hp', Name1 z) ∧ (∀ q ∈ rs', RowOf (sg' ++ hp') q) ∧ rs'.length ≤ 1000 ∧ ∀ H', Same H H' → Q (.bl (eqC sg hp rs sg' hp' rs')) H')
   ∨ ((∃ t, TyX K H v t ∧ PySem.W.kitOne K t (.ref C) = some false) ∧ ∀ H', Same H H' → Q (.bl false) H'))
theorem mem_same {xs ys : List Str} (h : sameMem xs ys = true) : ∀ x ∈ xs, x ∈ ys := (sameMem_iff.mp h).2
theorem nodup_back : ∀ {xs ys : List Str}, xs.Nodup → xs.length = ys.length → (∀ x ∈ xs, x ∈ ys) → ∀ y ∈ ys, y ∈ xs := fun {xs ys} nd len sub y hy => by
  by_cases h : y ∈ xs
  · exact h
  · have z := nodup_le (y :: xs) ys (List.nodup_cons.mpr ⟨h, nd⟩) fun a ha => (List.mem_cons.mp ha).elim (fun e => e ▸ hy) (sub a)
    rw [List.length_cons] at z
    omega
section
variable {P : Program} {w : World} {K : PySem.W.Frag} {mg : Str → Option Value} {base : Heap} {f fS fI C : Addr} {fd fdS fdI : FuncData}
abbrev nEq : List Str := ["self", "other", "clause"]
theorem scEq : FnScope nEq ["self", "other"] (defScope sEq) := ⟨rfl, rfl, rfl, by decide +kernel, rfl, by decide +kernel, by decide +kernel⟩
theorem ok_eq (F : Fun K "__eq__" "Code.__eq__" sEq f fd) (T : CTxt K mg C) (TI : CIs K C) (mi : mg "isinstance" = none) (ma : mg "all" = none)
    (GS : FnOk P w K mg base CX0 1 fS fdS ["one", "other"] (spSame2 K C)) (mS : mg "have_same_names" = some (.ref fS)) (kS : PySem.W.keepIn K (.ref fS) = true) (bS : L2.Binds K fdS ["one", "other"] [])
    (GI : FnOk P w K mg base CX0 4 fI fdI ["self", "thing"] (spContains K C)) (hs : PySem.W.findIn K (.ref C) "__contains__" = some (some (.ref fI))) (hf : PySem.W.isFn K (.ref fI) = true) (bI : L2.Binds K fdI ["self", "thing"] []) :
    FnOk P w K mg base CX0 5 f fd ["self", "other"] (spEq K C) := by
  refine F.ok scEq (fun vs H Q E h => ?_) (fun cdv A' outer s H vs Q E hr h => ?_)
  · obtain ⟨x, v, sg, hp, rs, r, rfl, _⟩ := h
    rfl
  · obtain ⟨x, v, sg, hp, rs, r, rfl, cx, hn, nd, good, way⟩ := h
    have hr1 : Room 1 _ := hr.mono (by decide)
    refine ⟨_, pss_cons (ps_if (PW.pt (pw_or (pt_not (pt_val (pe_callB call_isi (by rfl) mi (by decide +kernel) (pa_cons (pv 1) (pa_cons (pe_glob (v := .ref C) (by rfl) T.mgC rfl) pa_nil)))))
          (pw_or1 (pt_cmpR op_ne (pe_callB call_len_dT (by rfl) T.len PySem.boot_len (pa_cons (pe_fld (pv 0) rfl) pa_nil)) (pe_callB call_len_dT (by rfl) T.len PySem.boot_len (pa_cons (pe_fld (pv 1) rfl) pa_nil)) (nomark _)))))
        (pss_one (ps_ret pe_bl)) pss_nil)
      (pss_one (ps_ret (pe_and (pe_call GS hr1 (by rfl) mS kS bS .nil pass0 (pa_cons (pv 0) (pa_cons (pv 1) pa_nil)))
        (pe_one (pe_callB (cr_all rfl) (by rfl) ma (by decide +kernel) (pa_cons (pe_lock (pe_lc (own := [("clause", 2)]) (g := gName 2) (tt := tYes) rfl scEq.nd (pi_keys (pe_fld (pv 1) rfl)) (blkOk_by (N := nEq) (sc := defScope sEq) (by decide +kernel))
          (fun _ _ _ _ _ => pg_name (i := 2) scEq.nd rfl (.inl rfl)) (fun _ _ _ _ _ => pts_nil) (fun _ _ _ _ _ => pe_cmpR (op_inOwn GI hs hf bI pass0 hr) (pv 2) (pv 0) rfl))) pa_nil)))))), ?_⟩
    obtain ⟨dx, a, b, pl, hx, _, _, _, hr4⟩ := cx.at_
    rcases way with ⟨y, sg', hp', rs', r', rfl, cy, ner, hn', nd', good', rows', few', k⟩ | ⟨⟨t, ty, kit⟩, k⟩
    · obtain ⟨dy, a', b', pl', hy, _, _, _, hr4'⟩ := cy.at_
      refine ⟨_, rfl, .ref y, .ref C, _, _, true, rfl, .own C, .base (.ins hy T.cl TI.cl TI.gt TI.tk TI.ob), by show (if (Value.ref C == Value.ref C) = true then _ else _) = _; rw [if_pos (by simp)], _, rfl, ?_⟩
      refine iteF ⟨_, rfl, x, C, dx, _, _, rfl, hx, T.cl, T.n4, fl4 .., r, _, rfl, hr4, _, rfl, y, C, dy, _, _, rfl, hy, T.cl, T.n4, fl4 .., r', _, rfl, hr4', rfl, _, rfl, ?_⟩
      have eL : (!decide (V.int ((List.map rowKv rs).length : Int) = V.int ((List.map rowKv rs').length : Int))) = !decide (rs.length = rs'.length) := by
        rw [List.length_map, List.length_map]
        refine congrArg not (decide_eq_decide.mpr ⟨fun h => ?_, fun h => by rw [h]⟩)
        injection h with h
        omega
      rw [eL]
      cases e1 : decide (rs.length = rs'.length) with
      | false =>
        have z := k H (Same.refl H)
        unfold eqC at z
        rw [e1] at z
        exact iteT z
      | true =>
        refine iteF ⟨_, rfl, _, rfl, x, y, sg, hp, sg', hp', rs, rs', rfl, cx.code, cy.code, hn, hn', nd, nd', fun H1 sm1 => ⟨_, rfl, ?_⟩⟩
        cases e2 : sameMem sg sg' && sameMem hp hp' with
        | false =>
          have z := k H1 sm1
          unfold eqC at z
          rw [e1, e2] at z
          exact iteF z
        | true =>
          obtain ⟨e3, e4⟩ := Bool.and_eq_true_iff.mp e2
          have back : ∀ z ∈ sg' ++ hp', z ∈ sg ++ hp := fun z hz => by
            rcases List.mem_append.mp hz with q | q
            · exact List.mem_append.mpr (.inl (nodup_back (List.nodup_append.mp nd).1 (sameMem_iff.mp e3).1 (mem_same e3) z q))
            · exact List.mem_append.mpr (.inr (nodup_back (List.nodup_append.mp nd).2.1 (sameMem_iff.mp e4).1 (mem_same e4) z q))
          have hd1 := sm1 _ _ hr4'
          have cx1 := cx.same sm1
          have hy1 := sm1 _ _ hy
          have nyr : y ≠ r' := ne_of hy1 hd1 fun z => nomatch z
          refine iteT ⟨r', _, hd1, trivial, fun od => ?_⟩
          have g0 : Grow r' H1 (upd H1 r' (.frz od (.dT (rs'.map rowKv)))) := Grow.put
          refine ⟨_, rfl, y, C, dy, _, _, rfl, (upd_ne nyr).trans hy1, T.cl, T.n4, fl4 .., r', od, rfl, .inr ⟨_, upd_same, fun L hL => lc_it walk_keysT (fun i H2 => H2 r' = some (.frz od (.dT (rs'.map rowKv))) ∧ H2 L = some (.lst ((found (sg ++ hp) rs (rs'.take i)).map V.bl)) ∧ Grow r' H1 H2) ?_ (fun i H2 _ hh => hh.1) ?_ ?_⟩⟩
          · have nrL : r' ≠ L := ne_of_none (show upd H1 r' (.frz od (.dT (rs'.map rowKv))) r' = some _ from upd_same) hL
            refine ⟨(upd_ne nrL).trans upd_same, ?_, fun c o nc e => (upd_ne (ne_of_none (g0 c o nc e) hL)).trans (g0 c o nc e)⟩
            rw [upd_same]
            rfl
          · rintro i v H2 H3 hi ⟨hr2, hL2, g2⟩ ⟨rfl, kk, vv, q, hkv, rfl, hq⟩
            obtain ⟨row, hrow, ekv⟩ := get_map hkv
            injection ekv with ek ev
            rw [ek, kV_strs] at hq
            have rowm := rows' row (List.mem_of_getElem? hrow)
            obtain ⟨qs, hqs, rfl⟩ := rowm.lits nd' good'
            have cx2 := cx1.off hd1 ner g2
            obtain ⟨dx2, _, _, _, hx2, _⟩ := cx2.at_
            have nqx : q ≠ x := ne_of hq hx2 fun z => nomatch z
            refine ⟨rfl, _, rfl, _, rfl, x, dx2, _, rfl, hx2, x, .ref q, sg, hp, rs, rfl, cx2.code, hn, nd, good, .inl ⟨qs, ⟨hqs.names back, false, q, .type "tuple", rfl, fun H' g => .base (.tup (g _ _ nqx hq)), kitAny_cons (b := false) (kit_ty (by decide +kernel)) (fun _ => kitAny_cons (b := true) (kit_ty (by decide +kernel)) (fun z => nomatch z) fun _ => rfl) (fun z => nomatch z), fun H' g => Sq.tup (g _ _ nqx hq)⟩, fun H4 sm4 => ⟨_, rfl, ?_⟩⟩⟩
            refine ⟨_, sm4 _ _ hL2, by rw [List.length_map]; unfold found; rw [List.length_map, List.length_take, sizeLine_eq]; omega, ?_, ?_, ?_⟩
            · have nrL : r' ≠ L := ne_of hr2 hL2 fun z => nomatch z
              exact (upd_ne nrL).trans (sm4 _ _ hr2)
            · rw [upd_same, List.take_succ, hrow]
              unfold found
              rw [List.map_append, List.map_append]
              rfl
            · intro c o nc e
              have z := sm4 _ _ (g2 c o nc e)
              have hL1 : H1 L = none := by
                have y := hL
                rwa [upd_ne (ne_of_none (show upd H1 r' (.frz od (.dT (rs'.map rowKv))) r' = some _ from upd_same) hL).symm] at y
              exact (upd_ne (ne_of_none e hL1)).trans z
          · rintro H2 ⟨hr2, hL2, g2⟩
            have nrL : L ≠ r' := ne_of hL2 hr2 fun z => nomatch z
            refine ⟨hr2, L, _, rfl, SqL.of ((upd_ne nrL).trans hL2), ?_⟩
            have sm3 : Same H1 (upd H2 r' (.dT (rs'.map rowKv))) := fun c o e => by
              by_cases q : c = r'
              · rw [q, hd1] at e
                rw [q, upd_same, e]
              · exact (upd_ne q).trans (g2 c o q e)
            have z := k _ (sm1.trans sm3)
            unfold eqC at z
            rw [List.length_map, List.take_length]
            rw [e1, e2] at z
            exact z
    · obtain ⟨u, hu1, _⟩ := (⟨_, hx, trivial⟩ : ∃ u, H x = some u ∧ True)
      exact ⟨_, rfl, v, .ref C, _, _, false, rfl, .own C, ty, kit, _, rfl, iteT (k H (Same.refl H))⟩
end
end K6
namespace K6
open PySem PySem.Spec PyProof.Rows L2 LamX NdefX EV
/-! ### repr of data without dicts -/
mutual
theorem dp_free {K : PySem.W.Frag} {H : Hp} : ∀ {v : V} {d : PyData}, Dp K H v d → d.hasDict = false
  | _, _, .non => rfl
  | _, _, .bl _ => rfl
  | _, _, .int _ => rfl
  | _, _, .str _ => rfl
  | _, _, .lst _ h => by
    show PyData.hasDictAll _ = false
    exact dps_free h
  | _, _, .tup _ h => by
    show PyData.hasDictAll _ = false
    exact dps_free h
theorem dps_free {K : PySem.W.Frag} {H : Hp} : ∀ {vs : List V} {ds : List PyData}, DpAll K H vs ds → PyData.hasDictAll ds = false
  | _, _, .nil => rfl
  | _, _, .cons h t => by
    show (PyData.hasDict _ || PyData.hasDictAll _) = false
    rw [dp_free h, dps_free t]
    rfl
end
def rReprP (K : PySem.W.Frag) : List V → Hp → VK → Prop := fun xs H Q => ∃ (x : V) (d : PyData), xs = [x] ∧ Dp K H x d ∧ d.showable = true ∧ d.shown.length ≤ sizeLine ∧ d.depth ≤ 60 ∧ Q (.str d.shown) H
theorem call_reprP {X : Cx} (hg : X.A.guards = some []) (hu : X.A.units + 64 < cLine) : CallR X (.builtin "repr") (rReprP X.K) := by
  intro pins s σ H xs us Q I r h
  obtain ⟨x, d, rfl, hd, hs, hz, hdp, q⟩ := h
  obtain ⟨u, rfl, ru⟩ := r.one
  have hf := dp_free hd
  cases hd with
  | non =>
    cases ru
    exact PySem.P.repr_of_none ⟨.str _, H, I.tok _, ⟨_, rfl⟩, q⟩
  | bl b =>
    cases ru
    refine PySem.P.repr_of_bool ⟨.str _, H, I.tok _, ⟨_, rfl⟩, ?_⟩
    cases b <;> exact q
  | int i =>
    obtain ⟨t, rfl⟩ := ru
    exact PySem.P.repr_of_int (by simpa [PyData.showable] using hs) ⟨.str _, H, I.tok _, ⟨_, rfl⟩, q⟩
  | str y =>
    obtain ⟨t, rfl⟩ := ru
    exact PySem.P.repr_of_str ⟨.str _, H, I.tok _, ⟨_, rfl⟩, q⟩ hz
  | lst h2 h3 =>
    obtain ⟨as, hr⟩ := Dp.reads I _ _ _ (.lst h2 h3) ru
    cases ru
    exact repr_of_reads' hr hs (fun z => by rw [hf] at z; cases z) hg (by omega) (fun _ _ e => e) (fun h' u tk k => ⟨.str _, H, I.kept k, ⟨u, rfl⟩, q⟩) hz
  | tup h2 h3 =>
    obtain ⟨as, hr⟩ := Dp.reads I _ _ _ (.tup h2 h3) ru
    cases ru
    exact repr_of_reads' hr hs (fun z => by rw [hf] at z; cases z) hg (by omega) (fun _ _ e => e) (fun h' u tk k => ⟨.str _, H, I.kept k, ⟨u, rfl⟩, q⟩) hz
/-! ### what is shown is small -/
/-- texts of few signs, shown within few places -/
structure Small (d : PyData) (n : Nat) : Prop where
  ls : d.leavesShort 40 = true
  bk : d.bulk ≤ n
  sh : d.showable = true
  dp : d.depth ≤ 10
theorem Small.fits {d : PyData} {n : Nat} (h : Small d n) (hn : n ≤ 20000) : d.shown.length ≤ sizeLine := by
  have z := PyData.shown_le_bulk 40 (by decide) d h.ls
  have b := h.bk
  rw [sizeLine_eq]
  omega
structure SmallAll (ds : List PyData) (n m : Nat) : Prop where
  ls : PyData.leavesShortAll 40 ds = true
  bk : PyData.bulkAll ds ≤ n
  sh : PyData.showableAll ds = true
  dp : PyData.depthAll ds ≤ m
theorem SmallAll.nil {m : Nat} : SmallAll [] 0 m := ⟨rfl, Nat.le_refl 0, rfl, Nat.zero_le _⟩
theorem SmallAll.cons {d : PyData} {ds : List PyData} {a b m : Nat} (h : d.leavesShort 40 = true) (h2 : d.bulk ≤ a) (h3 : d.showable = true) (h4 : d.depth ≤ m) (t : SmallAll ds b m) : SmallAll (d :: ds) (a + 1 + b) m := by
  refine ⟨?_, ?_, ?_, ?_⟩
  · simp only [PyData.leavesShortAll, h, t.ls, Bool.and_self]
  · have := t.bk
    simp only [PyData.bulkAll]
    omega
  · simp only [PyData.showableAll, h3, t.sh, Bool.and_self]
  · have := t.dp
    simp only [PyData.depthAll]
    omega
theorem name_short {z : Str} (h : Fit z) : (z.cps.toList.all fun c => decide (c < 16 ^ 8)) = true := List.all_eq_true.mpr fun c hc => decide_eq_true (Nat.lt_trans (h c hc) (by decide))
/-- lists of short texts -/
theorem small_strs {n : Nat} : ∀ xs : List Str, (∀ z ∈ xs, Fit z ∧ z.length ≤ n) → SmallAll (xs.map PyData.str) ((n + 1) * xs.length) 2
  | [], _ => SmallAll.nil
  | x :: xs, h => by
    have z := SmallAll.cons (d := .str x) (a := n) (name_short (h x List.mem_cons_self).1) (h x List.mem_cons_self).2 rfl (Nat.zero_le _) (small_strs xs fun z hz => h z (List.mem_cons_of_mem _ hz))
    refine ⟨z.ls, ?_, z.sh, z.dp⟩
    have b := z.bk
    rw [List.length_cons, Nat.mul_succ]
    show PyData.bulkAll (.str x :: xs.map PyData.str) ≤ _
    omega
theorem small_list {ds : List PyData} {n m : Nat} (h : SmallAll ds n m) : (PyData.list ds).leavesShort 40 = true ∧ (PyData.list ds).bulk ≤ n ∧ (PyData.list ds).showable = true ∧ (PyData.list ds).depth ≤ m + 1 := by
  refine ⟨h.ls, h.bk, h.sh, ?_⟩
  have := h.dp
  simp only [PyData.depth]
  omega
theorem small_tup {ds : List PyData} {n m : Nat} (h : SmallAll ds n m) : (PyData.tuple ds).leavesShort 40 = true ∧ (PyData.tuple ds).bulk ≤ n ∧ (PyData.tuple ds).showable = true ∧ (PyData.tuple ds).depth ≤ m + 1 := by
  refine ⟨h.ls, h.bk, h.sh, ?_⟩
  have := h.dp
  simp only [PyData.depth]
  omega
theorem small_rows {n m : Nat} : ∀ rs : List (List Str), (∀ r ∈ rs, r.length ≤ m ∧ ∀ z ∈ r, Fit z ∧ z.length ≤ n) → SmallAll (rs.map fun r => PyData.tuple (r.map PyData.str)) (((n + 1) * m + 1) * rs.length) 3
  | [], _ => SmallAll.nil
  | r :: rs, h => by
    obtain ⟨h1, h2⟩ := h r List.mem_cons_self
    obtain ⟨a1, a2, a3, a4⟩ := small_tup (small_strs r h2)
    have z := SmallAll.cons a1 a2 a3 a4 (small_rows rs fun z hz => h z (List.mem_cons_of_mem _ hz))
    refine ⟨z.ls, ?_, z.sh, z.dp⟩
    have b := z.bk
    have c : (n + 1) * r.length ≤ (n + 1) * m := Nat.mul_le_mul_left _ h1
    rw [List.length_cons, Nat.mul_succ]
    show PyData.bulkAll (.tuple (r.map PyData.str) :: rs.map fun r => PyData.tuple (r.map PyData.str)) ≤ _
    omega
theorem dp_app {K : PySem.W.Frag} {H : Hp} : ∀ {vs ws : List V} {ds es : List PyData}, DpAll K H vs ds → DpAll K H ws es → DpAll K H (vs ++ ws) (ds ++ es)
  | _, _, _, _, .nil, h => h
  | _, _, _, _, .cons h t, h2 => .cons h (dp_app t h2)
theorem small_app {n k m : Nat} : ∀ {ds es : List PyData}, SmallAll ds n m → SmallAll es k m → SmallAll (ds ++ es) (n + k) m := fun {ds es} h1 h2 => by
  have go : ∀ ds : List PyData, (PyData.leavesShortAll 40 (ds ++ es) = (PyData.leavesShortAll 40 ds && PyData.leavesShortAll 40 es)) ∧ PyData.bulkAll (ds ++ es) = PyData.bulkAll ds + PyData.bulkAll es ∧ PyData.showableAll (ds ++ es) = (PyData.showableAll ds && PyData.showableAll es) ∧ PyData.depthAll (ds ++ es) ≤ max (PyData.depthAll ds) (PyData.depthAll es) := by
    intro ds
    induction ds with
    | nil => exact ⟨rfl, by simp [PyData.bulkAll], rfl, by simp [PyData.depthAll]⟩
    | cons d ds ih =>
      obtain ⟨i1, i2, i3, i4⟩ := ih
      refine ⟨?_, ?_, ?_, ?_⟩
      · simp only [List.cons_append, PyData.leavesShortAll, i1, Bool.and_assoc]
      · simp only [List.cons_append, PyData.bulkAll, i2]
        omega
      · simp only [List.cons_append, PyData.showableAll, i3, Bool.and_assoc]
      · simp only [List.cons_append, PyData.depthAll]
        omega
  obtain ⟨g1, g2, g3, g4⟩ := go ds
  have a1 := h1.bk
  have a2 := h2.bk
  have a3 := h1.dp
  have a4 := h2.dp
  exact ⟨by rw [g1, h1.ls, h2.ls]; rfl, by omega, by rw [g3, h1.sh, h2.sh]; rfl, by omega⟩
/-! ### _law_same over such data -/
def spSameP (K : PySem.W.Frag) : Sp := fun vs H Q _ => ∃ (x y : V) (d : PyData) (n : Nat), vs = [x, y] ∧ Dp K H x d ∧ Dp K H y d ∧ Small d n ∧ n ≤ 20000 ∧ Q (.bl true) H
section
variable {P : Program} {w : World} {K : PySem.W.Frag} {mg : Str → Option Value} {base : Heap} {f : Addr} {fd : FuncData}
theorem ok_sameP (F : Fun K "_law_same" "_law_same" sSame f fd) (mr : mg "repr" = none) : FnG P w K mg base 1 f fd ["_law_found", "_law_due"] (spSameP K) := by
  refine fng_of F scSame (fun vs H Q E h => ?_) (fun cdv A outer s H vs Q E hg hr h => ?_)
  · obtain ⟨x, y, d, n, rfl, _⟩ := h
    rfl
  · obtain ⟨x, y, d, n, rfl, hx, hy, sm, hn, k⟩ := h
    refine ⟨_, pss_one (ps_ret (pe_cmpR op_eq (pe_callB (call_reprP hg hr.units) (by rfl) mr (by decide +kernel) (pa_cons (pv 0) pa_nil)) (pe_callB (call_reprP hg hr.units) (by rfl) mr (by decide +kernel) (pa_cons (pv 1) pa_nil)) (nomark _))), ?_⟩
    have h3 : d.depth ≤ 60 := Nat.le_trans sm.dp (by decide)
    refine ⟨_, rfl, _, d, rfl, hx, sm.sh, sm.fits hn, h3, _, rfl, _, d, rfl, hy, sm.sh, sm.fits hn, h3, rfl, ?_⟩
    show Q (.bl (decide (V.str d.shown = V.str d.shown))) H
    rw [decide_eq_true rfl]
    exact k
end
end K6
namespace K6
open PySem PySem.Spec PyProof.Rows L2 LamX NdefX EV
theorem dget_c {H : Hp} {d ps ph pc : Addr} (h : H d = some (.dK [(kSigns, .ref ps), (kHelpers, .ref ph), (kClauses, .ref pc)])) : DGet H d (.str (Str.ofString "signs")) (some (.ref ps)) ∧ DGet H d (.str (Str.ofString "helpers")) (some (.ref ph)) ∧ DGet H d (.str (Str.ofString "clauses")) (some (.ref pc)) :=
  ⟨DGet.k (k := kSigns) h, DGet.k (k := kHelpers) h, DGet.k (k := kClauses) h⟩
theorem CAt.same {H H' : Hp} {d ps ph pc : Addr} {sg hp : List Str} {ts : List Addr} {rs : List (List Str)} (c : CAt H d ps ph pc sg hp ts rs) (sm : Same H H') : CAt H' d ps ph pc sg hp ts rs :=
  ⟨sm _ _ c.d, sm _ _ c.s, sm _ _ c.h, sm _ _ c.c, c.r.same sm⟩
theorem row_texts {ns r : List Str} (good : ∀ z ∈ ns, Name1 z) (h : RowOf ns r) : r.length ≤ 2 * ns.length ∧ ∀ z ∈ r, Fit z ∧ z.length ≤ 9 := by
  obtain ⟨qs, hq, rfl⟩ := h
  refine ⟨asc_len ns _, fun z hz => ?_⟩
  obtain ⟨n, hn, e⟩ := lits_mem.mp (List.mem_filter.mp hz).1
  have g := good n hn
  have l8 : n.length ≤ 8 := g.2.1
  rcases e with rfl | rfl
  · exact ⟨g.fit, by omega⟩
  · exact ⟨g.fit.neg, by rw [neg_len]; omega⟩
theorem fl_no {a b pl r : Addr} {m : Str} (h : (["own_signs", "own_helpers", "places", "rows"] : List Str).contains m = false) : (fl a b pl r).lookup m = none := by
  rw [fl_eq]
  simp only [List.contains_cons, List.contains_nil, Bool.or_false, Bool.or_eq_false_iff] at h
  obtain ⟨h1, h2, h3, h4⟩ := h
  simp only [List.lookup, h1, h2, h3, h4]
section
variable {P : Program} {w : World} {K : PySem.W.Frag} {mg : Str → Option Value} {base : Heap} {f fS f1 f2 f3 f4 C : Addr} {fd fdS fd1 fd2 fd3 fd4 : FuncData}
end
end K6
namespace K6
open PySem PySem.Spec PyProof.Rows L2 LamX NdefX EV
/-! ### making a code -/
theorem TyOf.same {K : PySem.W.Frag} {H H' : Hp} {v : V} {t : Value} (h : TyOf K H v t) (sm : Same H H') : TyOf K H' v t := by
  cases h with
  | non => exact .non
  | bl b => exact .bl b
  | int i => exact .int i
  | str z => exact .str z
  | flt z => exact .flt z
  | lst e => exact .lst (sm _ _ e)
  | frz e => exact .frz (sm _ _ e)
  | tup e => exact .tup (sm _ _ e)
  | dK e => exact .dK (sm _ _ e)
  | dT e => exact .dT (sm _ _ e)
  | ins e a b c d f => exact .ins (sm _ _ e) a b c d f
theorem TyX.same {K : PySem.W.Frag} {H H' : Hp} {v : V} {t : Value} (h : TyX K H v t) (sm : Same H H') : TyX K H' v t := by
  cases h with
  | base h => exact .base (TyOf.same h sm)
  | byt b => exact .byt b
  | set e => exact .set (sm _ _ e)
  | kList a b => exact .kList a b
  | kTuple a b => exact .kTuple a b
  | kDict a b => exact .kDict a b
  | fTuple e => exact .fTuple (sm _ _ e)
  | fDict e => exact .fDict (sm _ _ e)
theorem Sq.same {K : PySem.W.Frag} {H H' : Hp} {b : Bool} {a : Addr} {xs : List V} (h : Sq K b H a xs) (sm : Same H H') : Sq K b H' a xs := by
  cases b
  · exact sqT_same sm h
  · exact Same.seq sm h
/-- a clause that is handed over -/
def Handed (K : PySem.W.Frag) (H : Hp) (ns : List Str) (x : V) (qs : List (Bool × Str)) : Prop := Lits ns qs ∧ ∃ (b : Bool) (A : Addr), x = .ref A ∧ Sq K b H A ((qs.map lit).map V.str)
theorem Sq.ty {K : PySem.W.Frag} {H : Hp} {b : Bool} {a : Addr} {xs : List V} (h : Sq K b H a xs) : TyX K H (.ref a) (.type (if b = true then "list" else "tuple")) := by
  cases b
  · rcases h with (h | ⟨o, h⟩) | ⟨o, its, n, h1, h2, _⟩
    · exact .base (.tup h)
    · exact .fTuple h
    · exact .kTuple h1 h2
  · rcases h with (h | ⟨o, h⟩) | ⟨o, its, n, h1, h2, _⟩
    · exact .base (.lst h)
    · exact .base (.frz h)
    · exact .kList h1 h2
theorem kit_seq {K : PySem.W.Frag} (b : Bool) : PySem.W.kitAny K (.type (if b = true then "list" else "tuple")) [.type "list", .type "tuple"] = some true := by
  cases b
  · exact kitAny_cons (b := false) (kit_ty (by decide +kernel)) (fun _ => kitAny_cons (b := true) (kit_ty (by decide +kernel)) (fun z => nomatch z) fun _ => rfl) (fun z => nomatch z)
  · exact kitAny_cons (b := true) (kit_ty (by decide +kernel)) (fun z => nomatch z) fun _ => rfl
theorem Handed.given {K : PySem.W.Frag} {H H1 : Hp} {s : Addr} {ns : List Str} {x : V} {qs : List (Bool × Str)} (h : Handed K H ns x qs) (g : ∀ H', Grow s H1 H' → Same H H') : Given K s H1 ns x qs := by
  obtain ⟨hq, b, A, rfl, sq⟩ := h
  exact ⟨hq, b, A, _, rfl, fun H' gg => Sq.ty (Sq.same sq (g H' gg)), kit_seq b, fun H' gg => Sq.same sq (g H' gg)⟩
theorem Handed.same {K : PySem.W.Frag} {H H' : Hp} {ns : List Str} {x : V} {qs : List (Bool × Str)} (h : Handed K H ns x qs) (sm : Same H H') : Handed K H' ns x qs := by
  obtain ⟨hq, b, A, rfl, sq⟩ := h
  exact ⟨hq, b, A, rfl, Sq.same sq sm⟩
theorem make_ok {K : PySem.W.Frag} {C : Addr} {H : Hp} {S0 T0 H0 x dx : Addr} {b1 b2 b3 : Bool} {sg hp : List Str} {xs : List V} {qss : List (List (Bool × Str))} {W : VK} (hx : H x = none) (hdx : H dx = none) (hS : Sq K b1 H S0 (sg.map V.str)) (hT : Sq K b2 H T0 xs) (hH : Sq K b3 H H0 (hp.map V.str)) (hn : (sg ++ hp).length ≤ 60) (nd : (sg ++ hp).Nodup) (good : ∀ z ∈ sg ++ hp, Name1 z)
    (giv : Paired (Handed K H (sg ++ hp)) xs qss) (few : qss.length ≤ 1000) (k : ∀ r H', Same H H' → CodeR K C H' x sg hp (rowsOf (sg ++ hp) qss) r → H r = none → W .non H') :
    spInit K C [.ref x, .ref S0, .ref T0, .ref H0] (upd (upd H dx (.own x)) x (.ins C dx [])) W E0 := by
  have sm0 : Same H (upd (upd H dx (.own x)) x (.ins C dx [])) := fun c o e => (upd_ne (ne_of_none e hx)).trans ((upd_ne (ne_of_none e hdx)).trans e)
  have g : ∀ H', Grow x (upd (upd H dx (.own x)) x (.ins C dx [])) H' → Same H H' := fun H' gg c o e => gg c o (ne_of_none e hx) (sm0 c o e)
  refine ⟨x, dx, S0, T0, H0, b1, b2, b3, sg, hp, xs, qss, rfl, upd_same, fun H' gg => Sq.same hS (g H' gg), fun H' gg => Sq.same hT (g H' gg), fun H' gg => Sq.same hH (g H' gg), hn, nd, good, Paired.mapP giv (fun v qs h => Handed.given h g), few, fun H' r gg c fresh => k r H' (g H' gg) c ?_⟩
  cases e : H r with
  | none => rfl
  | some o =>
    rw [sm0 r o e] at fresh
    cases fresh
/-! ### what a code is like -/
structure OkC (sg hp : List Str) (rs : List (List Str)) : Prop where
  n60 : (sg ++ hp).length ≤ 60
  nd : (sg ++ hp).Nodup
  good : ∀ z ∈ sg ++ hp, Name1 z
  row : ∀ r ∈ rs, RowOf (sg ++ hp) r
  few : rs.length ≤ 1000
theorem addRow_mem {rs : List (List Str)} {r x : List Str} (h : x ∈ addRow rs r) : x ∈ rs ∨ x = r := by
  unfold addRow at h
  split at h
  · exact .inl h
  · rcases List.mem_append.mp h with q | q
    · exact .inl q
    · exact .inr (List.mem_singleton.mp q)
theorem fold_mem : ∀ (xs acc : List (List Str)) (x : List Str), x ∈ xs.foldl addRow acc → x ∈ acc ∨ x ∈ xs
  | [], _, _, h => .inl h
  | y :: xs, acc, x, h => by
    rcases fold_mem xs (addRow acc y) x h with q | q
    · rcases addRow_mem q with q | q
      · exact .inl q
      · exact .inr (by rw [q]; exact List.mem_cons_self)
    · exact .inr (List.mem_cons_of_mem _ q)
theorem rowsOf_row {ns : List Str} {qss : List (List (Bool × Str))} (h : ∀ qs ∈ qss, Lits ns qs) : ∀ r ∈ rowsOf ns qss, RowOf ns r := fun r hr => by
  rcases fold_mem _ _ r hr with q | q
  · cases q
  · obtain ⟨qs, hqs, rfl⟩ := List.mem_map.mp q
    exact ⟨qs, h qs hqs, rfl⟩
theorem fold_id : ∀ (xs acc : List (List Str)), (acc ++ xs).Nodup → xs.foldl addRow acc = acc ++ xs
  | [], acc, _ => (List.append_nil acc).symm
  | x :: xs, acc, nd => by
    have e : acc ++ x :: xs = (acc ++ [x]) ++ xs := by rw [List.append_assoc]; rfl
    have nx : x ∉ acc := fun q => (List.nodup_append.mp nd).2.2 x q x List.mem_cons_self rfl
    rw [List.foldl_cons]
    unfold addRow
    rw [if_neg nx, e]
    exact fold_id xs (acc ++ [x]) (e ▸ nd)
theorem fold_in : ∀ (xs acc : List (List Str)), (∀ x ∈ xs, x ∈ acc) → xs.foldl addRow acc = acc
  | [], _, _ => rfl
  | x :: xs, acc, h => by
    have e : addRow acc x = acc := if_pos (h x List.mem_cons_self)
    rw [List.foldl_cons, e]
    exact fold_in xs acc fun y hy => h y (List.mem_cons_of_mem _ hy)
end K6
namespace K6
open PySem PySem.Spec PyProof.Rows L2 LamX NdefX EV
/-! ### codes unlike a code -/
/-- two places that hold lists -/
def Two (H : Hp) (S L : Addr) : Prop := (∃ xs, H S = some (.lst xs)) ∧ ∃ xs, H L = some (.lst xs)
theorem StreamAt.two {H : Hp} {S L : Addr} {c : Nat} (h : StreamAt H S L c) : Two H S L := by
  obtain ⟨ns, x, m, h1, h2, _⟩ := h
  exact ⟨⟨_, h1⟩, ⟨_, h2⟩⟩
theorem sqT_kept {K : PySem.W.Frag} {H H' : Hp} {S L a : Addr} {xs : List V} (h : SqT K H a xs) (hS : Two H S L) (k : Kept S L H H') : SqT K H' a xs := by
  obtain ⟨⟨_, h1⟩, ⟨_, h2⟩⟩ := hS
  rcases h with h | h
  · refine .inl ?_
    rcases h with h | ⟨o, h⟩
    · exact .inl (k _ _ h (ne_of h h1 fun z => nomatch z) (ne_of h h2 fun z => nomatch z))
    · exact .inr ⟨o, k _ _ h (ne_of h h1 fun z => nomatch z) (ne_of h h2 fun z => nomatch z)⟩
  · exact .inr h
theorem CodeR.kept {K : PySem.W.Frag} {C : Addr} {H H' : Hp} {S L x r : Addr} {sg hp : List Str} {rs : List (List Str)} (cr : CodeR K C H x sg hp rs r) (hS : Two H S L) (k : Kept S L H H') : CodeR K C H' x sg hp rs r := by
  obtain ⟨dx, a, b, pl, h1, h2, h3, h4, h5⟩ := cr.at_
  obtain ⟨⟨_, g1⟩, ⟨_, g2⟩⟩ := id hS
  refine ⟨dx, a, b, pl, k _ _ h1 (ne_of h1 g1 fun z => nomatch z) (ne_of h1 g2 fun z => nomatch z), fun H2 s2 => ?_, fun H2 s2 => ?_, k _ _ h4 (ne_of h4 g1 fun z => nomatch z) (ne_of h4 g2 fun z => nomatch z), k _ _ h5 (ne_of h5 g1 fun z => nomatch z) (ne_of h5 g2 fun z => nomatch z)⟩
  · exact (sqT_kept (h2 H (Same.refl H)) hS k).ext s2
  · exact (sqT_kept (h3 H (Same.refl H)) hS k).ext s2
theorem RowsAt.kept {H H' : Hp} {S L : Addr} {ts : List Addr} {rs : List (List Str)} (h : RowsAt H ts rs) (hS : Two H S L) (k : Kept S L H H') : RowsAt H' ts rs := by
  obtain ⟨⟨_, g1⟩, ⟨_, g2⟩⟩ := hS
  exact Paired.mapP h fun t r z => k _ _ z (ne_of z g1 fun q => nomatch q) (ne_of z g2 fun q => nomatch q)
theorem CAt.kept {H H' : Hp} {S L d ps ph pc : Addr} {sg hp : List Str} {ts : List Addr} {rs : List (List Str)} (c : CAt H d ps ph pc sg hp ts rs) (off : ∀ p ∈ [ps, ph, pc], p ≠ S ∧ p ≠ L) (hS : Two H S L) (k : Kept S L H H') : CAt H' d ps ph pc sg hp ts rs := by
  obtain ⟨⟨_, g1⟩, ⟨_, g2⟩⟩ := id hS
  have o1 := off ps (by simp)
  have o2 := off ph (by simp)
  have o3 := off pc (by simp)
  exact ⟨k _ _ c.d (ne_of c.d g1 fun z => nomatch z) (ne_of c.d g2 fun z => nomatch z), k _ _ c.s o1.1 o1.2, k _ _ c.h o2.1 o2.2, k _ _ c.c o3.1 o3.2, RowsAt.kept c.r hS k⟩
/-- rows as clauses that are handed over, for these names or more -/
theorem handed_rows {K : PySem.W.Frag} {H : Hp} {n0 ns : List Str} (nd : n0.Nodup) (good : ∀ z ∈ n0, Name1 z) (sub : ∀ z ∈ n0, z ∈ ns) : ∀ {ts : List Addr} {rs : List (List Str)}, RowsAt H ts rs → (∀ r ∈ rs, RowOf n0 r) →
    ∃ qss, Paired (Handed K H ns) (ts.map V.ref) qss ∧ rs = qss.map (fun qs => qs.map lit) ∧ ∀ qs ∈ qss, Lits n0 qs
  | [], [], _, _ => ⟨[], .nil, rfl, fun _ h => nomatch h⟩
  | t :: ts, r :: rs, .cons h tl, rows => by
    obtain ⟨qs, hq, rfl⟩ := (rows r List.mem_cons_self).lits nd good
    obtain ⟨qss, h1, h2, h3⟩ := handed_rows nd good sub tl fun x hx => rows x (List.mem_cons_of_mem _ hx)
    refine ⟨qs :: qss, .cons ⟨hq.names sub, false, t, rfl, Sq.tup h⟩ h1, by rw [List.map_cons, h2], fun x hx => ?_⟩
    rcases List.mem_cons.mp hx with rfl | hx
    · exact hq
    · exact h3 x hx
theorem row_id {ns r : List Str} (h : RowOf ns r) : asc ns r = r := by
  obtain ⟨qs, _, rfl⟩ := h
  exact asc_asc
theorem rows_id {ns : List Str} {rs : List (List Str)} {qss : List (List (Bool × Str))} (e : rs = qss.map (fun qs => qs.map lit)) (rows : ∀ r ∈ rs, RowOf ns r) (nd : rs.Nodup) : rowsOf ns qss = rs := by
  unfold rowsOf
  have z : (qss.map fun qs => asc ns (qs.map lit)) = rs := by
    rw [e]
    refine List.map_congr_left fun qs hq => ?_
    exact row_id (rows _ (by rw [e]; exact List.mem_map_of_mem hq))
  rw [z]
  exact fold_id rs [] (by simpa using nd)
section
variable {K : PySem.W.Frag} {C : Addr} {H0 H H' : Hp} {S L d ps ph pc N F : Addr} {sg hp : List Str} {ts : List Addr} {rs : List (List Str)} {vs : List V} {c : Nat}
end
theorem eqv_nilR : ∀ rs : List (List Str), PyData.eqv (.list (rs.map fun r => PyData.tuple (r.map PyData.str))) (.list []) = decide (rs = [])
  | [] => rfl
  | r :: rs => by simp [PyData.eqv, PyData.eqvAll]
theorem paired_right {α β : Type} {R : α → β → Prop} : ∀ {xs : List α} {ys : List β}, Paired R xs ys → ∀ y ∈ ys, ∃ x, R x y
  | [], [], .nil, y, h => nomatch h
  | x :: xs, z :: ys, .cons r t, y, h => by
    rcases List.mem_cons.mp h with e | h
    · exact ⟨x, by rw [e]; exact r⟩
    · exact paired_right t y h
theorem paired_snoc {α β : Type} {R : α → β → Prop} {xs : List α} {ys : List β} {x : α} {y : β} (h : Paired R xs ys) (r : R x y) : Paired R (xs ++ [x]) (ys ++ [y]) := Paired.snoc h r
end K6
namespace K6
open PySem PySem.Spec PyProof.Rows L2 LamX NdefX EV
/-! ### contracts by name -/
def Has (P : Program) (w : World) (K : PySem.W.Frag) (mg : Str → Option Value) (base : Heap) (k : Nat) (x : Str) (ps : List Str) (sp : Sp) : Prop := ∃ f fd, FnOk P w K mg base CX0 k f fd ps sp ∧ mg x = some (.ref f) ∧ PySem.W.keepIn K (.ref f) = true ∧ L2.Binds K fd ps []
def HasG (P : Program) (w : World) (K : PySem.W.Frag) (mg : Str → Option Value) (base : Heap) (k : Nat) (x : Str) (ps : List Str) (sp : Sp) : Prop := ∃ f fd, FnG P w K mg base k f fd ps sp ∧ mg x = some (.ref f) ∧ PySem.W.keepIn K (.ref f) = true ∧ L2.Binds K fd ps []
section
variable {X : Cx} {k : Nat} {x : Str} {ps : List Str} {sp : Sp} {p pos : Pos} {e : Expr} {es : List Expr} {t : TA}
theorem pe_callH (h : Has X.prog X.w X.K X.mg X.base k x ps sp) (hr : Room k X.A) (hg : Gl X x) (ha : PA X (e :: es) t) (hdb : (x == ("__debug__" : Str)) = false := by decide) (he : starEach (e :: es) X.env = (false, eval e X.env) :: starEach es X.env := by rfl) (hpl : (backTo pos (starEach es X.env)).any (·.1) = false := by rfl) :
    PE X (.Call (.Name x p) (e :: es) [] pos) (tCall sp [] E0 t) := by
  obtain ⟨f, fd, F, m, kp, b⟩ := h
  exact pe_call F hr hg m kp b .nil pass0 ha hdb he hpl
theorem pe_callHG (h : HasG X.prog X.w X.K X.mg X.base k x ps sp) (gd : X.A.guards = some []) (hr : Room k X.A) (hg : Gl X x) (ha : PA X (e :: es) t) (hdb : (x == ("__debug__" : Str)) = false := by decide) (he : starEach (e :: es) X.env = (false, eval e X.env) :: starEach es X.env := by rfl) (hpl : (backTo pos (starEach es X.env)).any (·.1) = false := by rfl) :
    PE X (.Call (.Name x p) (e :: es) [] pos) (tCall sp [] E0 t) := by
  obtain ⟨f, fd, F, m, kp, b⟩ := h
  exact pe_callG F gd hr hg m kp b ha hdb he hpl
end
def forBody : Stmt → List Stmt
  | .For _ _ b _ _ => b
  | _ => []
end K6
namespace K6
open PySem PySem.Spec PyProof.Rows L2 LamX NdefX EV
/-! ### what stands in a turn, behind the making of the code -/
theorem Draw1.okC {sg hp : List Str} {rs : List (List Str)} (D : Draw1 sg hp rs) : OkC sg hp rs := by
  have d4 := D.sg4
  have d3 := D.hp3
  have d7 := D.r7
  exact ⟨by rw [List.length_append]; omega, D.nd, D.good, D.row, by omega⟩
theorem StreamAt.same {H H' : Hp} {S L : Addr} {c : Nat} (h : StreamAt H S L c) (sm : Same H H') : StreamAt H' S L c := by
  obtain ⟨ns, x, m, h1, h2, r⟩ := h
  exact ⟨ns, x, m, sm _ _ h1, sm _ _ h2, r⟩
section
variable {K : PySem.W.Frag} {C : Addr} {H H' : Hp} {S L d ps ph pc N x r : Addr} {sg hp : List Str} {ts : List Addr} {rs : List (List Str)} {c : Nat}
end
section
variable {P : Program} {w : World} {K : PySem.W.Frag} {mg : Str → Option Value} {base : Heap} {C : Addr}
variable {f : Addr} {cdv : Value} {A : Around} {outer : List Env} {s0 : Shared} {HH : Hp} {E : XK}
end
end K6
namespace K6
open PySem PySem.Spec PyProof.Rows L2 LamX NdefX EV
/-! ### things of any kind -/
inductive Thing (H : Hp) : V → Prop
  | str {z : Str} (f : Fit z) (l : z.length ≤ 2000) : Thing H (.str z)
  | non : Thing H .non
  | bl (b : Bool) : Thing H (.bl b)
  | five : Thing H (.int 5)
  | tup {a : Addr} {z : Str} (h : H a = some (.tup [.str z])) (f : Fit z) (l : z.length ≤ 2000) : Thing H (.ref a)
  | lst {a : Addr} {zs : List Str} (h : H a = some (.lst (zs.map V.str))) : Thing H (.ref a)
  | dct {a : Addr} (h : H a = some (.dK [])) : Thing H (.ref a)
theorem Thing.frame {H H' : Hp} {v : V} (t : Thing H v) (k : ∀ a, v = .ref a → H' a = H a) : Thing H' v := by
  cases t with
  | str f l => exact .str f l
  | non => exact .non
  | bl b => exact .bl b
  | five => exact .five
  | tup h f l => exact .tup ((k _ rfl).trans h) f l
  | lst h => exact .lst ((k _ rfl).trans h)
  | dct h => exact .dct ((k _ rfl).trans h)
theorem Thing.at_ {H : Hp} {a : Addr} (t : Thing H (.ref a)) : ∃ o, H a = some o := by
  cases t with
  | tup h f l => exact ⟨_, h⟩
  | lst h => exact ⟨_, h⟩
  | dct h => exact ⟨_, h⟩
theorem Thing.same {H H' : Hp} {v : V} (t : Thing H v) (sm : Same H H') : Thing H' v := t.frame fun a e => by
  subst e
  obtain ⟨o, h⟩ := t.at_
  rw [h, sm _ _ h]
/-- its address, if there is one, was free -/
def New (H : Hp) (v : V) : Prop := ∀ a, v = .ref a → H a = none
theorem Thing.kept {H0 H H' : Hp} {S L : Addr} {v : V} (t : Thing H v) (n : New H0 v) (two : Two H0 S L) (k : Kept S L H H') : Thing H' v := t.frame fun a e => by
  subst e
  obtain ⟨o, h⟩ := t.at_
  obtain ⟨⟨_, g1⟩, ⟨_, g2⟩⟩ := two
  have nn := n a rfl
  rw [h, k _ _ h (fun q => by rw [q, g1] at nn; cases nn) (fun q => by rw [q, g2] at nn; cases nn)]
theorem Thing.put {H0 H : Hp} {D : Addr} {o u : HO} {v : V} (t : Thing H v) (n : New H0 v) (hD : H0 D = some u) : Thing (upd H D o) v := t.frame fun a e => by
  have nn := n a e
  exact upd_ne fun q => by rw [q, hD] at nn; cases nn
theorem New.str {H : Hp} {z : Str} : New H (.str z) := fun _ e => nomatch e
theorem New.kept {H0 H : Hp} {S L : Addr} {v : V} (n : New H v) (k : Kept S L H0 H) (two : Two H S L) : New H0 v := fun a e => by
  obtain ⟨⟨_, g1⟩, ⟨_, g2⟩⟩ := two
  have nn := n a e
  exact k.none nn (fun q => by rw [q, g1] at nn; cases nn) (fun q => by rw [q, g2] at nn; cases nn)
theorem New.same {H0 H : Hp} {v : V} (n : New H v) (k : Same H0 H) : New H0 v := fun a e => k.free (n a e)
/-- no text -/
def NoS (v : V) : Prop := ∀ z, v ≠ .str z
theorem Thing.noStr {K : PySem.W.Frag} {H : Hp} {v : V} (t : Thing H v) (n : NoS v) : ∃ t, (∀ H', Same H H' → TyX K H' v t) ∧ PySem.W.kitOne K t (.type "str") = some false := by
  cases t with
  | str f l => exact (n _ rfl).elim
  | non => exact ⟨_, fun _ _ => .base .non, kit_ty (by decide +kernel)⟩
  | bl b => exact ⟨_, fun _ _ => .base (.bl b), kit_ty (by decide +kernel)⟩
  | five => exact ⟨_, fun _ _ => .base (.int 5), kit_ty (by decide +kernel)⟩
  | tup h f l => exact ⟨_, fun _ sm => .base (.tup (sm _ _ h)), kit_ty (by decide +kernel)⟩
  | lst h => exact ⟨_, fun _ sm => .base (.lst (sm _ _ h)), kit_ty (by decide +kernel)⟩
  | dct h => exact ⟨_, fun _ sm => .base (.dK (sm _ _ h)), kit_ty (by decide +kernel)⟩
theorem fit_of {z : Str} (h : z.cps.toList.all (fun c => decide (c < 128)) = true) : Fit z := fun ch hc => by
  have := List.all_eq_true.mp h ch hc
  simpa using this
/-- a written text -/
theorem Thing.word {H : Hp} (z : Str) (h : z.cps.toList.all (fun c => decide (c < 128)) = true) (l : z.length ≤ 2000) : Thing H (.str z) := .str (fit_of h) l
theorem Thing.strs {H : Hp} {z : Str} (t : Thing H (.str z)) : Fit z ∧ z.length ≤ 2000 := by
  cases t with
  | str f l => exact ⟨f, l⟩
theorem v_cases (v : V) : NoS v ∨ ∃ z, v = .str z := by
  cases v with
  | str z => exact .inr ⟨z, rfl⟩
  | _ => exact .inl fun z q => nomatch q
/-! ### names that are looked through -/
inductive BadN (ns : List Str) : V → Prop
  | odd {x : V} (h : NoS x) : BadN ns x
  | no {z : Str} (h : ¬ Name1 z) : BadN ns (.str z)
  | twice {z : Str} (g : Name1 z) (h : z ∈ ns) : BadN ns (.str z)
inductive CutN : Option Nat → List V → Prop
  | ok {ns : List Str} (nd : ns.Nodup) (good : ∀ z ∈ ns, Name1 z) : CutN none (ns.map V.str)
  | bad {ns : List Str} {x : V} {rest : List V} (nd : ns.Nodup) (good : ∀ z ∈ ns, Name1 z) (b : BadN ns x) : CutN (some ns.length) (ns.map V.str ++ x :: rest)
theorem cutN_ex : ∀ (rest : List V) (ns : List Str), ns.Nodup → (∀ z ∈ ns, Name1 z) → ∃ o, CutN o (ns.map V.str ++ rest)
  | [], ns, nd, good => ⟨none, by rw [List.append_nil]; exact .ok nd good⟩
  | x :: rest, ns, nd, good => by
    rcases v_cases x with h | ⟨z, rfl⟩
    · exact ⟨_, .bad nd good (.odd h)⟩
    · rcases Classical.em (Name1 z) with g | g
      · by_cases m : z ∈ ns
        · exact ⟨_, .bad nd good (.twice g m)⟩
        · have nd2 : (ns ++ [z]).Nodup := List.nodup_append.mpr ⟨nd, by simp, fun a ha b hb e => m (by rw [← List.mem_singleton.mp hb, ← e]; exact ha)⟩
          obtain ⟨o, c⟩ := cutN_ex rest (ns ++ [z]) nd2 fun y hy => (List.mem_append.mp hy).elim (good y) fun q => by rw [List.mem_singleton.mp q]; exact g
          rw [List.map_append, List.append_assoc] at c
          exact ⟨o, c⟩
      · exact ⟨_, .bad nd good (.no g)⟩
theorem cutN (xs : List V) : ∃ o, CutN o xs := cutN_ex xs [] List.nodup_nil fun z h => nomatch h
/-! ### literals that are looked through -/
inductive BadQ (ns : List Str) (qs : List (Bool × Str)) : V → Prop
  | odd {x : V} (h : NoS x) : BadQ ns qs x
  | far {z : Str} (h : z ∉ lits ns) : BadQ ns qs (.str z)
  | twice {q : Bool × Str} (h : q.2 ∈ ns) (h2 : q.2 ∈ qs.map Prod.snd) : BadQ ns qs (.str (lit q))
inductive Cut (ns : List Str) : Option Nat → List V → Prop
  | ok {qs : List (Bool × Str)} (h : Lits ns qs) : Cut ns none ((qs.map lit).map V.str)
  | bad {qs : List (Bool × Str)} {x : V} {rest : List V} (h : Lits ns qs) (b : BadQ ns qs x) : Cut ns (some qs.length) ((qs.map lit).map V.str ++ x :: rest)
theorem lits_lit {ns : List Str} {z : Str} (h : z ∈ lits ns) : ∃ q : Bool × Str, q.2 ∈ ns ∧ lit q = z := by
  obtain ⟨n, hn, e⟩ := List.mem_flatMap.mp h
  rcases List.mem_cons.mp e with e | e
  · exact ⟨(false, n), hn, e.symm⟩
  · exact ⟨(true, n), hn, (List.mem_singleton.mp e).symm⟩
theorem cut_ex (ns : List Str) : ∀ (rest : List V) (qs : List (Bool × Str)), Lits ns qs → ∃ o, Cut ns o ((qs.map lit).map V.str ++ rest)
  | [], qs, h => ⟨none, by rw [List.append_nil]; exact .ok h⟩
  | x :: rest, qs, h => by
    rcases v_cases x with n | ⟨z, rfl⟩
    · exact ⟨_, .bad h (.odd n)⟩
    · by_cases m : z ∈ lits ns
      · obtain ⟨q, hq, rfl⟩ := lits_lit m
        by_cases m2 : q.2 ∈ qs.map Prod.snd
        · exact ⟨_, .bad h (.twice hq m2)⟩
        · have h2 : Lits ns (qs ++ [q]) := ⟨by rw [List.map_append]; exact List.nodup_append.mpr ⟨h.nd, by simp, fun a ha b hb e => m2 (by rw [List.map_singleton] at hb; rw [← List.mem_singleton.mp hb, ← e]; exact ha)⟩,
            fun y hy => (List.mem_append.mp hy).elim (h.sub y) fun w => by rw [List.mem_singleton.mp w]; exact hq⟩
          obtain ⟨o, c⟩ := cut_ex ns rest (qs ++ [q]) h2
          rw [List.map_append, List.map_append, List.append_assoc] at c
          exact ⟨o, c⟩
      · exact ⟨_, .bad h (.far m)⟩
theorem cut_of (ns : List Str) (xs : List V) : ∃ o, Cut ns o xs := cut_ex ns xs [] ⟨List.nodup_nil, fun q h => nomatch h⟩
/-- as the program's rules put it -/
theorem BadQ.badV {K : PySem.W.Frag} {H : Hp} {ns : List Str} {qs : List (Bool × Str)} {x : V} (b : BadQ ns qs x) (t : Thing H x) : BadV K H ns qs x := by
  cases b with
  | odd h =>
    obtain ⟨ty, h1, h2⟩ := t.noStr (K := K) h
    exact .odd ty h1 h2
  | far h => exact .far h
  | twice h h2 => exact .twice h h2
/-! ### what stands in a list of settings -/
inductive ItemAt (H : Hp) : V → Option (List V) → Prop
  | lst {p : Addr} {xs : List V} (h : H p = some (.lst xs)) (t : ∀ x ∈ xs, Thing H x) (few : xs.length ≤ 20) : ItemAt H (.ref p) (some xs)
  | tup {p : Addr} {xs : List V} (h : H p = some (.tup xs)) (t : ∀ x ∈ xs, Thing H x) (few : xs.length ≤ 20) : ItemAt H (.ref p) (some xs)
  | non : ItemAt H .non none
  | five : ItemAt H (.int 5) none
  | bl (b : Bool) : ItemAt H (.bl b) none
  | str {z : Str} : ItemAt H (.str z) none
  | dct {a : Addr} (h : H a = some (.dK [])) : ItemAt H (.ref a) none
theorem ItemAt.frame {H H' : Hp} {v : V} {io : Option (List V)} (i : ItemAt H v io) (k : ∀ a, v = .ref a → H' a = H a) (k2 : ∀ xs, io = some xs → ∀ x ∈ xs, Thing H x → Thing H' x) : ItemAt H' v io := by
  cases i with
  | lst h t few => exact .lst ((k _ rfl).trans h) (fun x hx => k2 _ rfl x hx (t x hx)) few
  | tup h t few => exact .tup ((k _ rfl).trans h) (fun x hx => k2 _ rfl x hx (t x hx)) few
  | non => exact .non
  | five => exact .five
  | bl b => exact .bl b
  | str => exact .str
  | dct h => exact .dct ((k _ rfl).trans h)
theorem ItemAt.at_ {H : Hp} {a : Addr} {io : Option (List V)} (i : ItemAt H (.ref a) io) : ∃ o, H a = some o := by
  cases i with
  | lst h t few => exact ⟨_, h⟩
  | tup h t few => exact ⟨_, h⟩
  | dct h => exact ⟨_, h⟩
theorem ItemAt.same {H H' : Hp} {v : V} {io : Option (List V)} (i : ItemAt H v io) (sm : Same H H') : ItemAt H' v io := i.frame (fun a e => by
  subst e
  obtain ⟨o, h⟩ := i.at_
  rw [h, sm _ _ h]) fun xs e x hx t => t.same sm
end K6
namespace K6
open PySem PySem.Spec PyProof.Rows L2 LamX NdefX EV
/-! ### is a thing a name, asked of any thing -/
theorem all_letters : ∀ ch ∈ letters.cps.toList, 97 ≤ ch ∧ ch ≤ 122 := by decide
def goodB (z : Str) : Bool := (z.cps.toList.map fun ch => decide (ch ∈ letters.cps.toList)).all id
theorem goodB_iff {z : Str} (h1 : 1 ≤ z.length) (h2 : z.length ≤ 8) : goodB z = true ↔ Name1 z := by
  unfold goodB
  rw [List.all_map]
  refine ⟨fun h => ⟨h1, h2, fun ch hc => ?_⟩, fun h => List.all_eq_true.mpr fun ch hc => ?_⟩
  · have z := List.all_eq_true.mp h ch hc
    exact all_letters ch (by simpa using z)
  · show decide (ch ∈ letters.cps.toList) = true
    exact decide_eq_true (in_letters (h.2.2 ch hc))
def spNameX : Sp := fun vs H Q _ => ∃ v : V, vs = [v] ∧ Thing H v ∧ ∀ (b : Bool) H', Same H H' → (b = true ↔ ∃ z, v = .str z ∧ Name1 z) → Q (.bl b) H'
theorem noS_name {v : V} (h : NoS v) : (false = true ↔ ∃ z, v = .str z ∧ Name1 z) := ⟨(fun e => nomatch e), fun ⟨z, e, _⟩ => (h z e).elim⟩
theorem str_name {z : Str} {b : Bool} (h : b = true ↔ Name1 z) : (b = true ↔ ∃ y, V.str z = .str y ∧ Name1 y) := by
  refine h.trans ⟨fun g => ⟨z, rfl, g⟩, fun ⟨y, e, g⟩ => ?_⟩
  injection e with e
  exact e ▸ g
section
variable {P : Program} {w : World} {K : PySem.W.Frag} {mg : Str → Option Value} {base : Heap} {f fI : Addr} {fd fdI : FuncData}
theorem ok_isNameX (F : Fun K "is_name" "is_name" sIsName f fd) (mi : mg "isinstance" = none) (ms : mg "str" = none) (ml : mg "len" = none) (ma : mg "all" = none) (mL : ∃ t, mg "LETTERS" = some (.str letters t)) (mM : ∃ t, mg "MOST_LETTERS" = some (.int 8 t)) :
    FnOk P w K mg base CX0 1 f fd ["thing"] spNameX := by
  obtain ⟨tL, mL⟩ := mL
  obtain ⟨tM, mM⟩ := mM
  refine F.ok scIsName (fun vs H Q E h => ?_) (fun cdv A outer s H vs Q E hr h => ?_)
  · obtain ⟨z, rfl, _⟩ := h
    rfl
  · obtain ⟨v, rfl, th, k⟩ := h
    refine ⟨_, pss_cons (ps_if (PW.pt (pw_or (pt_not (pt_val (pe_callB call_isi (by rfl) mi (by decide +kernel) (pa_cons (pv 0) (pa_cons (pe_bltn (v := .ty "str") (by rfl) ms (by decide +kernel) rfl) pa_nil))))) (pw_or1 (pt_not (pt_chain op_le op_le pe_int (pe_callB call_len (by rfl) ml PySem.boot_len (pa_cons (pv 0) pa_nil)) (pe_glob (v := .int 8) (by rfl) mM ⟨_, rfl⟩))))))
        (pss_one (ps_ret pe_bl)) pss_nil)
      (pss_one (ps_ret (pe_callB (cr_all rfl) (by rfl) ma (by decide +kernel) (pa_cons (pe_lc (own := [("letter", 1)]) (g := gName 1) (tt := tYes) rfl scIsName.nd (pi_str (pv 0)) (blkOk_by (N := nIsName) (sc := defScope sIsName) (by decide +kernel))
          (fun _ _ _ _ _ => pg_name (i := 1) scIsName.nd rfl (.inl rfl)) (fun _ _ _ _ _ => pts_nil) (fun _ _ _ _ _ => pe_cmpR op_in_sign (pv 1) (pe_glob (v := .str letters) (by rfl) mL ⟨_, rfl⟩) rfl)) pa_nil)))), ?_⟩
    rcases v_cases v with ns | ⟨z, rfl⟩
    · obtain ⟨t, ty, kit⟩ := th.noStr (K := K) ns
      exact ⟨_, rfl, _, _, _, _, false, rfl, .ty "str", ty H (Same.refl H), kit, _, rfl, iteT (k false H (Same.refl H) (noS_name ns))⟩
    obtain ⟨fit, l40⟩ := th.strs
    have lz : z.length ≤ sizeLine := by rw [sizeLine_eq]; omega
    refine ⟨_, rfl, _, _, _, _, true, rfl, .ty "str", .base (.str z), kit_ty (by decide +kernel), _, rfl, ?_⟩
    refine iteF ⟨_, rfl, _, z.length, rfl, ⟨lz, rfl⟩, ?_⟩
    refine ⟨_, _, rfl, rfl, _, rfl, ?_⟩
    by_cases c1 : (1 : Int) ≤ ((z.length : Nat) : Int)
    case neg =>
      rw [decide_eq_false c1]
      have no : false = true ↔ Name1 z := ⟨(fun e => nomatch e), fun g => (c1 (by have := g.1; omega)).elim⟩
      exact iteF ⟨_, rfl, iteT (k false H (Same.refl H) (str_name no))⟩
    rw [decide_eq_true c1]
    refine iteT ⟨_, _, rfl, rfl, _, rfl, ?_⟩
    by_cases c2 : ((z.length : Nat) : Int) ≤ 8
    case neg =>
      rw [decide_eq_false c2]
      exact iteT (k false H (Same.refl H) (str_name ⟨(fun e => nomatch e), fun g => (c2 (by have := g.2.1; omega)).elim⟩))
    rw [decide_eq_true c2]
    refine iteF ⟨_, rfl, z, rfl, fun D hD => lc_it walk_str (fun i H2 => Same H H2 ∧ H2 D = some (.lst (((z.cps.toList.take i).map fun ch => decide (ch ∈ letters.cps.toList)).map V.bl))) ⟨same_new hD, upd_same⟩ (fun _ _ _ _ => trivial) ?_ ?_⟩
    · rintro i x H2 H3 hi ⟨sm, hD2⟩ ⟨rfl, ch, hch, rfl⟩
      have hch2 : z.cps.toList[i]? = some ch := by rw [Array.getElem?_toList]; exact hch
      refine ⟨rfl, _, rfl, ch, letters, rfl, rfl, _, hD2, by rw [List.length_map, List.length_map, List.length_take, sizeLine_eq]; have : z.cps.toList.length = z.length := Array.length_toList; omega, fun b o e => (upd_ne (ne_of_none e hD)).trans (sm b o e), ?_⟩
      rw [upd_same, List.take_succ, hch2, List.map_append, List.map_append]
      rfl
    · rintro H2 ⟨sm, hD2⟩
      refine ⟨D, _, rfl, SqL.of hD2, ?_⟩
      have e : z.cps.toList.take z.cps.size = z.cps.toList := List.take_of_length_le (by rw [Array.length_toList]; exact Nat.le_refl _)
      rw [e]
      exact k _ H2 sm (str_name (goodB_iff (by omega) (by omega)))
end
end K6
namespace K6
open PySem PySem.Spec PyProof.Rows L2 LamX NdefX EV
def oV : Option Nat → V
  | none => .non
  | some i => .int (i : Int)
theorem CutN.split {o : Option Nat} {xs : List V} (c : CutN o xs) : ∃ (ns : List Str) (tail : List V), ns.Nodup ∧ (∀ z ∈ ns, Name1 z) ∧ xs = ns.map V.str ++ tail ∧ (tail = [] → o = none) ∧ ∀ x rest, tail = x :: rest → o = some ns.length ∧ BadN ns x := by
  cases c with
  | @ok ns nd good => exact ⟨ns, [], nd, good, (List.append_nil _).symm, fun _ => rfl, fun _ _ e => nomatch e⟩
  | @bad ns x rest nd good b => exact ⟨ns, x :: rest, nd, good, rfl, (fun e => nomatch e), fun y r e => by injection e with e1 _; exact ⟨rfl, e1 ▸ b⟩⟩
theorem tail_at {α : Type} {ys tail : List α} {i : Nat} {v : α} (hi : ¬ i < ys.length) (ile : i ≤ ys.length) (h : (ys ++ tail)[i]? = some v) : i = ys.length ∧ ∃ rest, tail = v :: rest := by
  have e : i = ys.length := by omega
  refine ⟨e, ?_⟩
  rw [List.getElem?_append_right (by omega), e, Nat.sub_self] at h
  cases tail with
  | nil => cases h
  | cons y s => exact ⟨s, by rw [← Option.some.inj h]⟩
/-! ### errors of own classes: what is told -/
structure XT (K : PySem.W.Frag) (mg : Str → Option Value) (x fld : Str) (C fI : Addr) : Prop where
  ox : OexC K C
  xf : XfC K C
  ini : PySem.W.findIn K (.ref C) "__init__" = some (some (.ref fI))
  ty : PySem.W.typeIn K (.ref fI) = some (.type "function")
  n : PySem.W.findIn K (.ref C) fld = some none
  g : mg x = some (.ref C)
structure OT (K : PySem.W.Frag) (mg : Str → Option Value) (O : Addr) : Prop where
  r : ClX.CRead K O (.type "type")
  v : PySem.W.findCls K (.ref O) (.type "type") "__init__" = some (.val (.builtin "ValueError.__init__"))
  g : mg "OpenError" = some (.ref O)
def spI1 (K : PySem.W.Frag) (f : Str) : Sp := fun vs H Q _ => ∃ (a C : Addr) (x : V), vs = [.ref a, x] ∧ OexC K C ∧ PySem.W.findIn K (.ref C) f = some none ∧ H a = some (exo a C none) ∧
  ∀ dx, H dx = none → dx ≠ a → Q .non (upd (upd H dx (exd dx [(f, x)])) a (exo a C (some dx)))
/-- the way out: an error of C with this field -/
def Told (C : Addr) (fld : Str) (x : V) (H : Hp) (E : XK) : Prop := ∀ (d : Addr) (H' : Hp), H' d = some (.xd [(fld, x)]) → Same H H' → E (.ref C) (some d) H'
theorem Told.of {C : Addr} {fld : Str} {x : V} {H H' : Hp} {E : XK} (t : Told C fld x H E) (sm : Same H H') : Told C fld x H' E := fun d H2 h s2 => t d H2 h (sm.trans s2)
/-- what the making of the error leaves -/
theorem way_same {H : Hp} {a dx : Addr} {o1 o2 o3 o4 : HO} (ha : H a = none) (hdx : upd H a o1 dx = none) (nda : dx ≠ a) : Same H (upd (del (upd (upd (upd H a o1) dx o2) a o3) a) dx o4) := fun z o h => by
  have na : z ≠ a := ne_of_none h ha
  have nd : z ≠ dx := ne_of_none h ((upd_ne nda).symm.trans hdx)
  rw [upd_ne nd, del_ne na, upd_ne na, upd_ne nd, upd_ne na]
  exact h
theorem funE_okX {P : Program} {w : World} {K : PySem.W.Frag} {mg : Str → Option Value} {base : Heap} {x q : Str} {st : Stmt} {f A0 : Addr} {fd : FuncData} {N ps : List Str} {k : Nat} {sp : Sp} (F : FunE K x q st f fd A0) (S : FnScope N ps (defScope st)) (len : ∀ vs H Q E, sp vs H Q E → vs.length = ps.length)
    (b : ∀ (cdv : Value) (A : Around) (outer : List Env) (s : Shared) (H : Hp) (vs : List V) (Q : VK) (E : XK), Room k (A.deeper (envOfC q (defScope st) s.heap.objs.size f cdv)) → sp vs H Q E →
      ∃ t, PSs (cxOf (L2.CX P w) P w K mg base N q (defScope st) f cdv A outer s H E) (defBody st) t ∧ t { nx := fun _ H' => Q .non H', rt := Q } (L2.start N vs) H) : FnOk P w K mg base (L2.CX P w) (k + 1) f fd ps sp := by
  obtain ⟨oc, od, dV, kV, doc, pm, an, cdv, ct, osl, rfl, lk, hcd, _⟩ := F.fn.ex
  exact fn_of lk hcd S len fun A outer s H vs Q E hr hsp => b cdv A outer s H vs Q E hr hsp
section
variable {P : Program} {w : World} {K : PySem.W.Frag} {mg : Str → Option Value} {base : Heap} {f fI fJ O C : Addr} {fd fdI fdJ : FuncData}
abbrev sIB : Stmt := inClass (top 4) 0
theorem scIB : FnScope ["self", "index"] ["self", "index"] (defScope sIB) := ⟨rfl, rfl, rfl, by decide +kernel, rfl, by decide +kernel, by decide +kernel⟩
theorem ok_iB (F : Fun K "__init__" "BadSetting.__init__" sIB f fd) (T : OT K mg O) : FnOk P w K mg base CX0 1 f fd ["self", "index"] (spI1 K "index") := by
  refine F.ok scIB (fun vs H Q E h => ?_) (fun cdv A outer s H vs Q E hr h => ?_)
  · obtain ⟨a, C, x, rfl, _⟩ := h
    rfl
  · obtain ⟨a, C, x, rfl, X0, n1, ha, k⟩ := h
    refine ⟨_, pss_cons (ps_expr (pe_binit T.r T.v (by rfl) T.g (pa_cons (pv 0) (pa_cons pe_str pa_nil)))) (pss_one (ps_ost (pv 0) (pv 1))), _, rfl, a, C, _, rfl, (by show 1 ≤ 1000; decide), X0, ha, ?_⟩
    exact ⟨_, rfl, _, rfl, a, C, rfl, X0, n1, .inl ⟨ha, k⟩⟩
end
end K6
namespace K6
open PySem PySem.Spec PyProof.Rows L2 LamX NdefX EV
/-! ### the name of any text -/
def bareS (z : Str) : Str := if cutS z none (some 1) = Str.ofString "-" then cutS z (some 1) none else z
theorem cut_one (z : Str) : cutS z none (some 1) = Str.mk ((z.cps.toList.take 1).toArray) := by
  unfold cutS
  rw [HT.sIx_none, show HT.sIx z.length z.length (some 1) = min 1 z.length from HT.sIx_nat _ _ 1, List.drop_zero, Nat.sub_zero]
  by_cases h : 1 ≤ z.length
  · rw [Nat.min_eq_left h]
  · have e : z.cps.toList = [] := List.eq_nil_of_length_eq_zero (by have : z.cps.toList.length = z.length := Array.length_toList; omega)
    rw [e]
    simp
theorem dash_neg {z : Str} (h : cutS z none (some 1) = Str.ofString "-") : ∃ n, z = neg n := by
  rw [cut_one] at h
  have h2 := congrArg (fun s : Str => s.cps.toList) h
  replace h2 : ((z.cps.toList.take 1).toArray).toList = [45] := h2
  rw [List.toList_toArray] at h2
  cases e : z.cps.toList with
  | nil => rw [e] at h2; cases h2
  | cons c t =>
    rw [e] at h2
    have c45 : c = 45 := by simpa using h2
    refine ⟨⟨t.toArray⟩, ?_⟩
    have : z.cps = (neg ⟨t.toArray⟩).cps := by
      apply Array.toList_inj.mp
      rw [neg_list, e, c45]
    cases z
    exact congrArg Str.mk this
theorem dash_lit {q : Bool × Str} (g : Name1 q.2) : cutS (lit q) none (some 1) = Str.ofString "-" ↔ q.1 = true := by
  obtain ⟨b, n⟩ := q
  cases b
  · refine ⟨fun h => ?_, fun h => nomatch h⟩
    obtain ⟨m, e⟩ := dash_neg h
    have e : n = neg m := e
    have z := g.2.2 45 (by show 45 ∈ n.cps.toList; rw [e, neg_list]; exact List.mem_cons_self)
    omega
  · refine ⟨fun _ => rfl, fun _ => ?_⟩
    rw [cut_one, show lit (true, n) = neg n from rfl, neg_list]
    rfl
theorem bareS_lit {q : Bool × Str} (g : Name1 q.2) : bareS (lit q) = q.2 := by
  obtain ⟨b, n⟩ := q
  unfold bareS
  cases b
  · rw [if_neg fun h => Bool.noConfusion ((dash_lit g).mp h)]
    rfl
  · rw [if_pos ((dash_lit (q := (true, n)) g).mpr rfl)]
    exact cut_neg n
theorem bareS_far {ns : List Str} {z : Str} (h : z ∉ lits ns) : bareS z ∉ ns := fun m => by
  unfold bareS at m
  by_cases c : cutS z none (some 1) = Str.ofString "-"
  · rw [if_pos c] at m
    obtain ⟨n, rfl⟩ := dash_neg c
    rw [cut_neg] at m
    exact h (lit_mem (q := (true, n)) m)
  · rw [if_neg c] at m
    exact h (lit_mem (q := (false, z)) m)
theorem Cut.split {ns : List Str} {o : Option Nat} {xs : List V} (c : Cut ns o xs) : ∃ (qs : List (Bool × Str)) (tail : List V), Lits ns qs ∧ xs = (qs.map lit).map V.str ++ tail ∧ (tail = [] → o = none) ∧ ∀ x rest, tail = x :: rest → o = some qs.length ∧ BadQ ns qs x := by
  cases c with
  | @ok qs h => exact ⟨qs, [], h, (List.append_nil _).symm, fun _ => rfl, fun _ _ e => nomatch e⟩
  | @bad qs x rest h b => exact ⟨qs, x :: rest, h, rfl, (fun e => nomatch e), fun y r e => by injection e with e1 _; exact ⟨rfl, e1 ▸ b⟩⟩
theorem Lits.few {ns : List Str} {qs : List (Bool × Str)} (h : Lits ns qs) : qs.length ≤ ns.length := by
  have z := nodup_le (qs.map Prod.snd) ns h.nd fun n hn => by
    obtain ⟨q, hq', rfl⟩ := List.mem_map.mp hn
    exact h.sub q hq'
  rwa [List.length_map] at z
/-- the answer: where a thing is no half-filled setting -/
def CutI (ns : List Str) : Option (List V) → Option Nat → Prop
  | none, o => o = some 0
  | some xs, o => Cut ns o xs
theorem cutI (ns : List Str) (io : Option (List V)) : ∃ o, CutI ns io o := by
  cases io with
  | none => exact ⟨_, rfl⟩
  | some xs => exact cut_of ns xs
theorem ItemAt.kit {K : PySem.W.Frag} {H : Hp} {v : V} {io : Option (List V)} (h : ItemAt H v io) : ∃ t, (∀ H', Same H H' → TyX K H' v t) ∧ PySem.W.kitAny K t [.type "list", .type "tuple"] = some io.isSome := by
  have no : ∀ {a : String}, kitB a "list" = some false → kitB a "tuple" = some false → PySem.W.kitAny K (.type a) [.type "list", .type "tuple"] = some false := fun h1 h2 =>
    kitAny_cons (b := false) (kit_ty h1) (fun _ => kitAny_cons (b := false) (kit_ty h2) (fun _ => rfl) fun z => nomatch z) (fun z => nomatch z)
  cases h with
  | lst h t few => exact ⟨.type "list", fun _ sm => .base (.lst (sm _ _ h)), kit_seq true⟩
  | tup h t few => exact ⟨.type "tuple", fun _ sm => .base (.tup (sm _ _ h)), kit_seq false⟩
  | non => exact ⟨_, fun _ _ => .base .non, no (by decide +kernel) (by decide +kernel)⟩
  | five => exact ⟨_, fun _ _ => .base (.int 5), no (by decide +kernel) (by decide +kernel)⟩
  | bl b => exact ⟨_, fun _ _ => .base (.bl b), no (by decide +kernel) (by decide +kernel)⟩
  | str => exact ⟨_, fun _ _ => .base (.str _), no (by decide +kernel) (by decide +kernel)⟩
  | dct h => exact ⟨_, fun _ sm => .base (.dK (sm _ _ h)), no (by decide +kernel) (by decide +kernel)⟩
theorem ItemAt.seq {K : PySem.W.Frag} {H : Hp} {v : V} {xs : List V} (h : ItemAt H v (some xs)) : ∃ (A : Addr) (b : Bool), v = .ref A ∧ (∀ H', Same H H' → Sq K b H' A xs) ∧ (∀ x ∈ xs, Thing H x) ∧ xs.length ≤ 20 := by
  cases h with
  | lst h t few => exact ⟨_, true, rfl, fun _ sm => SqL.of (sm _ _ h), t, few⟩
  | tup h t few => exact ⟨_, false, rfl, fun _ sm => Sq.tup (sm _ _ h), t, few⟩
def spWrongX (K : PySem.W.Frag) : Sp := fun vs H Q _ => ∃ (PL A : Addr) (b : Bool) (ns : List Str) (xs : List V) (o : Option Nat), vs = [.ref PL, .ref A] ∧ H PL = some (.dK (plc ns)) ∧ (∀ H', Same H H' → Sq K b H' A xs) ∧ ns.length ≤ 60 ∧ ns.Nodup ∧ (∀ z ∈ ns, Name1 z) ∧ (∀ x ∈ xs, Thing H x) ∧ Cut ns o xs ∧ ∀ H', Same H H' → Q (oV o) H'
section
variable {P : Program} {w : World} {K : PySem.W.Frag} {mg : Str → Option Value} {base : Heap} {f fN : Addr} {fd fdN : FuncData}
theorem ok_wrongX (F : Fun K "first_wrong" "first_wrong" sWrong f fd) (GN : FnOk P w K mg base CX0 1 fN fdN ["literal"] spNameOf) (mN : mg "name_of" = some (.ref fN)) (kN : PySem.W.keepIn K (.ref fN) = true) (bN : L2.Binds K fdN ["literal"] []) (me : mg "enumerate" = none) (mi : mg "isinstance" = none) (ms : mg "str" = none) :
    FnOk P w K mg base CX0 2 f fd ["places", "things"] (spWrongX K) := by
  refine F.ok scWrong (fun vs H Q E h => ?_) (fun cdv A' outer s H vs Q E hr h => ?_)
  · obtain ⟨PL, A, b, ns, xs, r, rfl, _⟩ := h
    rfl
  · obtain ⟨PL, A, b, ns, xs, r, rfl, hPL, hA', hn, nd, good, th, cut, k⟩ := h
    have hu := hu_of hr
    refine ⟨_, pss_cons (ps_set (i := 2) scWrong.nd rfl (.inl rfl) pe_dnewK)
      (pss_cons (ps_for PassesOwn.never rfl (pi_enumB (by rfl) me (pa_cons (pv 1) pa_nil)) (pg_tup rfl (pgs_cons (pg_name (i := 3) scWrong.nd rfl (.inl rfl)) (pgs_cons (pg_name (i := 4) scWrong.nd rfl (.inl rfl)) pgs_nil)))
        (pss_cons (ps_if (PW.pt (pw_or (pt_not (pt_val (pe_callB call_isi (by rfl) mi (by decide +kernel) (pa_cons (pv 4) (pa_cons (pe_bltn (v := .ty "str") (by rfl) ms (by decide +kernel) rfl) pa_nil))))) (pw_or (pt_cmp (pc_dnotin hu (pv 4) (pv 0))) (pw_or1 (pt_cmp (pc_din hu (pe_call GN hr (by rfl) mN kN bN .nil pass0 (pa_cons (pv 4) pa_nil)) (pv 2))))))) (pss_one (ps_ret (pv 3))) pss_nil)
        (pss_one (ps_dput hu (pv 2) (pe_call GN hr (by rfl) mN kN bN .nil pass0 (pa_cons (pv 4) pa_nil)) pe_bl rfl))))
      (pss_one (ps_ret pe_non))), ?_⟩
    obtain ⟨qs, tail, hq, rfl, h1, h2⟩ := cut.split
    have few := hq.few
    have ll : ((qs.map lit).map V.str).length = qs.length := by rw [List.length_map, List.length_map]
    refine fun d hd => ⟨_, rfl, b, A, _, rfl, hA' _ (same_new hd), for_it walk_enumB (fun i σ H2 => ∃ o3 o4, σ = [some (.ref PL), some (.ref A), some (.ref d), o3, o4] ∧ i ≤ qs.length ∧ Same H H2 ∧ H2 d = some (.dK (((qs.map Prod.snd).take i).map seenKv))) ⟨_, _, rfl, Nat.zero_le _, same_new hd, upd_same⟩ (fun i σ H2 _ ⟨_, _, _, _, sm, _⟩ => hA' _ sm) ?_ ?_⟩
    · rintro i x σ H2 H3 hi ⟨o3, o4, rfl, ile, sm, hd2⟩ ⟨t, v1, v2, rfl, ht, rfl, hv1, hv2⟩
      obtain rfl := Option.some.inj hv1
      replace hv2 : ((qs.map lit).map V.str ++ tail)[i]? = some v2 := hv2
      have hd3 := (upd_ne (o := .tup [.int (i : Nat), v2]) (ne_of_none hd2 ht)).trans hd2
      have sm3 : Same H (upd H2 t (.tup [.int (i : Nat), v2])) := sm.trans (same_new ht)
      have hPL3 := sm3 _ _ hPL
      have tv : Thing (upd H2 t (.tup [.int (i : Nat), v2])) v2 := (th v2 (List.mem_of_getElem? hv2)).same sm3
      refine ⟨t, _, rfl, SqT.of upd_same, rfl, _, _, rfl, _, _, rfl, rfl, _, rfl, ?_⟩
      generalize upd H2 t (.tup [.int (i : Nat), v2]) = H4 at *
      by_cases ilt : i < qs.length
      · obtain ⟨q, hqi⟩ : ∃ q, qs[i]? = some q := ⟨_, List.getElem?_eq_getElem ilt⟩
        have ev : v2 = .str (lit q) := by
          rw [List.getElem?_append_left (by rw [ll]; exact ilt), List.getElem?_map, List.getElem?_map, hqi] at hv2
          exact (Option.some.inj hv2).symm
        subst ev
        have mem := List.mem_of_getElem? hqi
        have qn : (qs.map Prod.snd)[i]? = some q.2 := by rw [List.getElem?_map, hqi]; rfl
        have fresh := not_before hq.nd qn
        obtain ⟨v, hv⟩ := plc_some nd good (lit_mem (hq.sub q mem))
        have g1 : DGet H4 PL (.str (lit q)) (some v) := hv ▸ DGet.k (k := Sum.inr (lit q)) hPL3
        have g2 : DGet H4 d (.str q.2) none := seen_none _ fresh ▸ DGet.k (k := Sum.inr q.2) hd3
        refine ⟨_, _, _, _, true, rfl, .ty "str", .base (.str _), kit_ty (by decide +kernel), _, rfl, iteF ⟨_, rfl, _, rfl, PL, _, rfl, g1, _, rfl, iteF ⟨_, rfl, q, rfl, good _ (hq.sub q mem), _, rfl, d, _, rfl, g2, _, rfl, iteF ?_⟩⟩⟩
        refine ⟨_, rfl, _, rfl, q, rfl, good _ (hq.sub q mem), d, _, rfl, DPut.k (k := Sum.inr q.2) hd3 (by rw [List.length_map, List.length_take, sizeLine_eq]; omega), _, _, rfl, ilt, fun c o h => (upd_ne (ne_of_none h hd)).trans (sm3 c o h), ?_⟩
        rw [upd_same, putK_new (seen_none _ fresh), List.take_succ, qn, List.map_append]
        rfl
      · obtain ⟨ie, rest, et⟩ := tail_at (ys := (qs.map lit).map V.str) (by rw [ll]; exact ilt) (by rw [ll]; exact ile) hv2
        rw [ll] at ie
        obtain ⟨er, bad⟩ := h2 v2 rest et
        have fin : Q (.int (i : Int)) H4 := by
          have z := k H4 sm3
          rw [er, ← ie] at z
          exact z
        cases bad with
        | odd h =>
          obtain ⟨ty0, ty1, kit1⟩ := tv.noStr (K := K) h
          exact ⟨_, _, _, _, false, rfl, .ty "str", ty1 _ (Same.refl _), kit1, _, rfl, iteT ⟨_, rfl, fin⟩⟩
        | @far z h =>
          have g1 : DGet H4 PL (.str z) none := plcF_none _ 0 h ▸ DGet.k (k := Sum.inr z) hPL3
          exact ⟨_, _, _, _, true, rfl, .ty "str", .base (.str _), kit_ty (by decide +kernel), _, rfl, iteF ⟨_, rfl, _, rfl, PL, _, rfl, g1, _, rfl, iteT ⟨_, rfl, fin⟩⟩⟩
        | @twice q hq1 hq2 =>
          obtain ⟨v, hv⟩ := plc_some nd good (lit_mem hq1)
          have g1 : DGet H4 PL (.str (lit q)) (some v) := hv ▸ DGet.k (k := Sum.inr (lit q)) hPL3
          have g2 : DGet H4 d (.str q.2) (some (.bl true)) := by
            have z := DGet.k (k := Sum.inr q.2) hd3
            rwa [ie, List.take_of_length_le (by rw [List.length_map]; exact Nat.le_refl _), seen_some _ hq2] at z
          exact ⟨_, _, _, _, true, rfl, .ty "str", .base (.str _), kit_ty (by decide +kernel), _, rfl, iteF ⟨_, rfl, _, rfl, PL, _, rfl, g1, _, rfl, iteF ⟨_, rfl, q, rfl, good _ hq1, _, rfl, d, _, rfl, g2, _, rfl, iteT ⟨_, rfl, fin⟩⟩⟩⟩
    · rintro σ H2 ⟨o3, o4, rfl, ile, sm, hd2⟩
      rw [List.length_append, ll] at ile
      have z := k H2 sm
      rw [h1 (List.eq_nil_of_length_eq_zero (by omega))] at z
      exact z
end
end K6
namespace K6
open PySem PySem.Spec PyProof.Rows L2 LamX NdefX EV
theorem kept_upd {S L p : Addr} {H H' : Hp} {o : HO} (k : Kept S L H H') (hp : H p = none) : Kept S L H (upd H' p o) := fun b u e n1 n2 => (upd_ne (ne_of_none e hp)).trans (k b u e n1 n2)
end K6
namespace K6
open PySem PySem.Spec PyProof.Rows L2 LamX NdefX EV
theorem perm_inv {α β : Type} {f : α → β} : ∀ {l ys : List β}, l.Perm ys → ∀ qs : List α, ys = qs.map f → ∃ ps : List α, l = ps.map f ∧ ps.Perm qs := by
  intro l ys h
  induction h with
  | nil =>
    intro qs e
    cases qs with
    | nil => exact ⟨[], rfl, .nil⟩
    | cons q r => cases e
  | @cons x l1 l2 h ih =>
    intro qs e
    cases qs with
    | nil => cases e
    | cons q r =>
      injection e with e1 e2
      obtain ⟨ps, rfl, hp⟩ := ih r e2
      exact ⟨q :: ps, by rw [e1]; rfl, hp.cons q⟩
  | swap x y l =>
    intro qs e
    match qs, e with
    | q :: q2 :: r, e =>
      injection e with e1 e2
      injection e2 with e2 e3
      exact ⟨q2 :: q :: r, by rw [e1, e2, e3]; rfl, .swap ..⟩
  | trans _ _ ih1 ih2 =>
    intro qs e
    obtain ⟨ps, e2, hp⟩ := ih2 qs e
    obtain ⟨ps2, e3, hp2⟩ := ih1 ps e2
    exact ⟨ps2, e3, hp2.trans hp⟩
def sideV : Option (Bool × Str) → V
  | some q => .str (lit q)
  | none => .str (Str.ofString "")
theorem lit_ne {q : Bool × Str} (g : Name1 q.2) : lit q ≠ Str.ofString "" := fun e => by
  have z := congrArg Str.length e
  obtain ⟨b, n⟩ := q
  have g1 : 1 ≤ n.length := g.1
  cases b
  · have z : n.length = 0 := z
    omega
  · have z : (neg n).length = 0 := z
    rw [neg_len] at z
    omega
def spHalf (K : PySem.W.Frag) : Sp := fun vs H Q _ => ∃ (S L T : Addr) (ns : List Str) (c : Nat), vs = [.ref S, .ref T] ∧ SqL K H T (ns.map V.str) ∧ (∀ H', Kept S L H H' → SqL K H' T (ns.map V.str)) ∧ ns.length ≤ 60 ∧ ns.Nodup ∧ (∀ z ∈ ns, Name1 z) ∧ c ≤ 80000 ∧ StreamAt H S L c ∧
  ∀ (qs : List (Bool × Str)) (p : Addr) (c' : Nat) (H' : Hp), Lits ns qs → H p = none → H' p = some (.lst ((qs.map lit).map V.str)) → c' ≤ c + 120 → StreamAt H' S L c' → Kept S L H H' → Q (.ref p) H'
section
variable {P : Program} {w : World} {K : PySem.W.Frag} {mg : Str → Option Value} {base : Heap} {f fD fM fS : Addr} {fd fdD fdM fdS : FuncData}
abbrev nHalf : List Str := ["_law_stream", "_law_names_here", "_law_found", "_law_name", "_law_one"]
theorem scHalf : FnScope nHalf ["_law_stream", "_law_names_here"] (defScope sHalf) := ⟨rfl, rfl, rfl, by decide +kernel, rfl, by decide +kernel, by decide +kernel⟩
theorem ok_half (F : Fun K "_law_half" "_law_half" sHalf f fd) (GD : FnOk P w K mg base CX0 1 fD fdD ["_law_stream", "_law_many"] spDraw) (mD : mg "_law_draw" = some (.ref fD)) (kD : PySem.W.keepIn K (.ref fD) = true) (bD : L2.Binds K fdD ["_law_stream", "_law_many"] [])
    (GM : FnOk P w K mg base CX0 2 fM fdM ["_law_stream", "_law_things"] (spMixed K)) (mM : mg "_law_mixed" = some (.ref fM)) (kM : PySem.W.keepIn K (.ref fM) = true) (bM : L2.Binds K fdM ["_law_stream", "_law_things"] []) :
    FnOk P w K mg base CX0 3 f fd ["_law_stream", "_law_names_here"] (spHalf K) := by
  refine F.ok scHalf (fun vs H Q E h => ?_) (fun cdv A outer s H vs Q E hr h => ?_)
  · obtain ⟨S, L, T, ns, c, rfl, _⟩ := h
    rfl
  · obtain ⟨S, L, T, ns, c, rfl, hT, hT', hn, nd, good, hc, hS, k⟩ := h
    have hr1 : Room 1 _ := hr.mono (by decide)
    refine ⟨_, pss_cons (ps_setLc (i := 2) (own := [("_law_name", 3)]) (g := gName 3) (tt := tYes) rfl scHalf.nd rfl rfl (sw_true rfl rfl rfl (by decide +kernel)) (pi_list (pv 1)) (blkOk_by (N := nHalf) (sc := defScope sHalf) (by decide +kernel))
          (fun _ _ _ _ _ => pg_name (i := 3) scHalf.nd rfl (.inl rfl)) (fun _ _ _ _ _ => pts_nil)
          (fun _ _ _ _ _ => pe_ix (show IxR _ (rIxT K) from ix_tup) (pe_tup (pa_cons (pv 3) (pa_cons (pe_op op_add_str pe_str (pv 3)) (pa_cons pe_str pa_nil)))) (pe_call GD hr1 (by rfl) mD kD bD .nil pass0 (pa_cons (pv 0) (pa_cons pe_int pa_nil))) (fun _ _ => rfl)))
      (pss_one (ps_ret (pe_call GM hr (by rfl) mM kM bM .nil pass0 (pa_cons (pv 0) (pa_cons (pe_lc (own := [("_law_one", 4)]) (g := gName 4) rfl scHalf.nd (pi_list (pv 2)) (blkOk_by (N := nHalf) (sc := defScope sHalf) (by decide +kernel))
          (fun _ _ _ _ _ => pg_name (i := 4) scHalf.nd rfl (.inl rfl)) (fun _ _ _ _ _ => pts_one (pt_cmpR op_ne (pv 4) pe_str (nomark _)))
          (fun _ _ _ _ _ => pv 4)) pa_nil))))), ?_⟩
    refine ⟨_, rfl, T, rfl, ⟨_, hT⟩, fun D hD => lc_list (K := K) (a := T) (xs := ns.map V.str) (fun i H2 => ∃ acc : List (Option (Bool × Str)), acc.length = i ∧ ((acc.filterMap id).map Prod.snd).Sublist (ns.take i) ∧ H2 D = some (.lst (acc.map sideV)) ∧ StreamAt H2 S L (c + i) ∧ Kept S L H H2)
      ⟨[], rfl, List.nil_sublist _, upd_same, hS.new hD, (Kept.refl H).new hD⟩ (fun i H2 hi ⟨_, _, _, _, _, hk2⟩ => hT' _ hk2) ?_ ?_⟩
    · rintro i x H2 hx ⟨acc, la, sub, hD2, hS2, hk2⟩
      obtain ⟨n, hn', rfl⟩ := get_map hx
      have n8 := (good n (List.mem_of_getElem? hn')).2.1
      have offD := hS.off hD
      have ilt : i < ns.length := (List.getElem?_eq_some_iff.mp hn').1
      refine ⟨rfl, _, rfl, _, rfl, _, _, rfl, rfl, by show 1 + n.length ≤ sizeLine; rw [sizeLine_eq]; omega, by show 3 ≤ sizeLine; decide, fun t ht => ?_⟩
      have st : Same H2 _ := same_new (o := .tup [.str n, .str (neg n), .str (Str.ofString "")]) ht
      have hS3 := hS2.new (o := .tup [.str n, .str (neg n), .str (Str.ofString "")]) ht
      have ht3 : upd H2 t (.tup [.str n, .str (neg n), .str (Str.ofString "")]) t = some (.tup [.str n, .str (neg n), .str (Str.ofString "")]) := upd_same
      refine ⟨_, rfl, S, L, 3, _, rfl, by decide, by decide, by omega, hS3, fun r H4 r0 r1 hS4 hk4 => ?_⟩
      have offt := hS2.off ht
      have ht4 := hk4 _ _ ht3 offt.1 offt.2
      have hD4 := hk4 _ _ (st _ _ hD2) offD.1 offD.2
      have hk24 : Kept S L H H4 := (hk2.trans fun b o e _ _ => st b o e).trans hk4
      have fin : ∀ o : Option (Bool × Str), (∀ q, o = some q → q.2 = n) → ∃ acc', H4 D = some (.lst acc') ∧ acc'.length < sizeLine ∧ ∃ ac : List (Option (Bool × Str)), ac.length = i + 1 ∧ ((ac.filterMap id).map Prod.snd).Sublist (ns.take (i + 1)) ∧ upd H4 D (.lst (acc' ++ [sideV o])) D = some (.lst (ac.map sideV)) ∧ StreamAt (upd H4 D (.lst (acc' ++ [sideV o]))) S L (c + (i + 1)) ∧ Kept S L H (upd H4 D (.lst (acc' ++ [sideV o]))) := fun o ho => by
        refine ⟨_, hD4, by rw [List.length_map, la, sizeLine_eq]; omega, acc ++ [o], by rw [List.length_append, la]; rfl, ?_, ?_, hS4.put offD.1 offD.2, kept_upd hk24 hD⟩
        · rw [List.filterMap_append, List.map_append, List.take_succ, hn']
          refine List.Sublist.append sub ?_
          cases o with
          | none => exact List.nil_sublist _
          | some q =>
            have e := ho q rfl
            show [q.2].Sublist [n]
            rw [e]
            exact List.Sublist.refl _
        · rw [upd_same, List.map_append]
          rfl
      have sq := SqT.of (K := K) ht4
      obtain rfl | rfl | rfl : r = 0 ∨ r = 1 ∨ r = 2 := by omega
      · exact ⟨t, _, 0, .str n, rfl, rfl, sq, rfl, fin (some (false, n)) fun q e => by rw [← Option.some.inj e]⟩
      · exact ⟨t, _, 1, .str (neg n), rfl, rfl, sq, rfl, fin (some (true, n)) fun q e => by rw [← Option.some.inj e]⟩
      · exact ⟨t, _, 2, .str (Str.ofString ""), rfl, rfl, sq, rfl, fin none fun q e => nomatch e⟩
    · rintro H2 ⟨acc, la, sub, hD2, hS2, hk2⟩
      rw [List.length_map] at hS2 la
      rw [List.length_map, List.take_length] at sub
      have offD := hS.off hD
      have hD0 : H D = none := hD
      have gq : ∀ q, some q ∈ acc → Name1 q.2 := fun q hq => good _ (sub.subset (List.mem_map_of_mem (List.mem_filterMap.mpr ⟨some q, hq, rfl⟩)))
      refine ⟨_, rfl, _, rfl, D, rfl, ⟨_, SqL.of hD2⟩, fun D2 hD2n => lc_list (K := K) (a := D) (xs := acc.map sideV) (fun i H3 => Same H2 H3 ∧ H3 D2 = some (.lst ((((acc.take i).filterMap id).map lit).map V.str)))
        ⟨same_new hD2n, upd_same⟩ (fun i H3 hi hh => SqL.of (hh.1 _ _ hD2)) ?_ ?_⟩
      · rintro i x H3 hx ⟨sm, hd⟩
        obtain ⟨o, ho, rfl⟩ : ∃ o, acc[i]? = some o ∧ x = sideV o := by
          rw [List.getElem?_map] at hx
          cases e : acc[i]? with
          | none => rw [e] at hx; cases hx
          | some n => rw [e] at hx; exact ⟨n, rfl, (Option.some.inj hx).symm⟩
        have ilt : i < acc.length := (List.getElem?_eq_some_iff.mp ho).1
        have ll : ((acc.take i).filterMap id).length ≤ i := by
          have z1 := List.length_filterMap_le id (acc.take i)
          rw [List.length_take] at z1
          omega
        refine ⟨rfl, _, rfl, (by cases o <;> rfl), _, rfl, ?_⟩
        cases o with
        | none =>
          rw [show (!decide (sideV none = V.str (Str.ofString ""))) = false from by rw [decide_eq_true (show sideV none = V.str (Str.ofString "") from rfl)]; rfl]
          refine iteF ⟨sm, ?_⟩
          rw [List.take_succ, ho, List.filterMap_append]
          show H3 D2 = some (.lst ((((acc.take i).filterMap id ++ []).map lit).map V.str))
          rw [List.append_nil]
          exact hd
        | some q =>
          have ne : sideV (some q) ≠ V.str (Str.ofString "") := fun e => lit_ne (gq q (List.mem_of_getElem? ho)) (by injection e)
          rw [show (!decide (sideV (some q) = V.str (Str.ofString ""))) = true from by rw [decide_eq_false ne]; rfl]
          refine iteT ⟨_, rfl, _, hd, by rw [List.length_map, List.length_map, sizeLine_eq]; omega, fun b o h => (upd_ne (ne_of_none h hD2n)).trans (sm b o h), ?_⟩
          rw [upd_same, List.take_succ, ho, List.filterMap_append, List.map_append, List.map_append]
          rfl
      · rintro H3 ⟨sm, hd⟩
        rw [List.length_map, List.take_length] at hd
        have hS3 := hS2.same sm
        have hk3 : Kept S L H H3 := hk2.trans fun b o e _ _ => sm b o e
        have lq : (acc.filterMap id).length ≤ ns.length := by
          have z1 := List.length_filterMap_le id acc
          omega
        have offD2 := hS2.off hD2n
        refine ⟨S, L, D2, true, _, _, rfl, SqL.of hd, by rw [List.length_map, List.length_map]; omega, by rw [List.length_map, List.length_map]; omega, hS3, fun ys p H4 hp hnew hp4 hS4 hk4 => ?_⟩
        obtain ⟨ms, rfl, hpm⟩ := perm_inv hp _ rfl
        obtain ⟨qs, rfl, hpq⟩ := perm_inv hpm _ rfl
        have offp := hS3.off hnew
        have hL : Lits ns qs := ⟨(hpq.map Prod.snd).nodup_iff.mpr (sub.nodup nd), fun q hq => sub.subset (List.mem_map_of_mem (hpq.mem_iff.mp hq))⟩
        rw [List.length_map, List.length_map] at hS4
        exact k qs p _ H4 hL (hk3.none hnew offp.1 offp.2) hp4 (by omega) hS4 (hk3.trans hk4)
end
end K6
namespace K6
open PySem PySem.Spec PyProof.Rows L2 LamX NdefX EV
def opp (q : Bool × Str) : Bool × Str := (!q.1, q.2)
def spOpp : Sp := fun vs H Q _ => ∃ q : Bool × Str, vs = [.str (lit q)] ∧ Name1 q.2 ∧ Q (.str (lit (opp q))) H
theorem lit_len {q : Bool × Str} (g : Name1 q.2) : (lit q).length ≤ 9 := by
  obtain ⟨b, n⟩ := q
  have n8 : n.length ≤ 8 := g.2.1
  cases b
  · show n.length ≤ _
    omega
  · show (neg n).length ≤ _
    rw [neg_len]; omega
section
variable {P : Program} {w : World} {K : PySem.W.Frag} {mg : Str → Option Value} {base : Heap} {f fD fP : Addr} {fd fdD fdP : FuncData}
theorem scNeg : FnScope ["_law_one"] ["_law_one"] (defScope sNeg) := ⟨rfl, rfl, rfl, by decide +kernel, rfl, by decide +kernel, by decide +kernel⟩
theorem ok_neg (F : Fun K "_law_neg" "_law_neg" sNeg f fd) : FnOk P w K mg base CX0 1 f fd ["_law_one"] spOpp := by
  refine F.ok scNeg (fun vs H Q E h => ?_) (fun cdv A outer s H vs Q E hr h => ?_)
  · obtain ⟨q, rfl, _⟩ := h
    rfl
  · obtain ⟨q, rfl, good, k⟩ := h
    refine ⟨_, pss_one (ps_ret (pe_ifExp (pt_cmpR op_eq (pe_slice sl_str (pv 0) po_none (po_some pe_int)) pe_str (nomark _)) (pe_slice sl_str (pv 0) (po_some pe_int) po_none) (pe_op op_add_str pe_str (pv 0)))), ?_⟩
    have l9 := lit_len good
    have ll : (lit q).length ≤ sizeLine := by rw [sizeLine_eq]; omega
    refine ⟨_, rfl, _, rfl, lit q, rfl, ll, rfl, _, rfl, ?_⟩
    obtain ⟨b, n⟩ := q
    cases b
    · have e : decide (V.str (cutS (lit (false, n)) none (some 1)) = V.str (Str.ofString "-")) = false := decide_eq_false fun h => by
        injection h with h
        exact Bool.noConfusion ((dash_lit good).mp h)
      rw [e]
      refine iteF ⟨_, rfl, _, _, rfl, rfl, ?_, k⟩
      show 1 + (lit (false, n)).length ≤ sizeLine
      rw [sizeLine_eq]; omega
    · have e : decide (V.str (cutS (lit (true, n)) none (some 1)) = V.str (Str.ofString "-")) = true := decide_eq_true (by rw [(dash_lit (q := (true, n)) good).mpr rfl])
      rw [e]
      refine iteT ⟨_, rfl, _, rfl, lit (true, n), rfl, ll, ?_⟩
      rw [show cutS (lit (true, n)) (some 1) none = n from cut_neg n]
      exact k
end
end K6
namespace K6
open PySem PySem.Spec PyProof.Rows L2 LamX NdefX EV
/-! ### the other side; names together -/
theorem lit_iff {ns : List Str} {q : Bool × Str} (good : ∀ z ∈ ns, Name1 z) (g : Name1 q.2) : lit q ∈ lits ns ↔ q.2 ∈ ns := by
  refine ⟨fun h => ?_, lit_mem⟩
  obtain ⟨n, hn, e⟩ := lits_mem.mp h
  rcases e with e | e
  · have z := lit_inj (p := q) (q := (false, n)) g (good n hn) e
    rw [z]
    exact hn
  · have z := lit_inj (p := q) (q := (true, n)) g (good n hn) e
    rw [z]
    exact hn
section
variable {P : Program} {w : World} {K : PySem.W.Frag} {mg : Str → Option Value} {base : Heap} {f fI fN fO C : Addr} {fd fdI fdN fdO : FuncData}
theorem scOpp : FnScope ["literal"] ["literal"] (defScope sOpp) := ⟨rfl, rfl, rfl, by decide +kernel, rfl, by decide +kernel, by decide +kernel⟩
theorem ok_opp (F : Fun K "opposite" "opposite" sOpp f fd) : FnOk P w K mg base CX0 1 f fd ["literal"] spOpp := by
  refine F.ok scOpp (fun vs H Q E h => ?_) (fun cdv A outer s H vs Q E hr h => ?_)
  · obtain ⟨q, rfl, _⟩ := h
    rfl
  · obtain ⟨⟨b, n⟩, rfl, good, k⟩ := h
    have n8 := good.2.1
    replace n8 : n.length ≤ 8 := n8
    refine ⟨_, pss_cons (ps_if (pt_val (pe_m1 PySem.F.slot_str_startswith PySem.F.type_str_startswith mt_startswith (pv 0) pe_str)) (pss_one (ps_ret (pe_slice sl_str (pv 0) (po_some pe_int) po_none))) pss_nil) (pss_one (ps_ret (pe_op op_add_str pe_str (pv 0)))), ?_⟩
    refine ⟨_, rfl, ⟨_, rfl⟩, _, _, rfl, rfl, _, rfl, ?_⟩
    cases b
    · rw [show Txt.startswith (lit (false, n)) (Str.ofString "-") = false from starts_name good]
      refine iteF ⟨_, rfl, _, _, rfl, rfl, ?_, k⟩
      show 1 + n.length ≤ sizeLine
      rw [sizeLine_eq]; omega
    · rw [show Txt.startswith (lit (true, n)) (Str.ofString "-") = true from starts_neg n]
      refine iteT ⟨_, rfl, _, rfl, lit (true, n), rfl, ?_, ?_⟩
      · show (neg n).length ≤ sizeLine
        rw [neg_len, sizeLine_eq]
        omega
      · rw [show cutS (lit (true, n)) (some 1) none = n from cut_neg n]
        exact k
end
end K6
namespace K6
open PySem PySem.Spec PyProof.Rows L2 LamX NdefX EV
/-! ### a thing that is none of the names of a tuple -/
/-! ### the program's ways out -/
def spChkSetX (K : PySem.W.Frag) (CB : Addr) : Sp := fun vs H _ E => ∃ (PL : Addr) (x : V) (ns : List Str) (io : Option (List V)) (i : Nat), vs = [.ref PL, x] ∧ H PL = some (.dK (plc ns)) ∧ ns.length ≤ 60 ∧ ns.Nodup ∧ (∀ z ∈ ns, Name1 z) ∧ ItemAt H x io ∧ CutI ns io (some i) ∧ Told CB "index" (.int (i : Nat)) H E
section
variable {P : Program} {w : World} {K : PySem.W.Frag} {mg : Str → Option Value} {base : Heap} {f fI fJ fL fW fS C CM CB CG : Addr} {fd fdI fdJ fdL fdW fdS : FuncData}
theorem scChkSet : FnScope ["places", "setting", "wrong"] ["places", "setting"] (defScope sChkSetting) := ⟨rfl, rfl, rfl, by decide +kernel, rfl, by decide +kernel, by decide +kernel⟩
theorem ok_chkSetX (F : Fun K "check_setting" "check_setting" sChkSetting f fd) (X : XT K mg "BadSetting" "index" CB fJ) (GJ : FnOk P w K mg base CX0 1 fJ fdJ ["self", "index"] (spI1 K "index")) (bJ : L2.Binds K fdJ ["self", "index"] [])
    (GL : FnOk P w K mg base CX0 1 fL fdL ["thing"] (spIsList K)) (mL : mg "is_list" = some (.ref fL)) (kL : PySem.W.keepIn K (.ref fL) = true) (bL : L2.Binds K fdL ["thing"] [])
    (GW : FnOk P w K mg base CX0 2 fW fdW ["places", "things"] (spWrongX K)) (mW : mg "first_wrong" = some (.ref fW)) (kW : PySem.W.keepIn K (.ref fW) = true) (bW : L2.Binds K fdW ["places", "things"] []) :
    FnOk P w K mg base (L2.CX P w) 3 f fd ["places", "setting"] (spChkSetX K CB) := by
  refine F.okX scChkSet (fun vs H Q E h => ?_) (fun cdv A outer s H vs Q E hr h => ?_)
  · obtain ⟨PL, x, ns, io, i, rfl, _⟩ := h
    rfl
  · obtain ⟨PL, x, ns, io, i, rfl, hPL, n60, nd, good, item, cut, told⟩ := h
    have hr1 : Room 1 _ := hr.mono (by decide)
    have hr2 : Room 2 _ := hr
    refine ⟨_, pss_cons (ps_if (pt_not (pt_val (pe_call GL hr1 (by rfl) mL kL bL .nil pass0 (pa_cons (pv 1) pa_nil)))) (pss_one (ps_raise rfl (takes_of rfl rfl rfl rfl) (pmk_oex X.ox X.ini X.ty GJ hr2 bJ .nil pass0 (by rfl) X.g (pa_cons pe_int pa_nil)))) pss_nil)
      (pss_cons (ps_set (i := 2) scChkSet.nd rfl (.inl rfl) (pe_call GW hr2 (by rfl) mW kW bW .nil pass0 (pa_cons (pv 0) (pa_cons (pv 1) pa_nil))))
      (pss_one (ps_if (pt_cmpR op_notN (pv 2) pe_non rfl) (pss_one (ps_raise rfl (takes_of rfl rfl rfl rfl) (pmk_oex X.ox X.ini X.ty GJ hr2 bJ .nil pass0 (by rfl) X.g (pa_cons (pv 2) pa_nil)))) pss_nil))), ?_⟩
    obtain ⟨ty, hty, kit⟩ := item.kit (K := K)
    refine ⟨_, rfl, x, ty, io.isSome, rfl, hty, kit, fun H1 sm1 => ⟨_, rfl, ?_⟩⟩
    cases io with
    | none =>
      have e : some i = some 0 := cut
      obtain rfl := Option.some.inj e
      exact iteT ⟨by show 1 ≤ 1000; decide, fun a ha => ⟨a, CB, _, rfl, X.ox, X.n, upd_same, fun dx hdx nda => ⟨rfl, dx, _, upd_same, (upd_ne nda).trans upd_same, (upd_ne nda).symm.trans hdx, told.of sm1 dx _ upd_same (way_same ha hdx nda)⟩⟩⟩
    | some xs =>
      obtain ⟨Aa, b, rfl, hA, th, x20⟩ := item.seq (K := K)
      refine iteF ⟨_, rfl, _, rfl, PL, Aa, b, ns, xs, some i, rfl, sm1 _ _ hPL, (fun H' s' => hA H' (sm1.trans s')), n60, nd, good, (fun x hx => (th x hx).same sm1), cut, fun H2 sm2 => ?_⟩
      have sm02 := sm1.trans sm2
      refine ⟨_, rfl, rfl, _, rfl, ?_⟩
      rw [show (!decide (oV (some i) = V.non)) = true from by rw [decide_eq_false (fun e => nomatch e)]; rfl]
      exact iteT ⟨_, rfl, by show 1 ≤ 1000; decide, fun a ha => ⟨a, CB, _, rfl, X.ox, X.n, upd_same, fun dx hdx nda => ⟨rfl, dx, _, upd_same, (upd_ne nda).trans upd_same, (upd_ne nda).symm.trans hdx, told.of sm02 dx _ upd_same (way_same ha hdx nda)⟩⟩⟩
end
end K6
namespace K6
open PySem PySem.Spec PyProof.Rows L2 LamX NdefX EV
/-! ### a half-filled setting handed over -/
/-- a list or a tuple that stands in the heap -/
def HS (H : Hp) (A : Addr) (b : Bool) (xs : List V) : Prop := H A = some (if b = true then .lst xs else .tup xs)
theorem HS.same {H H' : Hp} {A : Addr} {b : Bool} {xs : List V} (h : HS H A b xs) (sm : Same H H') : HS H' A b xs := sm _ _ h
theorem HS.sq {K : PySem.W.Frag} {H : Hp} {A : Addr} {b : Bool} {xs : List V} (h : HS H A b xs) : Sq K b H A xs := by
  cases b
  · exact Sq.tup h
  · exact Sq.lst h
theorem HS.at2 {K : PySem.W.Frag} {H : Hp} {A : Addr} {b : Bool} {xs : List V} (h : HS H A b xs) : SqL K H A xs ∨ SqT K H A xs := by
  cases b
  · exact .inr (SqT.of h)
  · exact .inl (SqL.of h)
theorem HS.ty {K : PySem.W.Frag} {H : Hp} {A : Addr} {b : Bool} {xs : List V} (h : HS H A b xs) : TyX K H (.ref A) (.type (if b = true then "list" else "tuple")) := by
  cases b
  · exact .base (.tup h)
  · exact .base (.lst h)
theorem HS.ne {H : Hp} {A d : Addr} {b : Bool} {xs : List V} {ws : List (List Key × V)} (h : HS H A b xs) (hd : H d = some (.dT ws)) : A ≠ d := by
  cases b
  · exact ne_of h hd fun z => nomatch z
  · exact ne_of h hd fun z => nomatch z
theorem HS.ask {K : PySem.W.Frag} {H : Hp} {ns : List Str} {A : Addr} {b : Bool} {h : List (Bool × Str)} (a : HS H A b ((h.map lit).map V.str)) (hq : Lits ns h) : Ask K H ns true (.ref A) :=
  .seq _ (fun _ s' => (a.same s').ty) (kit_seq b) (fun _ s' => (a.same s').sq) fun _ _ => .ok hq
def spChkSet (K : PySem.W.Frag) : Sp := fun vs H Q _ => ∃ (PL : Addr) (x : V) (ns : List Str), vs = [.ref PL, x] ∧ H PL = some (.dK (plc ns)) ∧ ns.length ≤ 60 ∧ ns.Nodup ∧ (∀ z ∈ ns, Name1 z) ∧ Ask K H ns true x ∧ ∀ H', Same H H' → Q .non H'
section
variable {P : Program} {w : World} {K : PySem.W.Frag} {mg : Str → Option Value} {base : Heap} {f fC fL fW fI C : Addr} {fd fdC fdL fdW fdI : FuncData}
theorem ok_chkSet (F : Fun K "check_setting" "check_setting" sChkSetting f fd) (GL : FnOk P w K mg base CX0 1 fL fdL ["thing"] (spIsList K)) (mL : mg "is_list" = some (.ref fL)) (kL : PySem.W.keepIn K (.ref fL) = true) (bL : L2.Binds K fdL ["thing"] [])
    (GW : FnOk P w K mg base CX0 2 fW fdW ["places", "things"] (spWrong K)) (mW : mg "first_wrong" = some (.ref fW)) (kW : PySem.W.keepIn K (.ref fW) = true) (bW : L2.Binds K fdW ["places", "things"] []) :
    FnOk P w K mg base CX0 3 f fd ["places", "setting"] (spChkSet K) := by
  refine F.ok scChkSet (fun vs H Q E h => ?_) (fun cdv A' outer s H vs Q E hr h => ?_)
  · obtain ⟨PL, x, ns, rfl, _⟩ := h
    rfl
  · obtain ⟨PL, x, ns, rfl, hPL, n60, nd, good, ask, k⟩ := h
    have hr1 : Room 1 _ := hr.mono (by decide)
    refine ⟨_, pss_cons (ps_if (pt_not (pt_val (pe_call GL hr1 (by rfl) mL kL bL .nil pass0 (pa_cons (pv 1) pa_nil)))) (pss_one ps_none) pss_nil)
      (pss_cons (ps_set (i := 2) scChkSet.nd rfl (.inl rfl) (pe_call GW hr (by rfl) mW kW bW .nil pass0 (pa_cons (pv 0) (pa_cons (pv 1) pa_nil))))
      (pss_one (ps_if (pt_cmpR op_notN (pv 2) pe_non rfl) (pss_one ps_none) pss_nil))), ?_⟩
    generalize er : true = r at ask
    cases ask with
    | @seq b A xs _ t ty kit sq see =>
      subst er
      refine ⟨_, rfl, .ref A, t, true, rfl, ty, kit, fun H1 sm1 => ⟨_, rfl, iteF ⟨_, rfl, _, rfl, PL, A, b, ns, xs, true, rfl, sm1 _ _ hPL, sq H1 sm1, (fun H2 s2 => sq H2 (sm1.trans s2)), n60, nd, good, see H1 sm1, fun H2 sm2 => ?_⟩⟩⟩
      rw [if_pos rfl]
      exact ⟨_, rfl, rfl, _, rfl, iteF (k H2 (sm1.trans sm2))⟩
    | odd t ty kit => cases er
end
end K6
namespace K6
open PySem PySem.Spec PyProof.Rows L2 LamX NdefX EV
def spMade (K : PySem.W.Frag) (C : Addr) : Sp := fun vs H Q _ => ∃ (d ps ph pc : Addr) (sg hp : List Str) (ts : List Addr) (rs : List (List Str)), vs = [.ref d] ∧ CAt H d ps ph pc sg hp ts rs ∧ Draw1 sg hp rs ∧ ∀ y r H', Same H H' → CodeR K C H' y sg hp rs r → Q (.ref y) H'
section
variable {P : Program} {w : World} {K : PySem.W.Frag} {mg : Str → Option Value} {base : Heap} {f fI C : Addr} {fd fdI : FuncData}
theorem scMade : FnScope ["_law_c"] ["_law_c"] (defScope sMade) := ⟨rfl, rfl, rfl, by decide +kernel, rfl, by decide +kernel, by decide +kernel⟩
theorem ok_made (F : Fun K "_law_made" "_law_made" sMade f fd) (T : CTxt K mg C) (M : Mk K C fI) (GI : FnOk P w K mg base CX0 5 fI fdI psInit (spInit K C)) (bI : L2.Binds K fdI psInit []) :
    FnOk P w K mg base CX0 7 f fd ["_law_c"] (spMade K C) := by
  refine F.ok scMade (fun vs H Q E h => ?_) (fun cdv A' outer s H vs Q E hr h => ?_)
  · obtain ⟨d, ps, ph, pc, sg, hp, ts, rs, rfl, _⟩ := h
    rfl
  · obtain ⟨d, ps, ph, pc, sg, hp, ts, rs, rfl, ca, D, k⟩ := h
    have hu := hu_of hr
    have ok := D.okC
    refine ⟨_, pss_one (ps_ret (pe_make M GI hr (by rfl) T.mgC bI .nil pass0 (pa_cons (pe_dget hu (pv 0) pe_str (fun _ _ => rfl)) (pa_cons (pe_dget hu (pv 0) pe_str (fun _ _ => rfl)) (pa_cons (pe_dget hu (pv 0) pe_str (fun _ _ => rfl)) pa_nil))))), ?_⟩
    obtain ⟨g1, g2, g3⟩ := dget_c ca.d
    refine ⟨_, rfl, d, _, rfl, g1, _, rfl, d, _, rfl, g3, _, rfl, d, _, rfl, g2, fun y dy hy hdy _ => ?_⟩
    obtain ⟨qss, u1, u2, u3⟩ := handed_rows (K := K) D.nd D.good (ns := sg ++ hp) (fun x hx => hx) ca.r D.row
    have lq : qss.length = rs.length := by rw [u2, List.length_map]
    have r7 := D.r7
    refine make_ok (b1 := true) (b2 := true) (b3 := true) hy hdy (SqL.of ca.s) (SqL.of ca.c) (SqL.of ca.h) ok.n60 ok.nd ok.good u1 (by omega) fun r H' sm cx _ => ⟨rfl, ?_⟩
    rw [rows_id u2 D.row D.rnd] at cx
    exact k y r H' sm cx
end
/-! ### how a call ends -/
end K6
namespace K6
open PySem PySem.Spec PyProof.Rows L2 LamX NdefX EV
/-! ### things, as trees, that stand in the heap at addresses of N -/
def items : PyData → Option (List PyData)
  | .list ds => some ds
  | .tuple ds => some ds
  | _ => none
mutual
inductive KD (N : Addr → Prop) (H : Hp) : V → PyData → Prop
  | non : KD N H .non .none
  | bl (b : Bool) : KD N H (.bl b) (.bool b)
  | int (i : Int) : KD N H (.int i) (.int i)
  | str (z : Str) : KD N H (.str z) (.str z)
  | lst {a : Addr} {xs : List V} {ds : List PyData} (h : H a = some (.lst xs)) (n : N a) (t : KDA N H xs ds) : KD N H (.ref a) (.list ds)
  | tup {a : Addr} {xs : List V} {ds : List PyData} (h : H a = some (.tup xs)) (n : N a) (t : KDA N H xs ds) : KD N H (.ref a) (.tuple ds)
  | dct {a : Addr} (h : H a = some (.dK [])) (n : N a) : KD N H (.ref a) (.dict [])
inductive KDA (N : Addr → Prop) (H : Hp) : List V → List PyData → Prop
  | nil : KDA N H [] []
  | cons {v : V} {vs : List V} {d : PyData} {ds : List PyData} (h : KD N H v d) (t : KDA N H vs ds) : KDA N H (v :: vs) (d :: ds)
end
section
variable {N M : Addr → Prop} {H H' : Hp}
mutual
theorem KD.map (k : ∀ b o, H b = some o → N b → H' b = some o ∧ M b) : ∀ {v : V} {d : PyData}, KD N H v d → KD M H' v d
  | _, _, .non => .non
  | _, _, .bl b => .bl b
  | _, _, .int i => .int i
  | _, _, .str z => .str z
  | _, _, .lst h n t => .lst (k _ _ h n).1 (k _ _ h n).2 (KDA.map k t)
  | _, _, .tup h n t => .tup (k _ _ h n).1 (k _ _ h n).2 (KDA.map k t)
  | _, _, .dct h n => .dct (k _ _ h n).1 (k _ _ h n).2
theorem KDA.map (k : ∀ b o, H b = some o → N b → H' b = some o ∧ M b) : ∀ {vs : List V} {ds : List PyData}, KDA N H vs ds → KDA M H' vs ds
  | _, _, .nil => .nil
  | _, _, .cons h t => .cons (KD.map k h) (KDA.map k t)
end
theorem KDA.len : ∀ {vs : List V} {ds : List PyData}, KDA N H vs ds → vs.length = ds.length
  | _, _, .nil => rfl
  | _, _, .cons _ t => congrArg Nat.succ (KDA.len t)
theorem KDA.get : ∀ {vs : List V} {ds : List PyData}, KDA N H vs ds → ∀ {i : Nat} {v : V}, vs[i]? = some v → ∃ d, ds[i]? = some d ∧ KD N H v d
  | _, _, .nil, i, v, h => by simp at h
  | _, _, .cons h _, 0, v, h1 => by
    simp at h1
    subst h1
    exact ⟨_, rfl, h⟩
  | _, _, .cons _ t, i + 1, v, h1 => by
    obtain ⟨d, h2, h3⟩ := KDA.get t (by simpa using h1)
    exact ⟨d, by simpa using h2, h3⟩
theorem KDA.snoc {v : V} {d : PyData} (h : KD N H v d) : ∀ {vs : List V} {ds : List PyData}, KDA N H vs ds → KDA N H (vs ++ [v]) (ds ++ [d])
  | _, _, .nil => .cons h .nil
  | _, _, .cons a t => .cons a (KDA.snoc h t)
end
/-- what stays of the addresses of N -/
def KN (N : Addr → Prop) (H H' : Hp) : Prop := ∀ b o, H b = some o → N b → H' b = some o
theorem KN.refl {N : Addr → Prop} (H : Hp) : KN N H H := fun _ _ e _ => e
theorem KN.trans {N : Addr → Prop} {H H1 H2 : Hp} (a : KN N H H1) (b : KN N H1 H2) : KN N H H2 := fun x o e n => b x o (a x o e n) n
theorem KN.mono {N M : Addr → Prop} {H H' : Hp} (a : KN M H H') (i : ∀ b, N b → M b) : KN N H H' := fun x o e n => a x o e (i x n)
theorem KN.same {N : Addr → Prop} {H H' : Hp} (a : Same H H') : KN N H H' := fun x o e _ => a x o e
theorem KN.kept {N : Addr → Prop} {S L : Addr} {H H' : Hp} (k : Kept S L H H') (n : ∀ b, N b → b ≠ S ∧ b ≠ L) : KN N H H' := fun x o e m => k x o e (n x m).1 (n x m).2
section
variable {N M : Addr → Prop} {H H' : Hp}
theorem KD.step {v : V} {d : PyData} (a : KD N H v d) (k : KN N H H') : KD N H' v d := a.map fun b o e n => ⟨k b o e n, n⟩
theorem KDA.step {v : List V} {d : List PyData} (a : KDA N H v d) (k : KN N H H') : KDA N H' v d := a.map fun b o e n => ⟨k b o e n, n⟩
theorem KD.mono {v : V} {d : PyData} (a : KD N H v d) (i : ∀ b, N b → M b) : KD M H v d := a.map fun b o e n => ⟨e, i b n⟩
theorem KDA.mono {v : List V} {d : List PyData} (a : KDA N H v d) (i : ∀ b, N b → M b) : KDA M H v d := a.map fun b o e n => ⟨e, i b n⟩
/-- without a part of what is new -/
theorem KDA.cut {v : List V} {d : List PyData} {D : Addr} {o : HO} (a : KDA N H v d) (hD : H D = none) : KDA (fun b => N b ∧ b ≠ D) (upd H D o) v d := a.map fun b u e n => ⟨(upd_ne (ne_of_none e hD)).trans e, n, ne_of_none e hD⟩
theorem KD.cut {v : V} {d : PyData} {D : Addr} {o : HO} (a : KD N H v d) (hD : H D = none) : KD (fun b => N b ∧ b ≠ D) (upd H D o) v d := a.map fun b u e n => ⟨(upd_ne (ne_of_none e hD)).trans e, n, ne_of_none e hD⟩
theorem KDA.put {v : List V} {d : List PyData} {D : Addr} {o : HO} (a : KDA N H v d) (h : ∀ q, N q → q ≠ D) : KDA N (upd H D o) v d := a.map fun b u e n => ⟨(upd_ne (h b n)).trans e, n⟩
theorem KD.put {v : V} {d : PyData} {D : Addr} {o : HO} (a : KD N H v d) (h : ∀ q, N q → q ≠ D) : KD N (upd H D o) v d := a.map fun b u e n => ⟨(upd_ne (h b n)).trans e, n⟩
/-- a list or a tuple, seen as such -/
theorem KD.seq {v : V} {d : PyData} {ds : List PyData} (a : KD N H v d) (h : items d = some ds) : ∃ (p : Addr) (b : Bool) (xs : List V), v = .ref p ∧ HS H p b xs ∧ N p ∧ KDA N H xs ds := by
  cases a with
  | lst h1 n t => cases h; exact ⟨_, true, _, rfl, h1, n, t⟩
  | tup h1 n t => cases h; exact ⟨_, false, _, rfl, h1, n, t⟩
  | _ => cases h
theorem KD.ty {K : PySem.W.Frag} {v : V} {d : PyData} (h : KD N H v d) : ∃ t, (∀ H', Same H H' → TyX K H' v t) ∧ PySem.W.kitAny K t [.type "list", .type "tuple"] = some (items d).isSome := by
  have no : ∀ {a : String}, kitB a "list" = some false → kitB a "tuple" = some false → PySem.W.kitAny K (.type a) [.type "list", .type "tuple"] = some false := fun h1 h2 =>
    kitAny_cons (b := false) (kit_ty h1) (fun _ => kitAny_cons (b := false) (kit_ty h2) (fun _ => rfl) fun z => nomatch z) (fun z => nomatch z)
  cases h with
  | lst h n t => exact ⟨.type "list", fun _ sm => .base (.lst (sm _ _ h)), kit_seq true⟩
  | tup h n t => exact ⟨.type "tuple", fun _ sm => .base (.tup (sm _ _ h)), kit_seq false⟩
  | non => exact ⟨_, fun _ _ => .base .non, no (by decide +kernel) (by decide +kernel)⟩
  | int i => exact ⟨_, fun _ _ => .base (.int i), no (by decide +kernel) (by decide +kernel)⟩
  | bl b => exact ⟨_, fun _ _ => .base (.bl b), no (by decide +kernel) (by decide +kernel)⟩
  | str => exact ⟨_, fun _ _ => .base (.str _), no (by decide +kernel) (by decide +kernel)⟩
  | dct h n => exact ⟨_, fun _ sm => .base (.dK (sm _ _ h)), no (by decide +kernel) (by decide +kernel)⟩
end
/-! ### the same but for lists and tuples -/
mutual
inductive Like : PyData → PyData → Prop
  | same {d : PyData} (h : items d = none) : Like d d
  | seq {d d' : PyData} {ds ds' : List PyData} (h : items d = some ds) (h' : items d' = some ds') (t : LikeAll ds ds') : Like d d'
inductive LikeAll : List PyData → List PyData → Prop
  | nil : LikeAll [] []
  | cons {d d' : PyData} {ds ds' : List PyData} (h : Like d d') (t : LikeAll ds ds') : LikeAll (d :: ds) (d' :: ds')
end
theorem LikeAll.snoc {d d' : PyData} (h : Like d d') : ∀ {ds ds' : List PyData}, LikeAll ds ds' → LikeAll (ds ++ [d]) (ds' ++ [d'])
  | _, _, .nil => .cons h .nil
  | _, _, .cons a t => .cons a (LikeAll.snoc h t)
theorem LikeAll.len : ∀ {ds ds' : List PyData}, LikeAll ds ds' → ds.length = ds'.length
  | _, _, .nil => rfl
  | _, _, .cons _ t => congrArg Nat.succ (LikeAll.len t)
/-- no deeper than that, no list longer than 30 -/
def shal : Nat → PyData → Prop
  | 0, _ => False
  | n + 1, d => ∀ ds, items d = some ds → ds.length ≤ 30 ∧ ∀ x ∈ ds, shal n x
mutual
def cnt : PyData → Nat
  | .list ds => 1 + cntL ds
  | .tuple ds => 1 + cntL ds
  | _ => 0
def cntL : List PyData → Nat
  | [] => 0
  | d :: ds => cnt d + cntL ds
end
theorem cnt_items {d : PyData} {ds : List PyData} (h : items d = some ds) : cnt d = 1 + cntL ds := by
  cases d <;> simp [items] at h
  · subst h; rw [cnt]
  · subst h; rw [cnt]
theorem cntL_app : ∀ (ds es : List PyData), cntL (ds ++ es) = cntL ds + cntL es
  | [], es => by rw [cntL]; simp
  | d :: ds, es => by rw [List.cons_append, cntL, cntL, cntL_app ds es]; omega
theorem cntL_take {ds : List PyData} {i : Nat} {d : PyData} (h : ds[i]? = some d) : cntL (ds.take (i + 1)) = cntL (ds.take i) + cnt d := by
  rw [List.take_succ, h, cntL_app]
  show _ + cntL [d] = _
  rw [cntL, cntL]
  rfl
theorem cntL_le {ds : List PyData} {i : Nat} : cntL (ds.take i) ≤ cntL ds := by
  have z := cntL_app (ds.take i) (ds.drop i)
  rw [List.take_append_drop] at z
  omega
def spLoose (n : Nat) : Sp := fun vs H Q _ => ∃ (S L : Addr) (v : V) (d : PyData) (N : Addr → Prop) (c : Nat), vs = [.ref S, v] ∧ shal n d ∧ KD N H v d ∧ ¬ N S ∧ ¬ N L ∧ c + cnt d ≤ 90000 ∧ StreamAt H S L c ∧
  ∀ (v' : V) (d' : PyData) (c' : Nat) (H' : Hp), Like d d' → KD (fun b => N b ∨ H b = none) H' v' d' → c' ≤ c + cnt d → StreamAt H' S L c' → Kept S L H H' → Q v' H'
section
variable {P : Program} {w : World} {K : PySem.W.Frag} {mg : Str → Option Value} {base : Heap} {f fD : Addr} {fd fdD : FuncData}
abbrev nLoose : List Str := ["_law_stream", "_law_thing", "_law_found", "_law_one"]
theorem scLoose : FnScope nLoose ["_law_stream", "_law_thing"] (defScope sLoose) := ⟨rfl, rfl, rfl, by decide +kernel, rfl, by decide +kernel, by decide +kernel⟩
theorem ok_loose (F : Fun K "_law_loose" "_law_loose" sLoose f fd) (GD : FnOk P w K mg base CX0 1 fD fdD ["_law_stream", "_law_many"] spDraw) (mD : mg "_law_draw" = some (.ref fD)) (kD : PySem.W.keepIn K (.ref fD) = true) (bD : L2.Binds K fdD ["_law_stream", "_law_many"] [])
    (mF : mg "_law_loose" = some (.ref f)) (kF : PySem.W.keepIn K (.ref f) = true) (bF : L2.Binds K fd ["_law_stream", "_law_thing"] []) (mi : mg "isinstance" = none) (ml : mg "list" = none) (mt : mg "tuple" = none) :
    ∀ n, FnOk P w K mg base CX0 (n + 2) f fd ["_law_stream", "_law_thing"] (spLoose n)
  | 0 => by
    refine F.ok scLoose (fun vs H Q E h => ?_) (fun cdv A outer s H vs Q E hr h => ?_)
    · obtain ⟨S, L, v, d, N, c, rfl, _⟩ := h
      rfl
    · obtain ⟨S, L, v, d, N, c, rfl, sh, _⟩ := h
      exact sh.elim
  | n + 1 => by
    have GF := ok_loose F GD mD kD bD mF kF bF mi ml mt n
    refine F.ok scLoose (fun vs H Q E h => ?_) (fun cdv A outer s H vs Q E hr h => ?_)
    · obtain ⟨S, L, v, d, N, c, rfl, _⟩ := h
      rfl
    · obtain ⟨S, L, v, d, N, c, rfl, sh, kd, nS, nL, hc, hS, k⟩ := h
      have hr1 : Room 1 _ := hr.mono (by omega)
      refine ⟨_, pss_cons (ps_if (pt_val (pe_callB call_isiT (by rfl) mi (by decide +kernel) (pa_cons (pv 1) (pa_cons (pe_tup (pa_cons (pe_bltn (v := .ty "list") (by rfl) ml (by decide +kernel) rfl) (pa_cons (pe_bltn (v := .ty "tuple") (by rfl) mt (by decide +kernel) rfl) pa_nil))) pa_nil))))
        (pss_cons (ps_setLc (i := 2) (own := [("_law_one", 3)]) (g := gName 3) (tt := tYes) (by rfl) scLoose.nd rfl rfl (sw_true rfl rfl rfl (by decide +kernel)) (pi_seq (pv 1)) (blkOk_by (N := nLoose) (sc := defScope sLoose) (by decide +kernel))
          (fun _ _ _ _ _ => pg_name (i := 3) scLoose.nd rfl (.inl rfl)) (fun _ _ _ _ _ => pts_nil) (fun _ _ _ _ _ => pe_call GF hr (by rfl) mF kF bF .nil pass0 (pa_cons (pv 0) (pa_cons (pv 3) pa_nil))))
        (pss_one (ps_ret (pe_ifExp (pt_cmpR op_eq (pe_call GD hr1 (by rfl) mD kD bD .nil pass0 (pa_cons (pv 0) (pa_cons pe_int pa_nil))) pe_int (nomark _)) (pv 2) (pe_tupleOf (by rfl) mt (pv 2)))))) pss_nil)
        (pss_one (ps_ret (pv 1))), ?_⟩
      obtain ⟨t, ht, kit⟩ := kd.ty (K := K)
      refine ⟨_, rfl, by show 2 ≤ sizeLine; decide, fun tp htp => ⟨v, tp, _, t, _, _, rfl, upd_same, .cons (.ty "list") (.cons (.ty "tuple") .nil), ht _ (same_new htp), kit, ?_⟩⟩
      have sm1 : Same H _ := same_new (o := .tup [.ty "list", .ty "tuple"]) htp
      cases it : items d with
      | none => exact ⟨_, rfl, iteF ⟨_, rfl, k v d c _ (.same it) ((kd.step (KN.same sm1)).mono fun b n => .inl n) (by omega) (hS.new htp) ((Kept.refl H).new htp)⟩⟩
      | some ds =>
        obtain ⟨p, b, xs, rfl, hs, np, ka⟩ := kd.seq it
        obtain ⟨l30, sh'⟩ := sh ds it
        have hn : ∀ q, N q → q ≠ S ∧ q ≠ L := fun q n => ⟨fun e => nS (e ▸ n), fun e => nL (e ▸ n)⟩
        have lx := ka.len
        have ci := cnt_items it
        have hS1 := hS.new (o := .tup [.ty "list", .ty "tuple"]) htp
        have off0 := hS1
        have ka1 := ka.step (KN.same sm1)
        have hs1 := hs.same sm1
        have hk1 : Kept S L H _ := (Kept.refl H).new (o := .tup [.ty "list", .ty "tuple"]) htp
        have hM : ∀ D q, (N q ∨ H q = none) ∧ q ≠ D → q ≠ S ∧ q ≠ L := fun D q m => m.1.elim (hn q) fun e => hS.off e
        refine ⟨_, rfl, iteT ⟨_, rfl, b, p, xs, rfl, hs1.sq, fun D hD => lc_it walk_sq (fun i H2 => ∃ (vs : List V) (ds' : List PyData) (c2 : Nat), H2 D = some (.lst vs) ∧ vs.length = i ∧ KDA (fun q => (N q ∨ H q = none) ∧ q ≠ D) H2 vs ds' ∧ LikeAll (ds.take i) ds' ∧ c2 ≤ c + cntL (ds.take i) ∧ StreamAt H2 S L c2 ∧ Kept S L H H2 ∧ KDA (fun q => N q ∧ q ≠ D) H2 xs ds)
          ⟨[], [], c, upd_same, rfl, .nil, .nil, by omega, hS1.new hD, hk1.add hD (hS1.off hD), ka1.cut hD⟩ (fun i H2 hi ⟨vs, ds', c2, hD2, _, _, _, _, hS2, hk2, _⟩ => HS.sq (hk2 _ _ hs (hn p np).1 (hn p np).2)) ?_ ?_⟩⟩
        · rintro i x H2 H3 hi ⟨vs, ds', c2, hD2, lv, kv, lk, hc2, hS2, hk2, kx⟩ ⟨rfl, hx⟩
          have offD := hS1.off hD
          have hD0 := sm1.free hD
          obtain ⟨d1, hd1, kd1⟩ := kx.get hx
          have ct := cntL_take hd1
          have cl := @cntL_le ds (i + 1)
          refine ⟨rfl, _, rfl, _, rfl, S, L, x, d1, _, c2, rfl, sh' d1 (List.mem_of_getElem? hd1), kd1, fun h => nS h.1, fun h => nL h.1, by omega, hS2, fun v' d' c3 H4 lk1 kd' hc3 hS4 hk4 => ?_⟩
          have hD4 := hk4 _ _ hD2 offD.1 offD.2
          refine ⟨vs, hD4, by rw [lv, sizeLine_eq]; omega, vs ++ [v'], ds' ++ [d'], c3, upd_same, by rw [List.length_append, lv]; rfl, ?_, ?_, by omega, hS4.put offD.1 offD.2, kept_upd (hk2.trans hk4) hD0, ?_⟩
          · refine KDA.put ((kv.step (KN.kept hk4 (hM D))).snoc (kd'.mono ?_)) fun q m => m.2
            rintro q (⟨n, nd⟩ | e)
            · exact ⟨.inl n, nd⟩
            · exact ⟨.inr (hk2.none e (hS2.off e).1 (hS2.off e).2), fun e2 => by rw [e2, hD2] at e; cases e⟩
          · rw [List.take_succ, hd1]
            exact lk.snoc lk1
          · exact KDA.put (kx.step (KN.kept hk4 fun q n => hn q n.1)) fun q m => m.2
        · rintro H2 ⟨vs, ds', c2, hD2, lv, kv, lk, hc2, hS2, hk2, kx⟩
          have offD := hS1.off hD
          have hD0 := sm1.free hD
          rw [lx, List.take_length] at lk hc2
          refine ⟨_, rfl, S, L, 2, _, rfl, by decide, by decide, by omega, hS2, fun r H3 r0 r1 hS3 hk3 => ⟨rfl, _, rfl, ?_⟩⟩
          have hD3 := hk3 _ _ hD2 offD.1 offD.2
          have kv3 := kv.step (KN.kept hk3 (hM D))
          refine ite2 (fun _ => ?_) (fun _ => ?_)
          · exact ⟨_, rfl, k _ (.list ds') _ _ (.seq it rfl lk) (.lst hD3 (.inr hD0) (kv3.mono fun q m => m.1)) (by omega) hS3 (hk2.trans hk3)⟩
          · refine ⟨_, rfl, .inl ⟨D, _, rfl, SqL.of hD3, fun q hq => ?_⟩⟩
            have hq0 := (hk2.trans hk3).none hq (hS3.off hq).1 (hS3.off hq).2
            exact k _ (.tuple ds') _ _ (.seq it rfl lk) (.tup upd_same (.inr hq0) ((kv3.step (KN.same (same_new hq))).mono fun q m => m.1)) (by omega) (hS3.new hq) ((hk2.trans hk3).add hq (hS3.off hq))
end
end K6
/-! A dict comprehension set to a local name on one line. -/
namespace EV
open PySem PySem.Spec PyProof.Rows L2
section
variable {X : Cx} {pins : List (Addr × Obj)} {σ : L2.St} {H : Hp} {s : Shared}
theorem dc_core {kx vx tg iter : Expr} {ifs : List Expr} {scope : Scope} {own : List (Str × Nat)} {pos pos' : Pos} {wi : TI} {g : TG} {tt : TT} {tk tv : TE} {o0 : HO} {Q : VK} {use : Option (Value → Sem Unit)} {Qf : Value → Shared → Prop} (b0 : Bare0 o0) (calm : X.calm = true) (hu : X.A.units + 1 < cLine) (hN : X.N.Nodup) (I : Inv X pins σ H s) (hi : PI X tg iter wi) (ok : BlkOk X.N X.env.scope scope own)
    (hg : AllBlk X scope fun B => PG B tg g) (ht : AllBlk X scope fun B => PTs B ifs tt) (hk : AllBlk X scope fun B => PE B kx tk) (he : AllBlk X scope fun B => PE B vx tv)
    (fold : ∀ x, foldedSetIterable iter X.env x = pure x) (reading : tDcP o0 wi g tt tk tv (own.map (·.2)) σ H Q)
    (hRR : ∀ D C s' m H', Inv X pins σ H' s' → Q (.ref D) H' → s'.heap.Ns C m → FpOk X pins H' C → compPost (model X.prog X.w) X.A X.xe use Qf (.ref D) C (.ok .next) s') :
    wpAny (model X.prog X.w) X.A (comprehension (.DictComp kx vx [⟨tg, iter, ifs, 0⟩] scope pos) scope X.env pos' newDict false (eval iter X.env) use) Qf X.xe s := by
  have frees : ∀ y ∈ scope.names, y.2 = .free → ∃ c, X.env.cells.lookup y.1 = some c := fun y hy e => (ok.free y hy e).elim (fun q => I.ok.has _ (.inl q)) fun q => I.ok.has _ (.inr q)
  refine wpAny_comprehension_free (use := use) rfl fold (closure_ok frees) ok.kind (fun y hy e => (ok.uniq y hy).trans (congrArg some e)) (thn (hi.run pins s σ H _ I reading) fun xv s1 made => thn made fun itv s2 stands => ?_)
  obtain ⟨it, fp, tn, J, H2, rfl, I2, T, at0, fpk, rest⟩ := stands
  refine wpAny_newObj_type (newEnv_comp ?_)
  obtain ⟨D, eD⟩ : ∃ D, s2.heap.objs.size = D := ⟨_, rfl⟩
  rw [eD]
  have new : H2 D = none := I2.hok.fresh (Nat.le_of_eq eD)
  obtain ⟨W, ⟨m0, start⟩, turns⟩ := rest D new
  -- the empty dict stands
  obtain ⟨s3, e3⟩ : ∃ s3 : Shared, ({ s2 with heap := s2.heap.push { cls := .type "dict", data := .dict #[] } } : Shared) = s3 := ⟨_, rfl⟩
  have grow : ∀ b o, s2.heap.get? b = some o → s3.heap.get? b = some o := fun b o e => by
    rw [← e3]
    exact Heap.get?_push_of_some _ e
  have size3 : s3.heap.objs.size = s2.heap.objs.size + 1 := by
    rw [← e3]
    exact Heap.size_push ..
  have I3 : Inv X pins σ (upd H2 D o0) s3 := by
    rw [← e3]
    refine I2.laid (t' := s2.toks) (fun b o e => Heap.get?_push_of_some _ e) (Nat.le_of_eq eD) ?_
    rw [← eD]
    exact bare0_lay b0 I2.big
  have small : ∀ b ∈ fp, b < s2.heap.objs.size := fun b hb => (T.obj _ _ at0 b hb).elim fun o q => Heap.lt_size q.1
  have fp3 : ∀ b ∈ fp, FpOk X pins (upd H2 D o0) b ∧ b < s3.heap.objs.size := fun b hb => by
    have lt := small b hb
    have ne : b ≠ D := Nat.ne_of_lt (eD ▸ lt)
    exact ⟨⟨(upd_ne ne).trans (fpk b hb).1, (fpk b hb).2⟩, size3 ▸ Nat.lt_succ_of_lt lt⟩
  have at3 : tn 0 s3.heap := T.keep _ _ _ at0 fun b _ o e => grow b o e
  have I4 := block_start I3 ok hN fp3
  generalize eC : s3.heap.objs.size = C at I4
  generalize ecl : cellsFrom (C + 1) scope.names (cloFrom X.env.cells scope.names []) = cl at I4
  have pg := hg s3 (upd H2 D o0) C cl fp
  have pt := ht s3 (upd H2 D o0) C cl fp
  have pk := hk s3 (upd H2 D o0) C cl fp
  have pv := he s3 (upd H2 D o0) C cl fp
  have none3 : ∀ b ∈ fp, (upd H2 D o0) b = none := fun b hb => (fp3 b hb).1.1
  have h4s : ∀ b o, s3.heap.get? b = some o → (pushCells (s3.heap.push { cls := .type "dict", data := .dict #[] }) scope.names).get? b = some o := fun b o e => pushCells_keeps _ _ _ _ (Heap.get?_push_of_some _ e)
  rw [e3]
  show codeAny _ _ (.compStart (.DictComp kx vx [⟨tg, iter, ifs, 0⟩] scope pos) 0 (.ref it) (.ref D) (compEnvC scope (cellsFrom (s3.heap.objs.size + 1) scope.names (cloFrom X.env.cells scope.names [])) s3.heap.objs.size X.env)) (compPost (model X.prog X.w) X.A X.xe use Qf (.ref D) s3.heap.objs.size) { s3 with heap := pushCells (s3.heap.push { cls := .type "dict", data := .dict #[] }) scope.names }
  rw [eC, ecl]
  generalize eB : compEnvC scope cl C X.env = B at I4 pg pt pk pv ⊢
  have locB : B.locals = C := eB ▸ rfl
  have at4 : tn 0 (pushCells (s3.heap.push { cls := .type "dict", data := .dict #[] }) scope.names) := T.keep _ _ _ at3 fun b _ o e => h4s b o e
  generalize e4 : ({ s3 with heap := pushCells (s3.heap.push { cls := .type "dict", data := .dict #[] }) scope.names } : Shared) = s4 at I4 ⊢
  have at4 : tn 0 s4.heap := e4 ▸ at4
  -- the iterator's own objects, seen from the block
  have own4 : ∀ {σ' : L2.St} {G : Hp} {s' : Shared}, Inv (X.blk s3 (upd H2 D o0) scope B fp) [] σ' G s' → (∀ b ∈ fp, G b = none) → ∀ b ∈ fp, FpOk (X.blk s3 (upd H2 D o0) scope B fp) [] G b := fun {σ' G s'} J' z b hb =>
    ⟨z b hb, (J'.ok.exf b hb).1, J'.ok.exfs b hb, .inl hb, fun x c e => (J'.ok.exf b hb).2 x c e, fun p hp => by simp [Cx.blk] at hp⟩
  have walk : codeAny (model X.prog X.w) X.A (.compLoop (.DictComp kx vx [⟨tg, iter, ifs, 0⟩] scope pos) 0 (.ref it) (.ref D) B) (compPost (model X.prog X.w) X.A X.xe use Qf (.ref D) C) s4 := by
    refine compLoop_anyD (fun n s5 => ∃ i G, Inv (X.blk s3 (upd H2 D o0) scope B fp) [] (wipe σ (own.map (·.2))) G s5 ∧ tn i s5.heap ∧ (∀ b ∈ fp, G b = none) ∧ W i n G) ?_ m0 ⟨0, _, I4, at4, none3, start⟩
    rintro n s5 ⟨i, G, I5, at5, none5, w5⟩
    rcases turns i n G w5 with ⟨over, found⟩ | ⟨more, Nx, next, step⟩
    · -- no further item: the def's own frame again
      refine thnF (T.done (X.blk s3 (upd H2 D o0) scope B fp) rfl rfl rfl calm i [] s5 _ G (fun _ _ => False) I5 (own4 I5 none5) at5 over) fun r s6 fin => ?_
      obtain ⟨rfl, I6⟩ := fin
      have back : Inv X pins σ G s6 := I3.call' (ch := fp) I6.os I6.base I6.hok I6.bare fun b hb => ⟨(fp3 b hb).1.2.2.2.1, (fp3 b hb).1.2.1, (fp3 b hb).1.2.2.2.2.1, (fp3 b hb).1.2.2.2.2.2⟩
      have freeC : G C = none := locB ▸ (show G B.locals = none from I6.free)
      obtain ⟨m, ns, _⟩ := I6.loc
      have nsC : s6.heap.Ns C m := locB ▸ (show s6.heap.Ns B.locals m from ns)
      obtain ⟨f0, f1, f2, f3, f4, f5⟩ := I3.fpOk (Nat.le_of_eq eC) freeC
      exact hRR D C s6 m G back found nsC ⟨freeC, f1, f2, f3, f4, f5⟩
    · refine thnF (T.item (X.blk s3 (upd H2 D o0) scope B fp) rfl rfl rfl calm i [] s5 _ G (fun _ _ => False) I5 (own4 I5 none5) at5 more) fun r s6 got => ?_
      obtain ⟨u, rfl, later⟩ := got
      refine thnF later fun _ s7 st => ?_
      obtain ⟨x, G7, I7, rx, y7, at7, none7⟩ := st
      have I8 := I7.pinned (own4 I7 none7) (T.obj _ _ at7)
      refine thnF (pg.run _ s7 _ G7 x u _ I8 rx (step x G7 y7)) fun _ s8 ⟨σ8, G8, I9, same8, q8⟩ => ?_
      -- what the turn leaves
      have goOn : ∀ {s9 : Shared} {G9 : Hp}, Inv (X.blk s3 (upd H2 D o0) scope B fp) ([] ++ pinsAt fp s7.heap) σ8 G9 s9 → Nx G9 → ∃ m, m < n ∧ ∃ j G', Inv (X.blk s3 (upd H2 D o0) scope B fp) [] (wipe σ (own.map (·.2))) G' s9 ∧ tn j s9.heap ∧ (∀ b ∈ fp, G' b = none) ∧ W j m G' := by
        intro s9 G9 J nx
        obtain ⟨m, lt, w9⟩ := next G9 nx
        have stood : ∀ b ∈ fp, ∀ o, s7.heap.get? b = some o → s9.heap.get? b = some o ∧ G9 b = none := fun b hb o e => by
          have z := J.pin (b, o) (List.mem_append_right _ (List.mem_append_right _ (mem_pinsAt hb e)))
          exact ⟨z.1, z.2.1⟩
        have len8 : (wipe σ (own.map (·.2))).length = σ8.length := same8 ▸ wipe_length ..
        refine ⟨m, lt, i + 1, G9, (J.unpinned (pins := [])).weak len8 (fun j v e => (wipe_some (same8.symm ▸ e)).1), T.keep _ _ _ at7 fun b hb o e => (stood b hb o e).1, fun b hb => ?_, w9⟩
        obtain ⟨o, e, _⟩ := T.obj _ _ at7 b hb
        exact (stood b hb o e).2
      refine thnF (pt.run _ s8 σ8 G8 _ I9 q8) fun b s9 ⟨G9, I10, q9⟩ => ?_
      by_cases kept : b = true
      · have q9 : tk σ8 G9 fun y H4 => tv σ8 H4 fun z H5 => ∃ H6, DPut H5 D y z H6 ∧ Nx H6 := by
          have q9 := show (if b = true then _ else _) from q9
          rwa [if_pos kept] at q9
        rw [if_pos kept]
        refine thnF (pk.run _ s9 σ8 G9 _ I10 q9) fun ku s10 ⟨y, G10, I11, ry, q10⟩ => ?_
        refine thnF (pv.run _ s10 σ8 G10 _ I11 q10) fun vu s11 ⟨z, G11, I12, rz, G12, put, nx⟩ => ?_
        exact lay_entry (X := X.blk s3 (upd H2 D o0) scope B fp) hu I12 put ry rz fun s12 I13 => goOn I13 nx
      · have q9 : Nx G9 := by
          have q9 := show (if b = true then _ else _) from q9
          rwa [if_neg kept] at q9
        rw [if_neg kept]
        exact goOn I10 q9
  exact codeAny_compStart_dict walk (T.self X.A 0 _ _ _ at4 walk)

/-- name = {..} on one line, the name a local -/
theorem ps_setDc {i : Nat} {y : Str} {py : Pos} {kx vx tg iter : Expr} {ifs : List Expr} {scope : Scope} {own : List (Str × Nat)} {pos spos : Pos} {wi : TI} {g : TG} {tt : TT} {tk tv : TE} {o0 : HO} (b0 : Bare0 o0) (calm : X.calm = true) (hu : X.A.units + 1 < cLine) (hN : X.N.Nodup) (hy : X.N[i]? = some y) (hyl : X.env.scope.names.lookup y = some .local)
    (hsw : swapsWith (.DictComp kx vx [⟨tg, iter, ifs, 0⟩] scope pos) (some (.Name y py)) spos.line X.env = pure true) (hi : PI X tg iter wi) (ok : BlkOk X.N X.env.scope scope own)
    (hg : AllBlk X scope fun B => PG B tg g) (ht : AllBlk X scope fun B => PTs B ifs tt) (hk : AllBlk X scope fun B => PE B kx tk) (he : AllBlk X scope fun B => PE B vx tv)
    (fold : ∀ x, foldedSetIterable iter X.env x = pure x := by intro _; rfl) :
    PS X (.Assign [.Name y py] (.DictComp kx vx [⟨tg, iter, ifs, 0⟩] scope pos) spos) (tAsg (tDcP o0 wi g tt tk tv (own.map (·.2))) (gName i)) := by
  refine ⟨fun pins s σ H D I h => ?_⟩
  rw [exec_Assign_Name_used _ _ _ _ hsw]
  refine wpAny_bind (wpAny_standAt (wpAny_bind ?_))
  show wpAny _ X.A (do let _ ← comprehension (.DictComp kx vx [⟨tg, iter, ifs, 0⟩] scope pos) scope X.env (firstIterPos [⟨tg, iter, ifs, 0⟩] pos) newDict false (eval iter X.env) (some (assign (.Name y py) X.env))) _ _ s
  have h : tDcP o0 wi g tt tk tv (own.map (·.2)) σ H (fun x H1 => gName i x σ H1 D.nx) := h
  refine wpAny_bind (thn (dc_core (Qf := fun _ s' => SP X pins D .next s') b0 calm hu hN I hi ok hg ht hk he fold h fun L C s' m H' I' q hn f => ?_) fun _ s' hq => wpAny_pure (wpAny_pure hq))
  show wpAny _ _ (assign (.Name y py) X.env (.ref L)) _ _ _
  refine wpAny_assign_Name (store_ok2 (v := V.ref L) I' hN hy (.inl hyl) rfl (fun s2 I2 ⟨a, sb, ha⟩ => ?_) (.inr hyl))
  obtain ⟨f0, f1, f2, f3, f4, f5⟩ := f
  have haC : C ≠ a := by
    rcases ha with z | z
    · rw [z]; exact f1
    · exact fun e => f4 y a z e.symm
  refine ⟨m, hn.sameBut sb haC, fun h3 sb3 => ?_⟩
  exact ⟨_, H', I2.turned (t' := s2.toks) (fun b o hb e => (sb3.2 b hb).trans e) f0 f1 f3 f4 f5, q⟩
theorem sw_trueD {kx vx : Expr} {gs : List Comprehension} {scope : Scope} {pos py : Pos} {y : Str} {l : Nat} {env : Env} (hk : env.scope.kind = .function) (hy : env.scope.names.lookup y = some .local) (hl : (py.line == pos.line) = true)
    (ha : (scope.names.any fun (n, k) => n == y && (k == .local || k == .cell)) = false) : swapsWith (.DictComp kx vx gs scope pos) (some (.Name y py)) l env = pure true := by
  have ky : env.kindOf y = some .local := hy
  have hb : env.blockKind = .function := by unfold Env.blockKind; rw [hk]; rfl
  unfold swapsWith
  simp only [hb, ky, ha, Expr.pos, hl]
  rfl
end
end EV
namespace K6
open PySem PySem.Spec PyProof.Rows L2 LamX NdefX EV
/-! ### right pairs, each behind those ahead of it -/
/-- the opposite of a literal -/
def oth (z : Str) : Str := if cutS z none (some 1) = Str.ofString "-" then cutS z (some 1) none else neg z
theorem oth_lit {q : Bool × Str} (g : Name1 q.2) : oth (lit q) = lit (opp q) := by
  unfold oth
  obtain ⟨b, n⟩ := q
  cases b
  · rw [if_neg fun h => Bool.noConfusion ((dash_lit g).mp h)]
    rfl
  · rw [if_pos ((dash_lit (q := (true, n)) g).mpr rfl)]
    exact cut_neg n
def ixOf (m : Nat) : PyData → Option Nat
  | .int k => if 0 ≤ k ∧ k < m then some k.toNat else none
  | _ => none
def leftOf (so r : List Str) : List Str := r.filter fun z => decide (oth z ∉ so)
def endR (left so : List Str) : PyData → Option (Option Str)
  | .none => if left = [] then some none else none
  | .str z => if left = [z] ∧ z ∉ so then some (some z) else none
  | _ => none
/-- what a pair is: wrong (none), a clause that is denied whole (some none), a literal that is drawn -/
def stepR (rs : List (List Str)) (so : List Str) (d : PyData) : Option (Option Str) :=
  match items d with
  | some [i, l] => match ixOf rs.length i with
    | none => none
    | some k => endR (leftOf so (rs.getD k [])) so l
  | _ => none
def goR (rs : List (List Str)) : List Str → Bool → List PyData → Bool
  | _, _, [] => true
  | _, true, _ :: _ => false
  | so, false, d :: ds => match stepR rs so d with
    | none => false
    | some none => goR rs so true ds
    | some (some z) => goR rs (so ++ [z]) false ds
def areB (rs : List (List Str)) (so : List Str) (d : PyData) : Bool := match items d with
  | none => false
  | some ds => goR rs so false ds
theorem items_cases {d : PyData} {ds : List PyData} (h : items d = some ds) : d = .list ds ∨ d = .tuple ds := by
  cases d <;> simp [items] at h
  · exact .inl (by rw [h])
  · exact .inr (by rw [h])
theorem ixOf_like {m : Nat} {d d' : PyData} (h : Like d d') : ixOf m d = ixOf m d' := by
  cases h with
  | same h => rfl
  | seq h h' t => cases d <;> simp [items] at h <;> cases d' <;> simp [items] at h' <;> rfl
theorem stepR_like {rs : List (List Str)} {so : List Str} {d d' : PyData} (h : Like d d') : stepR rs so d = stepR rs so d' := by
  cases h with
  | same h => rfl
  | seq h h' t =>
    unfold stepR
    rw [h, h']
    cases t with
    | nil => rfl
    | cons h1 t1 =>
      cases t1 with
      | nil => rfl
      | cons h2 t2 =>
        cases t2 with
        | cons h3 t3 => rfl
        | nil =>
          show (match ixOf rs.length _ with | none => _ | some k => _) = (match ixOf rs.length _ with | none => _ | some k => _)
          rw [ixOf_like h1]
          cases h2 with
          | same h => rfl
          | seq h h' t => rcases items_cases h with rfl | rfl <;> rcases items_cases h' with rfl | rfl <;> rfl
theorem goR_like {rs : List (List Str)} : ∀ {ds ds' : List PyData}, LikeAll ds ds' → ∀ so b, goR rs so b ds = goR rs so b ds'
  | _, _, .nil, _, _ => by rfl
  | _, _, .cons h t, so, true => by rfl
  | _, _, .cons h t, so, false => by
    unfold goR
    rw [stepR_like h]
    split
    · rfl
    · exact goR_like t _ _
    · exact goR_like t _ _
theorem areB_like {rs : List (List Str)} {so : List Str} {d d' : PyData} (h : Like d d') : areB rs so d = areB rs so d' := by
  unfold areB
  cases h with
  | same h => rfl
  | seq h h' t => rw [h, h']; exact goR_like t _ _
/-! ### is_index -/
def isI : PyData → Bool
  | .int _ => true
  | .bool _ => true
  | _ => false
def isB : PyData → Bool
  | .bool _ => true
  | _ => false
theorem KD.isT {N : Addr → Prop} {K : PySem.W.Frag} {H : Hp} {v : V} {d : PyData} (h : KD N H v d) : ∃ t, (∀ H', Same H H' → TyX K H' v t) ∧ PySem.W.kitOne K t (.type "int") = some (isI d) ∧ PySem.W.kitOne K t (.type "bool") = some (isB d) := by
  cases h with
  | lst h n t => exact ⟨.type "list", fun _ sm => .base (.lst (sm _ _ h)), kit_ty (show kitB "list" "int" = some false by decide +kernel), kit_ty (show kitB "list" "bool" = some false by decide +kernel)⟩
  | tup h n t => exact ⟨.type "tuple", fun _ sm => .base (.tup (sm _ _ h)), kit_ty (show kitB "tuple" "int" = some false by decide +kernel), kit_ty (show kitB "tuple" "bool" = some false by decide +kernel)⟩
  | non => exact ⟨_, fun _ _ => .base .non, kit_ty (show kitB "NoneType" "int" = some false by decide +kernel), kit_ty (show kitB "NoneType" "bool" = some false by decide +kernel)⟩
  | int i => exact ⟨_, fun _ _ => .base (.int i), kit_ty (show kitB "int" "int" = some true by decide +kernel), kit_ty (show kitB "int" "bool" = some false by decide +kernel)⟩
  | bl b => exact ⟨_, fun _ _ => .base (.bl b), kit_ty (show kitB "bool" "int" = some true by decide +kernel), kit_ty (show kitB "bool" "bool" = some true by decide +kernel)⟩
  | str z => exact ⟨_, fun _ _ => .base (.str z), kit_ty (show kitB "str" "int" = some false by decide +kernel), kit_ty (show kitB "str" "bool" = some false by decide +kernel)⟩
  | dct h n => exact ⟨_, fun _ sm => .base (.dK (sm _ _ h)), kit_ty (show kitB "dict" "int" = some false by decide +kernel), kit_ty (show kitB "dict" "bool" = some false by decide +kernel)⟩
def spIsIndex (K : PySem.W.Frag) (C : Addr) : Sp := fun vs H Q _ => ∃ (x : Addr) (v : V) (sg hp : List Str) (rs : List (List Str)) (N : Addr → Prop) (d : PyData), vs = [.ref x, v] ∧ CodeAt K C H x sg hp rs ∧ KD N H v d ∧ Q (.bl (ixOf rs.length d).isSome) H
section
variable {P : Program} {w : World} {K : PySem.W.Frag} {mg : Str → Option Value} {base : Heap} {f C : Addr} {fd : FuncData}
theorem scIsIndex : FnScope ["code", "thing"] ["code", "thing"] (defScope sIsIndex) := ⟨rfl, rfl, rfl, by decide +kernel, rfl, by decide +kernel, by decide +kernel⟩
theorem ok_isIndex (F : Fun K "is_index" "is_index" sIsIndex f fd) (T : CTxt K mg C) (mi : mg "isinstance" = none) (mn : mg "int" = none) (mb : mg "bool" = none) : FnOk P w K mg base CX0 1 f fd ["code", "thing"] (spIsIndex K C) := by
  refine F.ok scIsIndex (fun vs H Q E h => ?_) (fun cdv A outer s H vs Q E hr h => ?_)
  · obtain ⟨x, v, sg, hp, rs, N, d, rfl, _⟩ := h
    rfl
  · obtain ⟨x, v, sg, hp, rs, N, d, rfl, ⟨dx, a, b, pl, r, hx, _, _, _, hr4⟩, kd, k⟩ := h
    refine ⟨_, pss_one (ps_ret (pe_and (pe_callB call_isi (by rfl) mi (by decide +kernel) (pa_cons (pv 1) (pa_cons (pe_bltn (v := .ty "int") (by rfl) mn (by decide +kernel) rfl) pa_nil)))
      (pe_and (pe_not (pe_callB call_isi (by rfl) mi (by decide +kernel) (pa_cons (pv 1) (pa_cons (pe_bltn (v := .ty "bool") (by rfl) mb (by decide +kernel) rfl) pa_nil))))
      (pe_one (pe_chain op_le op_lt pe_int (pv 1) (pe_callB call_len_dT (by rfl) T.len PySem.boot_len (pa_cons (pe_fld (pv 0) rfl) pa_nil))))))), ?_⟩
    obtain ⟨t, ty, k1, k2⟩ := kd.isT (K := K)
    refine ⟨_, rfl, v, .ty "int", t, .type "int", _, rfl, .ty "int", ty _ (Same.refl H), k1, _, rfl, ?_⟩
    have no : ∀ {b : Bool}, b = false → (ixOf rs.length d) = none → (Q (.bl b) H) := fun e1 e2 => by
      rw [e2] at k
      rw [e1]
      exact k
    cases d with
    | int i =>
      cases kd
      refine iteT ⟨_, rfl, .int i, .ty "bool", t, .type "bool", _, rfl, .ty "bool", ty _ (Same.refl H), k2, _, rfl, _, rfl, iteT ⟨_, rfl, ?_⟩⟩
      refine ⟨0, i, rfl, rfl, _, rfl, ?_⟩
      by_cases h0 : 0 ≤ i
      · rw [decide_eq_true h0]
        refine iteT ⟨_, rfl, x, C, dx, _, _, rfl, hx, T.cl, T.n4, fl4 .., r, _, rfl, hr4, i, _, rfl, rfl, ?_⟩
        have e : (ixOf rs.length (PyData.int i)).isSome = decide (i < (((rs.map rowKv).length : Nat) : Int)) := by
          rw [List.length_map]
          show (if 0 ≤ i ∧ i < (rs.length : Nat) then some i.toNat else none).isSome = _
          by_cases h1 : i < (rs.length : Nat)
          · rw [if_pos ⟨h0, h1⟩, decide_eq_true h1]
            rfl
          · rw [if_neg fun z => h1 z.2, decide_eq_false h1]
            rfl
        rw [e] at k
        exact k
      · rw [decide_eq_false h0]
        exact iteF (no rfl (if_neg fun z => h0 z.1))
    | bool b =>
      cases kd
      exact iteT ⟨_, rfl, .bl b, .ty "bool", t, .type "bool", _, rfl, .ty "bool", ty _ (Same.refl H), k2, _, rfl, _, rfl, iteF (no rfl rfl)⟩
    | _ => exact iteF (no rfl rfl)
end
end K6
namespace K6
open PySem PySem.Spec PyProof.Rows L2 LamX NdefX EV
/-! ### are_drawings -/
/-- what may stand in a pair: no deeper than a list of one text -/
inductive Plain : PyData → Prop
  | non : Plain .none
  | bl (b : Bool) : Plain (.bool b)
  | int (i : Int) : Plain (.int i)
  | str {z : Str} (f : Fit z) : Plain (.str z)
  | one {d : PyData} {z : Str} (h : items d = some [.str z]) (f : Fit z) : Plain d
theorem Plain.lay {d : PyData} (h : Plain d) : d.canLay0 = true ∧ d.depth ≤ 2 := by
  cases h with
  | non => exact ⟨rfl, by decide⟩
  | bl b => exact ⟨rfl, Nat.zero_le _⟩
  | int i => exact ⟨rfl, Nat.zero_le _⟩
  | str f => exact ⟨f.ok, Nat.zero_le _⟩
  | one h f =>
    rcases items_cases h with rfl | rfl
    · refine ⟨?_, by simp [PyData.depth, PyData.depthAll]⟩
      simp only [PyData.canLay0, PyData.canLayAll0, f.ok, Bool.and_self]
    · refine ⟨?_, by simp [PyData.depth, PyData.depthAll]⟩
      simp only [PyData.canLay0, PyData.canLayAll0, f.ok, Bool.and_self]
theorem Plain.shaped1 {d : PyData} (h : Plain d) : SeqAt.shaped (.list [d]) = true := by
  obtain ⟨h1, h2⟩ := h.lay
  refine Bool.and_eq_true_iff.mpr ⟨?_, decide_eq_true ?_⟩
  · simp only [PyData.canLay0, PyData.canLayAll0, h1, Bool.and_self]
  · simp only [PyData.depth, PyData.depthAll]
    omega
theorem KD.dp {N : Addr → Prop} {K : PySem.W.Frag} {H : Hp} {v : V} {d : PyData} (k : KD N H v d) (p : Plain d) : Dp K H v d := by
  cases p with
  | non => cases k; exact .non
  | bl b => cases k; exact .bl b
  | int i => cases k; exact .int i
  | str f => cases k; exact .str _
  | one h f =>
    rcases items_cases h with rfl | rfl
    · cases k with
      | lst h n t =>
        cases t with
        | cons a t =>
          cases t
          cases a
          exact .lst (SqL.of h) (.cons (.str _) .nil)
    · cases k with
      | tup h n t =>
        cases t with
        | cons a t =>
          cases t
          cases a
          exact .tup (SqT.of h) (.cons (.str _) .nil)
theorem eqv_left (ls : List Str) {d : PyData} : PyData.eqv (.list (ls.map PyData.str)) (.list [d]) = (match d with | .str z => decide (ls = [z]) | _ => false) := by
  cases ls with
  | nil => cases d <;> simp [PyData.eqv, PyData.eqvAll]
  | cons x r =>
    cases r with
    | nil => cases d <;> simp [PyData.eqv, PyData.eqvAll, Bool.beq_eq_decide_eq]
    | cons y r => cases d <;> simp [PyData.eqv, PyData.eqvAll]
theorem lits_nd : ∀ {qs : List (Bool × Str)}, (∀ q ∈ qs, Name1 q.2) → (qs.map Prod.snd).Nodup → (qs.map lit).Nodup
  | [], _, _ => List.nodup_nil
  | q :: r, g, nd => by
    obtain ⟨n1, n2⟩ := List.nodup_cons.mp nd
    refine List.nodup_cons.mpr ⟨fun m => ?_, lits_nd (fun q' h => g q' (List.mem_cons_of_mem _ h)) n2⟩
    obtain ⟨q', h', e⟩ := List.mem_map.mp m
    have z := lit_inj (g q' (List.mem_cons_of_mem _ h')) (g q List.mem_cons_self) e
    exact n1 (List.mem_map.mpr ⟨q', h', by rw [z]⟩)
theorem drop_at {α : Type} {xs : List α} {i : Nat} {x : α} (h : xs[i]? = some x) : xs.drop i = x :: xs.drop (i + 1) := by
  obtain ⟨il, e⟩ := List.getElem?_eq_some_iff.mp h
  rw [List.drop_eq_getElem_cons il, e]
theorem ix_hs {K : PySem.W.Frag} {H : Hp} {p : Addr} {b : Bool} {xs : List V} {i : Nat} {v : V} {Q : VK} (h : HS H p b xs) (e : xs[i]? = some v) (q : Q v H) : rIx K (.ref p) (.int (i : Nat)) H Q := by
  cases b
  · exact .inr (.inl ⟨p, xs, _, v, rfl, rfl, SqT.of h, atI_nat e, q⟩)
  · exact .inl ⟨p, xs, _, v, rfl, rfl, SqL.of h, atI_nat e, q⟩
theorem row_lit {ns r : List Str} (good : ∀ z ∈ ns, Name1 z) (h : RowOf ns r) {z : Str} (hz : z ∈ r) : ∃ q : Bool × Str, z = lit q ∧ Name1 q.2 := by
  obtain ⟨qs, hq, rfl⟩ := h
  obtain ⟨n, hn, e⟩ := lits_mem.mp (List.mem_filter.mp hz).1
  rcases e with rfl | rfl
  · exact ⟨(false, _), rfl, good _ hn⟩
  · exact ⟨(true, n), rfl, good _ hn⟩
theorem leftOf_step {so r : List Str} {j : Nat} {z : Str} (h : r[j]? = some z) : leftOf so (r.take (j + 1)) = leftOf so (r.take j) ++ if oth z ∉ so then [z] else [] := by
  unfold leftOf
  rw [List.take_succ, h, List.filter_append]
  congr 1
  by_cases e : oth z ∈ so
  · simp [e]
  · simp [e]
theorem leftOf_len {so r : List Str} : (leftOf so r).length ≤ r.length := List.length_filter_le _ _
theorem ixOf_some {m k : Nat} {d : PyData} (h : ixOf m d = some k) : d = .int (k : Nat) ∧ k < m := by
  cases d with
  | int i =>
    have h : (if 0 ≤ i ∧ i < m then some i.toNat else none) = some k := h
    by_cases c : 0 ≤ i ∧ i < m
    · rw [if_pos c] at h
      have e := Option.some.inj h
      refine ⟨?_, by omega⟩
      rw [← e, Int.toNat_of_nonneg c.1]
    · rw [if_neg c] at h
      cases h
  | _ => cases h
theorem stepR_len {rs : List (List Str)} {so : List Str} {e : PyData} {es : List PyData} (h : items e = some es) (n : es.length ≠ 2) : stepR rs so e = none := by
  unfold stepR
  rw [h]
  match es, n with
  | [], _ => rfl
  | [_], _ => rfl
  | [_, _], n => exact (n rfl).elim
  | _ :: _ :: _ :: _, _ => rfl
theorem stepR_two {rs : List (List Str)} {so : List Str} {e i l : PyData} (h : items e = some [i, l]) : stepR rs so e = match ixOf rs.length i with
    | none => none
    | some k => endR (leftOf so (rs.getD k [])) so l := by
  unfold stepR
  rw [h]
  all_goals rfl
def spAre (K : PySem.W.Frag) (C : Addr) : Sp := fun vs H Q _ => ∃ (x A : Addr) (b : Bool) (v : V) (sg hp : List Str) (rs : List (List Str)) (qs : List (Bool × Str)) (N : Addr → Prop) (d : PyData), vs = [.ref x, .ref A, v] ∧ CodeAt K C H x sg hp rs ∧ OkC sg hp rs ∧
  HS H A b ((qs.map lit).map V.str) ∧ Lits (sg ++ hp) qs ∧ KD N H v d ∧ (∀ ds, items d = some ds → ds.length ≤ 60 ∧ ∀ e ∈ ds, ∀ es, items e = some es → ∀ y ∈ es, Plain y) ∧ ∀ H', Same H H' → Q (.bl (areB rs (qs.map lit) d)) H'
section
variable {P : Program} {w : World} {K : PySem.W.Frag} {mg : Str → Option Value} {base : Heap} {f fS fL fX fO f3 C : Addr} {fd fdS fdL fdX fdO fd3 : FuncData}
abbrev nAre : List Str := ["code", "setting", "thing", "clauses", "literal", "so", "is_over", "pair", "left", "part"]
theorem scAre : FnScope nAre ["code", "setting", "thing"] (defScope sAre) := ⟨rfl, rfl, rfl, by decide +kernel, rfl, by decide +kernel, by decide +kernel⟩
theorem ok_are (F : Fun K "are_drawings" "are_drawings" sAre f fd) (T : CTxt K mg C)
    (GS : FnOk P w K mg base CX0 3 fS fdS ["places", "setting"] (spChkSet K)) (mS : mg "check_setting" = some (.ref fS)) (kS : PySem.W.keepIn K (.ref fS) = true) (bS : L2.Binds K fdS ["places", "setting"] [])
    (GL : FnOk P w K mg base CX0 1 fL fdL ["thing"] (spIsList K)) (mL : mg "is_list" = some (.ref fL)) (kL : PySem.W.keepIn K (.ref fL) = true) (bL : L2.Binds K fdL ["thing"] [])
    (GX : FnOk P w K mg base CX0 1 fX fdX ["code", "thing"] (spIsIndex K C)) (mX : mg "is_index" = some (.ref fX)) (kX : PySem.W.keepIn K (.ref fX) = true) (bX : L2.Binds K fdX ["code", "thing"] [])
    (GO : FnOk P w K mg base CX0 1 fO fdO ["literal"] spOpp) (mO : mg "opposite" = some (.ref fO)) (kO : PySem.W.keepIn K (.ref fO) = true) (bO : L2.Binds K fdO ["literal"] [])
    (G3 : FnOk P w K mg base CX0 1 f3 fd3 ["self"] (spClauses K C)) (m3 : Meth K C "clauses" f3) (b3 : L2.Binds K fd3 ["self"] []) :
    FnOk P w K mg base CX0 4 f fd ["code", "setting", "thing"] (spAre K C) := by
  refine F.ok scAre (fun vs H Q E h => ?_) (fun cdv A' outer s H vs Q E hr h => ?_)
  · obtain ⟨x, A, b, v, sg, hp, rs, qs, N, d, rfl, _⟩ := h
    rfl
  · obtain ⟨x, A, b, v, sg, hp, rs, qs, N, d, rfl, ca, ok, hA, hq, kd, pl2, k⟩ := h
    have hu := hu_of hr
    have hr1 : Room 1 _ := hr.mono (by decide)
    have ca0 := ca
    obtain ⟨dx, a, b', pl, r, hx, ha, hb, hpl, hr4⟩ := ca
    refine ⟨_, (pss_cons (ps_expr (pe_call GS hr (by rfl) mS kS bS .nil pass0 (pa_cons (pe_fld (pv 0) rfl) (pa_cons (pv 1) pa_nil))))
      (pss_cons (ps_if (pt_not (pt_val (pe_call GL hr1 (by rfl) mL kL bL .nil pass0 (pa_cons (pv 2) pa_nil)))) (pss_one (ps_ret pe_bl)) pss_nil)
      (pss_cons (ps_set (i := 3) scAre.nd rfl (.inl rfl) (pe_meth0 (pv 0) T.cl m3 G3 hr1 b3 .nil pass0))
      (pss_cons (ps_set (i := 5) scAre.nd rfl (.inr rfl) (pe_dcP (own := [("literal", 4)]) .k rfl hu scAre.nd (pi_seq (pv 1)) (blkOk_by (N := nAre) (sc := defScope sAre) (by decide +kernel)) (fun _ _ _ _ _ => pg_name (i := 4) scAre.nd rfl (.inl rfl)) (fun _ _ _ _ _ => pts_nil) (fun _ _ _ _ _ => pv 4) (fun _ _ _ _ _ => pe_bl)))
      (pss_cons (ps_set (i := 6) scAre.nd rfl (.inl rfl) pe_bl)
      (pss_cons (ps_for PassesOwn.never rfl (pi_seq (pv 2)) (pg_name (i := 7) scAre.nd rfl (.inl rfl)) (pss_cons (ps_if (PW.pt (pw_or (pt_val (pv 6)) (pw_or (pt_not (pt_val (pe_call GL hr1 (by rfl) mL kL bL .nil pass0 (pa_cons (pv 7) pa_nil)))) (pw_or (pt_cmpR op_ne (pe_callB call_len_seq (by rfl) T.len PySem.boot_len (pa_cons (pv 7) pa_nil)) pe_int (nomark _)) (pw_or1 (pt_not (pt_val (pe_call GX hr1 (by rfl) mX kX bX .nil pass0 (pa_cons (pv 0) (pa_cons (pe_ix ix_seq (pv 7) pe_int (fun _ _ => rfl)) pa_nil)))))))))) (pss_one (ps_ret pe_bl)) pss_nil)
      (pss_cons (ps_set (i := 4) scAre.nd rfl (.inl rfl) (pe_ix ix_seq (pv 7) pe_int (fun _ _ => rfl)))
      (pss_cons (ps_setLc (i := 8) (own := [("part", 9)]) (g := gName 9) (by rfl) scAre.nd rfl rfl (sw_true rfl rfl rfl (by decide +kernel)) (pi_seq (pe_ix ix_list (pv 3) (pe_ix ix_seq (pv 7) pe_int (fun _ _ => rfl)) (fun _ _ => rfl))) (blkOk_by (N := nAre) (sc := defScope sAre) (by decide +kernel)) (fun _ _ _ _ _ => pg_name (i := 9) scAre.nd rfl (.inl rfl)) (fun _ _ _ _ _ => pts_one (pt_cmp (pc_dnotin hu (pe_call GO hr1 (by rfl) mO kO bO .nil pass0 (pa_cons (pv 9) pa_nil)) (pv 5)))) (fun _ _ _ _ _ => pv 9))
      (pss_one (ps_if (pt_cmpR op_isN (pv 4) pe_non rfl) (pss_cons (ps_set (i := 6) scAre.nd rfl (.inl rfl) pe_bl)
      (pss_one (ps_if (pt_truth (pv 8) (fun _ => rfl)) (pss_one (ps_ret pe_bl)) pss_nil))) (pss_one (ps_if (PW.pt (pw_or (pt_cmpR (op_neD hr.units) (pv 8) (pe_lst (pa_cons (pv 4) pa_nil)) (nomark _)) (pw_or1 (pt_cmp (pc_din hu (pv 4) (pv 5)))))) (pss_one (ps_ret pe_bl)) (pss_one (ps_dput hu (pv 5) (pv 4) pe_bl rfl))))))))))
      (pss_one (ps_ret pe_bl)))))))), ?_⟩
    --REST
    obtain ⟨t, ty, kit⟩ := kd.ty (K := K)
    refine ⟨_, rfl, x, C, dx, _, _, rfl, hx, T.cl, T.n3, fl3 .., _, rfl, pl, .ref A, sg ++ hp, rfl, hpl, ok.n60, ok.nd, ok.good, hA.ask hq, fun H1 sm1 => ⟨_, rfl, v, t, _, rfl, fun H' sm => ty H' (sm1.trans sm), kit, fun H2' sm2 => ⟨_, rfl, ?_⟩⟩⟩
    have sm02 := sm1.trans sm2
    cases it : items d with
    | none =>
      have z := k H2' sm02
      unfold areB at z
      rw [it] at z
      exact iteT z
    | some ds =>
      obtain ⟨l60, plain⟩ := pl2 ds it
      obtain ⟨p, bp, xs, rfl, hs, np, ka⟩ := kd.seq it
      have lx := ka.len
      have z0 : ∀ H', Same H H' → Q (.bl (goR rs (qs.map lit) false ds)) H' := fun H' sm => by
        have z := k H' sm
        unfold areB at z
        rw [it] at z
        exact z
      have ndq := lits_nd (fun q h => ok.good _ (hq.sub q h)) hq.nd
      refine iteF ⟨_, rfl, x, dx, _, rfl, sm02 _ _ hx, by rw [fl_eq]; rfl, x, sg, hp, rs, rfl, ?_, fun cl ts hcl hts => ?_⟩
      · exact ⟨dx, a, b', pl, r, sm02 _ _ hx, fun H' sm => ha H' (sm02.trans sm), fun H' sm => hb H' (sm02.trans sm), sm02 _ _ hpl, sm02 _ _ hr4⟩
      have sm3 : Same H (upd H2' cl (.lst (ts.map V.ref))) := sm02.trans (same_new hcl)
      refine ⟨_, rfl, b, A, _, rfl, (hA.same sm3).sq, fun D hD => dc_it walk_sq (fun i H5 => Same (upd H2' cl (.lst (ts.map V.ref))) H5 ∧ H5 D = some (.dK (((qs.map lit).take i).map seenKv))) ⟨same_new hD, upd_same⟩ (fun i H5 _ hh => (hA.same (sm3.trans hh.1)).sq) ?_ ?_⟩
      · rintro i y H5 H6 hi ⟨sm5, hD5⟩ ⟨rfl, hy⟩
        obtain ⟨z, hz, rfl⟩ := get_map hy
        have nb := not_before ndq hz
        have ilt := (List.getElem?_eq_some_iff.mp hz).1
        have few := hq.few
        have n60 := ok.n60
        rw [List.length_map] at ilt
        refine ⟨rfl, _, rfl, _, DPut.k (k := Sum.inr z) hD5 (by rw [List.length_map, List.length_take, sizeLine_eq]; omega), fun c o h => (upd_ne (ne_of_none h hD)).trans (sm5 c o h), ?_⟩
        rw [upd_same, putK_new (seen_none _ nb), List.take_succ, hz, List.map_append]
        rfl
      · rintro H5 ⟨sm5, hD5⟩
        rw [List.length_map, List.take_length] at hD5
        have sm05 := sm3.trans sm5
        have hcl5 : H5 cl = some (.lst (ts.map V.ref)) := sm5 _ _ upd_same
        have hts5 : RowsAt H5 ts rs := Paired.mapP hts fun t r z => sm5 _ _ ((upd_ne (ne_of_none z hcl)).trans z)
        have hs5 := hs.same sm05
        have lq : ((qs.map lit)).length = qs.length := List.length_map _
        refine ⟨_, rfl, bp, p, xs, rfl, hs5.sq, for_it walk_sq (fun i σ H2 => ∃ (so : List Str) (ov : Bool) (o4 o7 o8 o9 : Option V), σ = [some (.ref x), some (.ref A), some (.ref p), some (.ref cl), o4, some (.ref D), some (.bl ov), o7, o8, o9] ∧ Same (upd H2' cl (.lst (ts.map V.ref))) H2 ∧ H2 D = some (.dK (so.map seenKv)) ∧ so.length ≤ qs.length + i ∧ goR rs (qs.map lit) false ds = goR rs so ov (ds.drop i))
          ⟨qs.map lit, false, _, _, _, _, rfl, sm5, hD5, by rw [lq]; omega, by rw [List.drop_zero]⟩ (fun i σ H2 _ ⟨_, _, _, _, _, _, _, sm, _⟩ => (hs.same (sm3.trans sm)).sq) ?_ ?_⟩
        · rintro i y σ H6 H7 hi ⟨so, ov, o4, o7, o8, o9, rfl, sm6, hD6, lso, eq⟩ ⟨rfl, hy⟩
          obtain ⟨e, he, ke⟩ := ka.get hy
          have sm06 := sm3.trans sm6
          have ke7 := ke.step (KN.same sm06)
          have dr : ds.drop i = e :: ds.drop (i + 1) := drop_at he
          rw [dr] at eq
          have ie6 := (List.getElem?_eq_some_iff.mp he).1
          have pe := plain e (List.mem_of_getElem? he)
          have fin : goR rs (qs.map lit) false ds = false → ∀ H', Same H H' → Q (.bl false) H' := fun q H' sm => by
            have z := z0 H' sm
            rw [q] at z
            exact z
          cases ov with
          | true => exact ⟨_, rfl, _, rfl, iteT (iteT (fin eq _ sm06))⟩
          | false =>
            replace eq : goR rs (qs.map lit) false ds = match stepR rs so e with
              | none => false
              | some none => goR rs so true (ds.drop (i + 1))
              | some (some z) => goR rs (so ++ [z]) false (ds.drop (i + 1)) := eq
            obtain ⟨t2, ty2, kit2⟩ := ke7.ty (K := K)
            refine ⟨_, rfl, _, rfl, iteF ⟨_, rfl, y, t2, _, rfl, ty2, kit2, fun H8 sm8 => ⟨_, rfl, ?_⟩⟩⟩
            have sm08 := sm06.trans sm8
            have bad : stepR rs so e = none → Q (.bl false) H8 := fun q => fin (by rw [eq, q]) _ sm08
            cases ie : items e with
            | none => exact iteT (iteT (bad (by unfold stepR; rw [ie])))
            | some es =>
              obtain ⟨pp, bb, ys, rfl, hps, npp, kes⟩ := (ke7.step (KN.same sm8)).seq ie
              have lys := kes.len
              refine iteF ⟨_, rfl, _, _, rfl, hps.at2, rfl, _, rfl, ?_⟩
              by_cases l2 : ys.length = 2
              case neg =>
                rw [show (!decide (V.int (ys.length : Nat) = V.int 2)) = true from by rw [decide_eq_false (fun q => l2 (by injection q with q; omega))]; rfl]
                exact iteT (iteT (bad (stepR_len ie (by omega))))
              case pos =>
              rw [show (!decide (V.int (ys.length : Nat) = V.int 2)) = false from by rw [l2]; rfl]
              obtain ⟨d0, d1, rfl⟩ : ∃ d0 d1, es = [d0, d1] := by
                match es, lys.symm.trans l2 with
                | [a, b], _ => exact ⟨a, b, rfl⟩
              obtain ⟨v0, v1, rfl⟩ : ∃ v0 v1, ys = [v0, v1] := by
                match ys, l2 with
                | [a, b], _ => exact ⟨a, b, rfl⟩
              have st2 := stepR_two (rs := rs) (so := so) ie
              cases kes with
              | cons k0 kt =>
              cases kt with
              | cons k1 kt2 =>
              have pl1 : Plain d1 := pe _ ie d1 (List.mem_cons_of_mem _ List.mem_cons_self)
              refine iteF ⟨_, rfl, _, rfl, ix_hs (i := 0) hps rfl ⟨x, v0, sg, hp, rs, N, d0, rfl, ca0.same sm08, k0, _, rfl, ?_⟩⟩
              cases hx0 : ixOf rs.length d0 with
              | none => exact iteT (bad (by rw [st2, hx0]))
              | some kk =>
                obtain ⟨rfl, kl⟩ := ixOf_some hx0
                cases k0
                rw [hx0] at st2
                replace st2 : stepR rs so e = endR (leftOf so (rs.getD kk [])) so d1 := st2
                have hcl8 : H8 cl = some (.lst (ts.map V.ref)) := sm8 _ _ (sm6 _ _ upd_same)
                have hts8 : RowsAt H8 ts rs := Paired.mapP hts fun t r z => sm8 _ _ (sm6 _ _ ((upd_ne (ne_of_none z hcl)).trans z))
                have hD8 := sm8 _ _ hD6
                have tl : kk < ts.length := by rw [Paired.length hts]; exact kl
                obtain ⟨tk, htk⟩ : ∃ tk, ts[kk]? = some tk := ⟨_, List.getElem?_eq_getElem tl⟩
                obtain ⟨rk, hrk, htup⟩ := hts8.get kk tk htk
                rw [show rs.getD kk [] = rk by rw [List.getD_eq_getElem?_getD, hrk]; rfl] at st2
                have rkrow := ok.row rk (List.mem_of_getElem? hrk)
                have rk120 : rk.length ≤ 120 := by
                  obtain ⟨qs', _, rfl⟩ := rkrow
                  have z1 := asc_len (sg ++ hp) (qs'.map lit)
                  have z2 := ok.n60
                  omega
                refine iteF ⟨_, rfl, ix_hs (i := 1) hps rfl ⟨_, rfl, _, rfl, ix_hs (i := 0) hps rfl ⟨cl, _, _, .ref tk, rfl, rfl, SqL.of hcl8, atI_nat (by rw [List.getElem?_map, htk]; rfl), false, tk, _, rfl, Sq.tup htup, fun D2 hD2 => lc_it walk_sq (fun j H9 => Same H8 H9 ∧ H9 D2 = some (.lst ((leftOf so (rk.take j)).map V.str))) ⟨same_new hD2, upd_same⟩ (fun j H9 _ hh => Sq.tup (hh.1 _ _ htup)) ?_ ?_⟩⟩⟩
                · rintro j y H9 H10 hj ⟨sm9, hD9⟩ ⟨rfl, hy9⟩
                  obtain ⟨z, hz, rfl⟩ := get_map hy9
                  obtain ⟨q, rfl, gq⟩ := row_lit ok.good rkrow (List.mem_of_getElem? hz)
                  have hDD := sm9 _ _ hD8
                  have gz := DGet.k (k := Sum.inr (lit (opp q))) hDD
                  have lst := leftOf_step (so := so) hz
                  rw [oth_lit gq] at lst
                  by_cases mq : lit (opp q) ∈ so
                  · rw [seen_some _ mq] at gz
                    refine ⟨rfl, _, rfl, q, rfl, gq, _, rfl, D, _, rfl, gz, _, rfl, iteF ⟨sm9, ?_⟩⟩
                    rw [hD9, lst, if_neg (fun h => h mq), List.append_nil]
                  · rw [seen_none _ mq] at gz
                    refine ⟨rfl, _, rfl, q, rfl, gq, _, rfl, D, _, rfl, gz, _, rfl, iteT ⟨_, rfl, _, hD9, ?_, fun c o h => (upd_ne (ne_of_none h hD2)).trans (sm9 c o h), ?_⟩⟩
                    · have z1 := @leftOf_len so (rk.take j)
                      have z2 := List.length_take_le' j rk
                      rw [List.length_map, sizeLine_eq]
                      omega
                    · rw [upd_same, lst, if_pos mq, List.map_append]
                      rfl
                · rintro H9 ⟨sm9, hD9⟩
                  rw [List.length_map, List.take_length] at hD9
                  have sm09 := sm08.trans sm9
                  have hDD := sm9 _ _ hD8
                  have bad9 : stepR rs so e = none → Q (.bl false) H9 := fun q => fin (by rw [eq, q]) _ sm09
                  refine ⟨_, rfl, rfl, _, rfl, ?_⟩
                  by_cases hn : d1 = .none
                  · subst hn
                    cases k1
                    refine iteT ⟨_, rfl, _, .inl ⟨_, SqL.of hD9, rfl⟩, ?_⟩
                    by_cases hl : leftOf so rk = []
                    · rw [hl]
                      refine iteF ⟨so, true, _, _, _, _, rfl, (sm6.trans sm8).trans sm9, hDD, by omega, ?_⟩
                      rw [eq, st2]
                      show (match (if leftOf so rk = [] then some none else none) with
                        | none => false
                        | some none => goR rs so true (ds.drop (i + 1))
                        | some (some z) => goR rs (so ++ [z]) false (ds.drop (i + 1))) = _
                      rw [if_pos hl]
                    · rw [show (!((leftOf so rk).map V.str).isEmpty) = true from by cases q : leftOf so rk with
                        | nil => exact (hl q).elim
                        | cons a b => rfl]
                      exact iteT (bad9 (by rw [st2]; exact if_neg hl))
                  · have nv : v1 ≠ .non := by
                      rintro rfl
                      cases k1
                      exact hn rfl
                    rw [decide_eq_false nv]
                    refine iteF ⟨_, rfl, _, rfl, by show 1 ≤ sizeLine; decide, fun l hl => ⟨_, _, .lst (SqL.of ((same_new hl) _ _ hD9)) (dp_strs _), .lst (SqL.of upd_same) (.cons ((k1.step (KN.same (sm9.trans (same_new hl)))).dp pl1) .nil), ?_, pl1.shaped1, _, rfl, ?_⟩⟩
                    · exact shaped_strs _ fun z hz => by
                        obtain ⟨q, rfl, gq⟩ := row_lit ok.good rkrow (List.mem_filter.mp hz).1
                        exact gq.fit.lit
                    have bad10 : stepR rs so e = none → Q (.bl false) (upd H9 l (.lst [v1])) := fun q => fin (by rw [eq, q]) _ (sm09.trans (same_new hl))
                    rw [eqv_left]
                    cases d1 with
                    | none => exact (hn rfl).elim
                    | str z =>
                      cases k1
                      by_cases hl1 : leftOf so rk = [z]
                      · rw [show (!(match PyData.str z with | .str z => decide (leftOf so rk = [z]) | _ => false)) = false from by
                          show (!decide (leftOf so rk = [z])) = false
                          rw [decide_eq_true hl1]
                          rfl]
                        have hD10 := (same_new (o := .lst [V.str z]) hl) _ _ hDD
                        have gz := DGet.k (k := Sum.inr z) hD10
                        by_cases mz : z ∈ so
                        · rw [seen_some _ mz] at gz
                          refine iteF ⟨_, rfl, _, rfl, D, _, rfl, gz, _, rfl, iteT (bad10 ?_)⟩
                          rw [st2]
                          exact if_neg fun h => h.2 mz
                        · rw [seen_none _ mz] at gz
                          have nDl : D ≠ l := ne_of_none hDD hl
                          refine iteF ⟨_, rfl, _, rfl, D, _, rfl, gz, _, rfl, iteF ⟨_, rfl, _, rfl, D, _, rfl, DPut.k (k := Sum.inr z) hD10 ?_, so ++ [z], false, _, _, _, _, rfl, ?_, ?_, ?_, ?_⟩⟩
                          · have few := hq.few
                            have n60 := ok.n60
                            rw [List.length_map, sizeLine_eq]
                            omega
                          · exact fun c o h => (upd_ne (ne_of_none h hD)).trans ((((sm6.trans sm8).trans sm9).trans (same_new hl)) c o h)
                          · rw [upd_same, putK_new (seen_none _ mz), List.map_append]
                            rfl
                          · rw [List.length_append]
                            show so.length + 1 ≤ _
                            omega
                          · rw [eq, st2]
                            show (match (if leftOf so rk = [z] ∧ z ∉ so then some (some z) else none) with
                              | none => false
                              | some none => goR rs so true (ds.drop (i + 1))
                              | some (some z) => goR rs (so ++ [z]) false (ds.drop (i + 1))) = _
                            rw [if_pos ⟨hl1, mz⟩]
                      · rw [show (!(match PyData.str z with | .str z => decide (leftOf so rk = [z]) | _ => false)) = true from by
                          show (!decide (leftOf so rk = [z])) = true
                          rw [decide_eq_false hl1]
                          rfl]
                        exact iteT (iteT (bad10 (by rw [st2]; exact if_neg fun h => hl1 h.1)))
                    | _ => exact iteT (iteT (bad10 (by rw [st2]; rfl)))
        · rintro σ H6 ⟨so, ov, o4, o7, o8, o9, rfl, sm6, hD6, lso, eq⟩
          rw [lx, List.drop_length] at eq
          have z := z0 H6 (sm3.trans sm6)
          rw [eq] at z
          exact z
end
end K6
namespace K6
open PySem PySem.Spec PyProof.Rows L2 LamX NdefX EV
/-! ### the law's own look at pairs -/
/-- a, b, .. = a list or a tuple -/
theorem pg_tl {X : Cx} {pos : Pos} {es : List Expr} {k : Nat} {t : TGs} {n : Nat} (hc : X.calm = true) (h : PGs X es t)
    (hn : (assignEach es X.env).length = n := by rfl) (hst : (assignEach es X.env).findIdx? (·.1) = none := by rfl) : PG X (.Tuple es k pos) (fun v σ H Q => gLst X.K n t v σ H Q ∨ gTup X.K n t v σ H Q) :=
  ⟨fun pins s σ H v u Q I r hw => hw.elim (fun q => (pg_lst hc h hn hst).run pins s σ H v u Q I r q) fun q => (pg_tup hc h hn hst).run pins s σ H v u Q I r q⟩
theorem HS.tl {K : PySem.W.Frag} {H : Hp} {p : Addr} {b : Bool} {xs : List V} {n : Nat} {t : TGs} {σ : L2.St} {Q : L2.St → Hp → Prop} (h : HS H p b xs) (l : xs.length = n) (q : t xs σ H Q) : gLst K n t (.ref p) σ H Q ∨ gTup K n t (.ref p) σ H Q := by
  cases b
  · exact .inr ⟨p, xs, rfl, SqT.of h, l, q⟩
  · exact .inl ⟨p, xs, rfl, SqL.of h, l, q⟩
section
variable {P : Program} {w : World} {K : PySem.W.Frag} {mg : Str → Option Value} {base : Heap} {f fN : Addr} {fd fdN : FuncData}
end
end K6
namespace K6
open PySem PySem.Spec PyProof.Rows L2 LamX NdefX EV
/-! ### the law's walk: pairs in an order of its own -/
def lD : Option Str → PyData
  | none => .none
  | some z => .str z
def lV : Option Str → V
  | none => .non
  | some z => .str z
/-- a pair that the law draws -/
def PairD (d : PyData) : Prop := ∃ (i : Nat) (l : Option Str), d = .tuple [.int (i : Nat), lD l] ∧ (∀ z, l = some z → Fit z) ∧ i ≤ 1000
theorem PairD.plain {d : PyData} (h : PairD d) : ∀ es, items d = some es → ∀ y ∈ es, Plain y := by
  obtain ⟨i, l, rfl, f, _⟩ := h
  intro es e y hy
  cases e
  rcases List.mem_cons.mp hy with rfl | hy
  · exact .int _
  · rcases List.mem_cons.mp hy with rfl | hy
    · cases l with
      | none => exact .non
      | some z => exact .str (f z rfl)
    · cases hy
theorem pairs_lay : ∀ {ds : List PyData}, (∀ d ∈ ds, PairD d) → PyData.canLayAll0 ds = true ∧ PyData.depthAll ds ≤ 2
  | [], _ => ⟨rfl, by decide⟩
  | d :: ds, h => by
    obtain ⟨h1, h2⟩ := pairs_lay (ds := ds) fun x hx => h x (List.mem_cons_of_mem _ hx)
    obtain ⟨i, l, rfl, f, _⟩ := h d List.mem_cons_self
    have z : PyData.canLay0 (lD l) = true ∧ PyData.depth (lD l) = 0 := by
      cases l with
      | none => exact ⟨rfl, rfl⟩
      | some z => exact ⟨(f z rfl).ok, rfl⟩
    refine ⟨?_, ?_⟩
    · simp only [PyData.canLayAll0, PyData.canLay0, z.1, h1, Bool.and_self]
    · simp only [PyData.depthAll, PyData.depth, z.2]
      omega
theorem shaped_pairs {ds : List PyData} (h : ∀ d ∈ ds, PairD d) : SeqAt.shaped (.list ds) = true := by
  obtain ⟨h1, h2⟩ := pairs_lay h
  refine Bool.and_eq_true_iff.mpr ⟨?_, decide_eq_true ?_⟩
  · simp only [PyData.canLay0, h1]
  · simp only [PyData.depth]
    omega
theorem KD.pair {N : Addr → Prop} {K : PySem.W.Frag} {H : Hp} {v : V} {d : PyData} (k : KD N H v d) (h : PairD d) : Dp K H v d ∧ ∃ (t : Addr) (i : Nat) (l : Option Str), v = .ref t ∧ d = .tuple [.int (i : Nat), lD l] ∧ H t = some (.tup [.int (i : Nat), lV l]) := by
  obtain ⟨i, l, rfl, f, _⟩ := h
  cases k with
  | tup h n t =>
    cases t with
    | cons a t =>
      cases a
      cases t with
      | cons b t =>
        cases t
        cases l with
        | none => cases b; exact ⟨.tup (SqT.of h) (.cons (.int _) (.cons .non .nil)), _, i, none, rfl, rfl, h⟩
        | some z => cases b; exact ⟨.tup (SqT.of h) (.cons (.int _) (.cons (.str z) .nil)), _, i, some z, rfl, rfl, h⟩
theorem KDA.dps {N : Addr → Prop} {K : PySem.W.Frag} {H : Hp} : ∀ {vs : List V} {ds : List PyData}, KDA N H vs ds → (∀ d ∈ ds, PairD d) → DpAll K H vs ds
  | _, _, .nil, _ => .nil
  | _, _, .cons a t, h => .cons (a.pair (h _ List.mem_cons_self)).1 (KDA.dps t fun x hx => h x (List.mem_cons_of_mem _ hx))
section
variable {P : Program} {w : World} {K : PySem.W.Frag} {mg : Str → Option Value} {base : Heap} {f fN fP : Addr} {fd fdN fdP : FuncData}
end
end K6
namespace K6
open PySem PySem.Spec PyProof.Rows L2 LamX NdefX EV
/-! ### pairs with one thing otherwise -/
/-- no list, or a short one of plain things -/
def GoodD (d : PyData) : Prop := ∀ es, items d = some es → es.length ≤ 3 ∧ ∀ y ∈ es, Plain y
theorem PairD.good {d : PyData} (h : PairD d) : GoodD d := fun es e => ⟨by
  obtain ⟨i, l, rfl, _⟩ := h
  cases e
  show 2 ≤ 3
  decide, h.plain es e⟩
theorem GoodD.shal {d : PyData} (h : GoodD d) : shal 3 d := fun es e => ⟨by have := (h es e).1; omega, fun y hy fs ef => by
  cases (h es e).2 y hy with
  | one h1 f =>
    rw [h1] at ef
    cases ef
    refine ⟨by show 1 ≤ 30; decide, fun x hx => ?_⟩
    rw [List.mem_singleton.mp hx]
    exact fun gs eg => nomatch eg
  | _ => cases ef⟩
theorem GoodD.none {d : PyData} (h : items d = Option.none) : GoodD d := fun es e => by rw [h] at e; cases e
theorem GoodD.tup {es : List PyData} (l : es.length ≤ 3) (h : ∀ y ∈ es, Plain y) : GoodD (.tuple es) := fun fs e => by cases e; exact ⟨l, h⟩
section
variable {N : Addr → Prop} {H : Hp}
end
theorem Plain.cnt1 {d : PyData} (h : Plain d) : cnt d ≤ 1 := by
  cases h with
  | one h f =>
    rw [cnt_items h]
    simp [cntL, cnt]
  | _ => simp [cnt]
theorem plain_cnt : ∀ {es : List PyData}, (∀ y ∈ es, Plain y) → cntL es ≤ es.length
  | [], _ => by rw [cntL]; exact Nat.le_refl _
  | d :: es, h => by
    have z := plain_cnt (es := es) fun y hy => h y (List.mem_cons_of_mem _ hy)
    have y := (h d List.mem_cons_self).cnt1
    rw [cntL, List.length_cons]
    omega
theorem GoodD.cnt4 {d : PyData} (h : GoodD d) : cnt d ≤ 4 := by
  cases e : items d with
  | none =>
    cases d <;> simp [items] at e <;> simp [cnt]
  | some es =>
    have z := h es e
    have y := plain_cnt z.2
    rw [cnt_items e]
    omega
theorem good_cnt : ∀ {es : List PyData}, (∀ y ∈ es, GoodD y) → cntL es ≤ 4 * es.length
  | [], _ => by rw [cntL]; exact Nat.zero_le _
  | d :: es, h => by
    have z := good_cnt (es := es) fun y hy => h y (List.mem_cons_of_mem _ hy)
    have y := (h d List.mem_cons_self).cnt4
    rw [cntL, List.length_cons]
    omega
section
variable {P : Program} {w : World} {K : PySem.W.Frag} {mg : Str → Option Value} {base : Heap} {f fD fP fM : Addr} {fd fdD fdP fdM : FuncData}
end
end K6
namespace K6
open PySem PySem.Spec PyProof.Rows L2 LamX NdefX EV
/-! ### the law's own body: one list of things asked -/
theorem like_str {z : Str} {d' : PyData} (l : Like (.str z) d') : d' = .str z := by
  cases l with
  | same h => rfl
  | seq h h' t => cases h
theorem Plain.like {y y' : PyData} (l : Like y y') (p : Plain y) : Plain y' := by
  cases l with
  | same h => exact p
  | seq h h' t =>
    cases p with
    | one h1 f =>
      rw [h1] at h
      cases h
      cases t with
      | cons a t =>
        cases t
        rw [like_str a] at h'
        exact .one h' f
    | _ => cases h
theorem plain_all : ∀ {es es' : List PyData}, LikeAll es es' → (∀ y ∈ es, Plain y) → ∀ y ∈ es', Plain y
  | _, _, .nil, _ => fun _ h => nomatch h
  | _, _, .cons a t, p => fun y hy => by
    rcases List.mem_cons.mp hy with rfl | hy
    · exact (p _ List.mem_cons_self).like a
    · exact plain_all t (fun x hx => p x (List.mem_cons_of_mem _ hx)) y hy
theorem GoodD.like {d d' : PyData} (l : Like d d') (g : GoodD d) : GoodD d' := by
  cases l with
  | same h => exact g
  | seq h h' t =>
    obtain ⟨g1, g2⟩ := g _ h
    intro es e
    rw [h'] at e
    cases e
    exact ⟨by rw [← t.len]; exact g1, plain_all t g2⟩
theorem good_all : ∀ {es es' : List PyData}, LikeAll es es' → (∀ y ∈ es, GoodD y) → ∀ y ∈ es', GoodD y
  | _, _, .nil, _ => fun _ h => nomatch h
  | _, _, .cons a t, p => fun y hy => by
    rcases List.mem_cons.mp hy with rfl | hy
    · exact (p _ List.mem_cons_self).like a
    · exact good_all t (fun x hx => p x (List.mem_cons_of_mem _ hx)) y hy
section
variable {P : Program} {w : World} {K : PySem.W.Frag} {mg : Str → Option Value} {base : Heap} {C : Addr}
variable {f : Addr} {cdv : Value} {A : Around} {outer : List Env} {s0 : Shared} {HH : Hp} {E : XK}
end
end K6
namespace K6
/-! ### a trail, as numbers alone -/
structure TS where
  sides : List Nat
  held : List (List Nat)
  wat : List (List Nat)
  short : List Nat
  steps : List Nat
  fol : Nat
  chosen : List Nat
  starts : List Nat
  layers : List Nat
  reasons : List (Option Nat)
  clash : Option Nat
/-- the other literal of the name -/
def flip (l : Nat) : Nat := if l % 2 = 0 then l + 1 else l - 1
theorem flip_flip (l : Nat) : flip (flip l) = l := by
  unfold flip
  by_cases h : l % 2 = 0
  · rw [if_pos h, if_neg (by omega)]
    omega
  · rw [if_neg h, if_pos (by omega)]
    omega
theorem flip_half (l : Nat) : flip l / 2 = l / 2 := by
  unfold flip
  split <;> omega
theorem flip_lt {l n : Nat} (h : l < 2 * n) : flip l < 2 * n := by
  unfold flip
  split <;> omega
theorem flip_ne (l : Nat) : flip l ≠ l := by
  unfold flip
  split <;> omega
theorem flip_inj {a b : Nat} (h : flip a = flip b) : a = b := by rw [← flip_flip a, h, flip_flip]
theorem half_eq {a b : Nat} (h : a / 2 = b / 2) : a = b ∨ a = flip b := by
  unfold flip
  split <;> omega
def gN (xs : List Nat) (i : Nat) : Nat := xs.getD i 0
def gL (xs : List (List Nat)) (i : Nat) : List Nat := xs.getD i []
def gO (xs : List (Option Nat)) (i : Nat) : Option Nat := xs.getD i none
theorem gN_set (xs : List Nat) (i v j : Nat) : gN (xs.set i v) j = if j = i ∧ i < xs.length then v else gN xs j := by
  unfold gN
  rw [List.getD_eq_getElem?_getD, List.getD_eq_getElem?_getD, List.getElem?_set]
  by_cases h : i = j
  · subst h
    by_cases h2 : i < xs.length
    · simp [h2]
    · simp [h2]
  · rw [if_neg h, if_neg (fun z => h z.1.symm)]
theorem gL_set (xs : List (List Nat)) (i : Nat) (v : List Nat) (j : Nat) : gL (xs.set i v) j = if j = i ∧ i < xs.length then v else gL xs j := by
  unfold gL
  rw [List.getD_eq_getElem?_getD, List.getD_eq_getElem?_getD, List.getElem?_set]
  by_cases h : i = j
  · subst h
    by_cases h2 : i < xs.length
    · simp [h2]
    · simp [h2]
  · rw [if_neg h, if_neg (fun z => h z.1.symm)]
theorem gO_set (xs : List (Option Nat)) (i : Nat) (v : Option Nat) (j : Nat) : gO (xs.set i v) j = if j = i ∧ i < xs.length then v else gO xs j := by
  unfold gO
  rw [List.getD_eq_getElem?_getD, List.getD_eq_getElem?_getD, List.getElem?_set]
  by_cases h : i = j
  · subst h
    by_cases h2 : i < xs.length
    · simp [h2]
    · simp [h2]
  · rw [if_neg h, if_neg (fun z => h z.1.symm)]
theorem gN_mem {xs : List Nat} {i : Nat} (h : i < xs.length) : gN xs i ∈ xs := by
  unfold gN
  rw [List.getD_eq_getElem?_getD, List.getElem?_eq_getElem h]
  exact List.getElem_mem h
theorem mem_gN {xs : List Nat} {l : Nat} (h : l ∈ xs) : ∃ i, i < xs.length ∧ gN xs i = l := by
  obtain ⟨i, hi, e⟩ := List.getElem_of_mem h
  exact ⟨i, hi, by unfold gN; rw [List.getD_eq_getElem?_getD, List.getElem?_eq_getElem hi]; exact e⟩
theorem gN_get {xs : List Nat} {i : Nat} (h : i < xs.length) : xs[i]? = some (gN xs i) := by
  unfold gN
  rw [List.getD_eq_getElem?_getD, List.getElem?_eq_getElem h]
  rfl
theorem gN_app {xs ys : List Nat} {i : Nat} (h : i < xs.length) : gN (xs ++ ys) i = gN xs i := by
  unfold gN
  rw [List.getD_eq_getElem?_getD, List.getD_eq_getElem?_getD, List.getElem?_append_left h]
theorem gN_end (xs : List Nat) (l : Nat) : gN (xs ++ [l]) xs.length = l := by
  unfold gN
  rw [List.getD_eq_getElem?_getD, List.getElem?_append_right (Nat.le_refl _)]
  simp
/-- distinct names: the same one stands at one place -/
theorem gN_inj {c : List Nat} (nd : (c.map (· / 2)).Nodup) {i j : Nat} (hi : i < c.length) (hj : j < c.length) (h : gN c i / 2 = gN c j / 2) : i = j := by
  have e1 : (c.map (· / 2))[i]'(by rw [List.length_map]; exact hi) = gN c i / 2 := by
    rw [List.getElem_map]
    unfold gN
    rw [List.getD_eq_getElem?_getD, List.getElem?_eq_getElem hi]
    rfl
  have e2 : (c.map (· / 2))[j]'(by rw [List.length_map]; exact hj) = gN c j / 2 := by
    rw [List.getElem_map]
    unfold gN
    rw [List.getD_eq_getElem?_getD, List.getElem?_eq_getElem hj]
    rfl
  have pw := List.pairwise_iff_getElem.mp nd
  rcases Nat.lt_trichotomy i j with q | q | q
  · exact absurd (e1.trans (h.trans e2.symm)) (pw i j _ _ q)
  · exact q
  · exact absurd (e2.trans (h.symm.trans e1.symm)) (pw j i _ _ q)
def swapL (c : List Nat) (i j : Nat) : List Nat := (c.set i (gN c j)).set j (gN c i)
theorem swap_len (c : List Nat) (i j : Nat) : (swapL c i j).length = c.length := by
  unfold swapL
  rw [List.length_set, List.length_set]
theorem swap_get {c : List Nat} {i j : Nat} (hi : i < c.length) (hj : j < c.length) (k : Nat) : gN (swapL c i j) k = if k = j then gN c i else if k = i then gN c j else gN c k := by
  unfold swapL
  rw [gN_set, gN_set, List.length_set]
  by_cases h1 : k = j
  · rw [if_pos ⟨h1, hj⟩, if_pos h1]
  · rw [if_neg (fun z => h1 z.1), if_neg h1]
    by_cases h2 : k = i
    · rw [if_pos ⟨h2, hi⟩, if_pos h2]
    · rw [if_neg (fun z => h2 z.1), if_neg h2]
theorem gN_elem {xs : List Nat} {i : Nat} (h : i < xs.length) : xs[i] = gN xs i := by
  unfold gN
  rw [List.getD_eq_getElem?_getD, List.getElem?_eq_getElem h]
  rfl
theorem swap_perm {c : List Nat} {i j : Nat} (hi : i < c.length) (hj : j < c.length) (hij : i ≠ j) : (swapL c i j).Perm c := by
  rw [List.perm_iff_count]
  intro a
  unfold swapL
  rw [List.count_set (by rw [List.length_set]; exact hj), List.count_set hi, List.getElem_set_ne hij, gN_elem hi, gN_elem hj]
  have h1 : gN c i = a → 1 ≤ c.count a := fun e => List.one_le_count_iff.mpr (e ▸ gN_mem hi)
  by_cases e1 : gN c i = a <;> by_cases e2 : gN c j = a <;> simp [e1, e2]
  all_goals
    have := h1 e1
    omega
def pushW (w : List (List Nat)) (l i : Nat) : List (List Nat) := w.set l (gL w l ++ [i])
theorem push_len (w : List (List Nat)) (l i : Nat) : (pushW w l i).length = w.length := by unfold pushW; rw [List.length_set]
theorem push_get {w : List (List Nat)} {l : Nat} (h : l < w.length) (i m : Nat) : gL (pushW w l i) m = if m = l then gL w l ++ [i] else gL w m := by
  unfold pushW
  rw [gL_set]
  by_cases e : m = l
  · rw [if_pos ⟨e, h⟩, if_pos e]
  · rw [if_neg (fun z => e z.1), if_neg e]
/-! ### what the methods do -/
def watchF (st : TS) (i : Nat) : TS := { st with wat := pushW (pushW st.wat (gN (gL st.held i) 0) i) (gN (gL st.held i) 1) i }
def setSoF (st : TS) (l : Nat) (r : Option Nat) : TS :=
  { st with sides := (st.sides.set l 1).set (flip l) 2, layers := st.layers.set (l / 2) st.starts.length, reasons := st.reasons.set (l / 2) r, steps := st.steps ++ [l] }
def scanF (sides c : List Nat) (k : Nat) : Nat := if k < c.length ∧ gN sides (gN c k) = 2 then scanF sides c (k + 1) else k
termination_by c.length - k
theorem scan_spec (sides c : List Nat) : ∀ (m k : Nat), c.length - k = m → k ≤ scanF sides c k ∧ (scanF sides c k < c.length → gN sides (gN c (scanF sides c k)) ≠ 2) ∧ ∀ j, k ≤ j → j < scanF sides c k → j < c.length ∧ gN sides (gN c j) = 2
  | 0, k, h => by
    rw [scanF]
    rw [if_neg (fun z => by omega)]
    exact ⟨Nat.le_refl _, fun z => by omega, fun j h1 h2 => by omega⟩
  | m + 1, k, h => by
    rw [scanF]
    by_cases c1 : k < c.length ∧ gN sides (gN c k) = 2
    · rw [if_pos c1]
      obtain ⟨h1, h2, h3⟩ := scan_spec sides c m (k + 1) (by omega)
      refine ⟨by omega, h2, fun j g1 g2 => ?_⟩
      by_cases e : j = k
      · rw [e]; exact c1
      · exact h3 j (by omega) g2
    · rw [if_neg c1]
      exact ⟨Nat.le_refl _, fun h1 h2 => c1 ⟨h1, h2⟩, fun j h1 h2 => by omega⟩
def movedF (st : TS) (i : Nat) : Option TS :=
  let c := gL st.held i
  let k := scanF st.sides c 2
  if k < c.length then some { st with held := st.held.set i (swapL c 1 k), wat := pushW st.wat (gN c k) i } else none
def turnF (st : TS) (d i : Nat) : TS := if gN (gL st.held i) 0 = d then { st with held := st.held.set i (swapL (gL st.held i) 0 1) } else st
def lookStep (d i : Nat) (rest : List Nat) (st : TS) : TS × Bool :=
  let s1 := turnF st d i
  let o := gN (gL s1.held i) 0
  match (if gN s1.sides o = 1 then none else movedF s1 i) with
  | some s2 => (s2, false)
  | none =>
    let s2 := { s1 with wat := pushW s1.wat d i }
    if gN s1.sides o = 2 then ({ s2 with wat := s2.wat.set d (gL s2.wat d ++ rest), clash := some i }, true)
    else if gN s1.sides o = 0 then (setSoF s2 o (some i), false)
    else (s2, false)
def lookLoop (d : Nat) : List Nat → TS → TS
  | [], st => st
  | i :: rest, st => if (lookStep d i rest st).2 = true then (lookStep d i rest st).1 else lookLoop d rest (lookStep d i rest st).1
def lookF (st : TS) (d : Nat) : TS := lookLoop d (gL st.wat d) { st with wat := st.wat.set d [] }
def followF : Nat → TS → TS
  | 0, st => st
  | k + 1, st => if st.clash = none ∧ st.fol < st.steps.length then followF k { lookF st (flip (gN st.steps st.fol)) with fol := st.fol + 1 } else st
def nothingStep (st : TS) (i : Nat) : TS :=
  if gL st.held i = [] ∨ gN st.sides (gN (gL st.held i) 0) = 2 then { st with clash := some i }
  else if gN st.sides (gN (gL st.held i) 0) = 0 then setSoF st (gN (gL st.held i) 0) (some i) else st
def nothingF (n : Nat) (st : TS) : TS := followF (n + 1) (st.short.foldl nothingStep st)
def blankF (n : Nat) (F : List (List Nat)) : TS where
  sides := List.replicate (2 * n) 0
  held := F
  wat := List.replicate (2 * n) []
  short := (List.range F.length).filter fun i => (gL F i).length < 2
  steps := []
  fol := 0
  chosen := []
  starts := []
  layers := List.replicate n 0
  reasons := List.replicate n none
  clash := none
def initF (n : Nat) (F : List (List Nat)) : TS := nothingF n (((List.range F.length).filter fun i => 1 < (gL F i).length).foldl watchF (blankF n F))
def putT (n : Nat) (st : TS) (l : Nat) : TS :=
  let s1 := { st with chosen := st.chosen ++ [l], starts := st.starts ++ [st.steps.length] }
  if gN st.sides l = 2 then { s1 with clash := gO st.reasons (l / 2) }
  else if gN st.sides l = 0 then followF (n + 1) (setSoF s1 l none) else s1
def leadT (n : Nat) (given : List Nat) (st : TS) : TS := given.foldl (fun s l => if s.clash = none then putT n s l else s) st
/-! ### what stays -/
structure TGood (F : List (List Nat)) (n : Nat) : Prop where
  lt : ∀ i, i < F.length → ∀ l ∈ gL F i, l < 2 * n
  nd : ∀ i, i < F.length → ((gL F i).map (· / 2)).Nodup
structure TInv (F : List (List Nat)) (n : Nat) (st : TS) : Prop where
  ls : st.sides.length = 2 * n
  lw : st.wat.length = 2 * n
  ll : st.layers.length = n
  lr : st.reasons.length = n
  lh : st.held.length = F.length
  pm : ∀ i, i < F.length → (gL st.held i).Perm (gL F i)
  slt : ∀ l ∈ st.steps, l < 2 * n
  snd : (st.steps.map (· / 2)).Nodup
  s1 : ∀ l, l < 2 * n → (gN st.sides l = 1 ↔ l ∈ st.steps)
  s2 : ∀ l, l < 2 * n → (gN st.sides l = 2 ↔ flip l ∈ st.steps)
  s3 : ∀ l, gN st.sides l ≤ 2
  fl : st.fol ≤ st.steps.length
  w1 : ∀ l, l < 2 * n → ∀ i ∈ gL st.wat l, i < F.length ∧ 2 ≤ (gL st.held i).length ∧ (gN (gL st.held i) 0 = l ∨ gN (gL st.held i) 1 = l)
  wn : ∀ l, (gL st.wat l).Nodup
  rs : ∀ k, k < st.steps.length → (gO st.reasons (gN st.steps k / 2) = none → gN st.steps k ∈ st.chosen) ∧ ∀ i, gO st.reasons (gN st.steps k / 2) = some i → i < F.length ∧ gN st.steps k ∈ gL F i ∧ ∀ m ∈ gL F i, m ≠ gN st.steps k → flip m ∈ st.steps.take k
  cl : ∀ i, st.clash = some i → i < F.length ∧ ∀ m ∈ gL F i, flip m ∈ st.steps ∨ flip m ∈ st.chosen
/-- each clause is watched; some are out, to be looked at -/
def TWat (F : List (List Nat)) (st : TS) (d : Nat) (rest : List Nat) : Prop :=
  ∀ i, i < F.length → 2 ≤ (gL st.held i).length → (i ∈ gL st.wat (gN (gL st.held i) 0) ∨ gN (gL st.held i) 0 = d ∧ i ∈ rest) ∧ (i ∈ gL st.wat (gN (gL st.held i) 1) ∨ gN (gL st.held i) 1 = d ∧ i ∈ rest)
/-- what was looked at -/
def TSeen (F : List (List Nat)) (st : TS) (k : Nat) : Prop :=
  ∀ i, i < F.length → 2 ≤ (gL st.held i).length → (flip (gN (gL st.held i) 0) ∈ st.steps.take k → gN (gL st.held i) 1 ∈ st.steps) ∧ (flip (gN (gL st.held i) 1) ∈ st.steps.take k → gN (gL st.held i) 0 ∈ st.steps)
section
variable {F : List (List Nat)} {n : Nat} {st : TS}
theorem TInv.hlt (v : TInv F n st) (g : TGood F n) {i : Nat} (hi : i < F.length) {l : Nat} (h : l ∈ gL st.held i) : l < 2 * n := g.lt i hi l ((v.pm i hi).mem_iff.mp h)
theorem TInv.hnd (v : TInv F n st) (g : TGood F n) {i : Nat} (hi : i < F.length) : ((gL st.held i).map (· / 2)).Nodup := ((v.pm i hi).map _).nodup_iff.mpr (g.nd i hi)
theorem TInv.few (v : TInv F n st) : st.steps.length ≤ n := by
  have h : ∀ (m : Nat) (xs : List Nat), xs.Nodup → (∀ x ∈ xs, x < m) → xs.length ≤ m := by
    intro m
    induction m with
    | zero => intro xs _ h; cases xs with
      | nil => exact Nat.le_refl _
      | cons x r => exact absurd (h x List.mem_cons_self) (Nat.not_lt_zero _)
    | succ m ih =>
      intro xs nd h
      have z := ih (xs.filter (· ≠ m)) (nd.filter _) fun x hx => by
        have h1 := List.mem_filter.mp hx
        have h2 := h x h1.1
        have h3 : x ≠ m := by simpa using h1.2
        omega
      by_cases hm : m ∈ xs
      · have e : (xs.filter (· ≠ m)) = xs.erase m := by rw [nd.erase_eq_filter]; congr 1; funext x; by_cases q : x = m <;> simp [q]
        rw [e, List.length_erase_of_mem hm] at z
        omega
      · have e : xs.filter (· ≠ m) = xs := List.filter_eq_self.mpr fun x hx => by
          have : x ≠ m := fun q => hm (q ▸ hx)
          simpa using this
        rw [e] at z
        omega
  have z := h n (st.steps.map (· / 2)) v.snd fun x hx => by
    obtain ⟨l, hl, rfl⟩ := List.mem_map.mp hx
    have := v.slt l hl
    omega
  rwa [List.length_map] at z
/-- a literal is not with its opposite -/
theorem TInv.one (v : TInv F n st) {l : Nat} (h : l ∈ st.steps) : flip l ∉ st.steps := fun h2 => by
  obtain ⟨i, hi, e1⟩ := mem_gN h
  obtain ⟨j, hj, e2⟩ := mem_gN h2
  have := gN_inj v.snd hi hj (by rw [e1, e2, flip_half])
  subst this
  rw [e1] at e2
  exact flip_ne l e2.symm
theorem TInv.open_ (v : TInv F n st) {l : Nat} (hl : l < 2 * n) (h : gN st.sides l = 0) : l ∉ st.steps ∧ flip l ∉ st.steps := by
  refine ⟨fun q => ?_, fun q => ?_⟩
  · rw [(v.s1 l hl).mpr q] at h; cases h
  · rw [(v.s2 l hl).mpr q] at h; cases h
end
end K6
namespace K6
section
variable {F : List (List Nat)} {n : Nat} {st : TS}
theorem sides_so (xs : List Nat) {l m n : Nat} (hx : xs.length = 2 * n) (hl : l < 2 * n) : gN ((xs.set l 1).set (flip l) 2) m = if m = flip l then 2 else if m = l then 1 else gN xs m := by
  rw [gN_set, gN_set, List.length_set, hx]
  by_cases h1 : m = flip l
  · rw [if_pos ⟨h1, flip_lt hl⟩, if_pos h1]
  · rw [if_neg (fun z => h1 z.1), if_neg h1]
    by_cases h2 : m = l
    · rw [if_pos ⟨h2, hl⟩, if_pos h2]
    · rw [if_neg (fun z => h2 z.1), if_neg h2]
theorem take_app {xs ys : List Nat} {k : Nat} (h : k ≤ xs.length) : (xs ++ ys).take k = xs.take k := List.take_append_of_le_length h
/-- a literal comes to be so -/
theorem TInv.so (v : TInv F n st) {l : Nat} {r : Option Nat} (hl : l < 2 * n) (h0 : gN st.sides l = 0) (h1 : r = none → l ∈ st.chosen) (h2 : ∀ i, r = some i → i < F.length ∧ l ∈ gL F i ∧ ∀ m ∈ gL F i, m ≠ l → flip m ∈ st.steps) : TInv F n (setSoF st l r) := by
  obtain ⟨n1, n2⟩ := v.open_ hl h0
  have hs : (setSoF st l r).steps = st.steps ++ [l] := rfl
  have mem : ∀ m, m ∈ (setSoF st l r).steps ↔ m ∈ st.steps ∨ m = l := fun m => by rw [hs, List.mem_append, List.mem_singleton]
  have hsd : ∀ m, gN (setSoF st l r).sides m = if m = flip l then 2 else if m = l then 1 else gN st.sides m := fun m => sides_so st.sides v.ls hl
  have nn : ∀ m ∈ st.steps, m / 2 ≠ l / 2 := fun m hm e => by
    rcases half_eq e with e | e
    · exact n1 (e ▸ hm)
    · exact n2 (e ▸ hm)
  refine ⟨?_, v.lw, ?_, ?_, v.lh, v.pm, ?_, ?_, ?_, ?_, ?_, ?_, v.w1, v.wn, ?_, ?_⟩
  · show ((st.sides.set l 1).set (flip l) 2).length = _
    rw [List.length_set, List.length_set, v.ls]
  · show (st.layers.set (l / 2) st.starts.length).length = _
    rw [List.length_set, v.ll]
  · show (st.reasons.set (l / 2) r).length = _
    rw [List.length_set, v.lr]
  · intro m hm
    rcases (mem m).mp hm with h | h
    · exact v.slt m h
    · rw [h]; exact hl
  · rw [hs, List.map_append]
    refine List.nodup_append.mpr ⟨v.snd, by simp, fun a ha b hb e => ?_⟩
    obtain ⟨m, hm, rfl⟩ := List.mem_map.mp ha
    have hb : b = l / 2 := by simpa using hb
    exact nn m hm (e.trans hb)
  · intro m hm
    rw [hsd, mem]
    by_cases e1 : m = flip l
    · rw [if_pos e1]
      refine ⟨fun z => by omega, fun z => ?_⟩
      rcases z with z | z
      · exact absurd (e1 ▸ z) n2
      · rw [e1] at z; exact absurd z (flip_ne l)
    · rw [if_neg e1]
      by_cases e2 : m = l
      · rw [if_pos e2]
        exact ⟨fun _ => .inr e2, fun _ => rfl⟩
      · rw [if_neg e2, v.s1 m hm]
        exact ⟨.inl, fun z => z.elim id fun q => absurd q e2⟩
  · intro m hm
    rw [hsd, mem]
    by_cases e1 : m = flip l
    · rw [if_pos e1]
      exact ⟨fun _ => .inr (by rw [e1, flip_flip]), fun _ => rfl⟩
    · have e3 : flip m ≠ l := fun q => e1 (by rw [← q, flip_flip])
      rw [if_neg e1]
      by_cases e2 : m = l
      · rw [if_pos e2]
        refine ⟨fun z => by omega, fun z => z.elim (fun q => absurd (e2 ▸ q) n2) fun q => absurd q e3⟩
      · rw [if_neg e2, v.s2 m hm]
        exact ⟨.inl, fun z => z.elim id fun q => absurd q e3⟩
  · intro m
    rw [hsd]
    split
    · exact Nat.le_refl _
    · split
      · omega
      · exact v.s3 m
  · show st.fol ≤ _
    rw [hs, List.length_append]
    have := v.fl
    omega
  · intro k hk
    rw [hs, List.length_append] at hk
    have hk : k < st.steps.length + 1 := hk
    have hr : ∀ j, gO (setSoF st l r).reasons j = if j = l / 2 then r else gO st.reasons j := fun j => by
      show gO (st.reasons.set (l / 2) r) j = _
      rw [gO_set]
      by_cases e : j = l / 2
      · rw [if_pos ⟨e, by rw [v.lr]; omega⟩, if_pos e]
      · rw [if_neg (fun z => e z.1), if_neg e]
    by_cases e : k = st.steps.length
    · subst e
      rw [hs, gN_end, hr, if_pos rfl]
      refine ⟨h1, fun i hi => ?_⟩
      obtain ⟨a, b, c⟩ := h2 i hi
      refine ⟨a, b, fun m hm hne => ?_⟩
      rw [take_app (Nat.le_refl _), List.take_length]
      exact c m hm hne
    · have hk' : k < st.steps.length := by omega
      have hne : gN st.steps k / 2 ≠ l / 2 := nn _ (gN_mem hk')
      rw [hs, gN_app hk', hr, if_neg hne]
      obtain ⟨a, b⟩ := v.rs k hk'
      refine ⟨a, fun i hi => ?_⟩
      rw [take_app (Nat.le_of_lt hk')]
      exact b i hi
  · intro i hi
    obtain ⟨a, b⟩ := v.cl i hi
    exact ⟨a, fun m hm => (b m hm).imp (fun z => (mem _).mpr (.inl z)) id⟩
/-- a clause's two first literals are exchanged -/
theorem TInv.swap (v : TInv F n st) {i : Nat} (hi : i < F.length) (h2 : 2 ≤ (gL st.held i).length) : TInv F n { st with held := st.held.set i (swapL (gL st.held i) 0 1) } := by
  have hh : ∀ j, gL (st.held.set i (swapL (gL st.held i) 0 1)) j = if j = i then swapL (gL st.held i) 0 1 else gL st.held j := fun j => by
    rw [gL_set]
    by_cases e : j = i
    · rw [if_pos ⟨e, by rw [v.lh]; exact hi⟩, if_pos e]
    · rw [if_neg (fun z => e z.1), if_neg e]
  refine ⟨v.ls, v.lw, v.ll, v.lr, ?_, ?_, v.slt, v.snd, v.s1, v.s2, v.s3, v.fl, ?_, v.wn, v.rs, v.cl⟩
  · show (st.held.set i _).length = _
    rw [List.length_set, v.lh]
  · intro j hj
    show (gL (st.held.set i _) j).Perm _
    rw [hh]
    by_cases e : j = i
    · rw [if_pos e, e]
      exact (swap_perm (by omega) (by omega) (by decide)).trans (v.pm i hi)
    · rw [if_neg e]
      exact v.pm j hj
  · intro l hl j hj
    obtain ⟨a, b, c⟩ := v.w1 l hl j hj
    show _ ∧ 2 ≤ (gL (st.held.set i _) j).length ∧ (gN (gL (st.held.set i _) j) 0 = l ∨ gN (gL (st.held.set i _) j) 1 = l)
    rw [hh]
    by_cases e : j = i
    · rw [if_pos e, swap_len, swap_get (by omega) (by omega), swap_get (by omega) (by omega), if_neg (by decide), if_pos rfl, if_pos rfl]
      subst e
      exact ⟨a, b, c.symm⟩
    · rw [if_neg e]
      exact ⟨a, b, c⟩
/-- a clause is put among those that watch -/
theorem TInv.push (v : TInv F n st) {i d : Nat} (hd : d < 2 * n) (hi : i < F.length) (h2 : 2 ≤ (gL st.held i).length) (hw : gN (gL st.held i) 0 = d ∨ gN (gL st.held i) 1 = d) (hn : i ∉ gL st.wat d) : TInv F n { st with wat := pushW st.wat d i } := by
  have hp : ∀ m, gL (pushW st.wat d i) m = if m = d then gL st.wat d ++ [i] else gL st.wat m := fun m => push_get (by rw [v.lw]; exact hd) i m
  refine ⟨v.ls, ?_, v.ll, v.lr, v.lh, v.pm, v.slt, v.snd, v.s1, v.s2, v.s3, v.fl, ?_, ?_, v.rs, v.cl⟩
  · show (pushW st.wat d i).length = _
    rw [push_len, v.lw]
  · intro l hl j hj
    have hj : j ∈ gL (pushW st.wat d i) l := hj
    rw [hp] at hj
    by_cases e : l = d
    · rw [if_pos e] at hj
      rcases List.mem_append.mp hj with hj | hj
      · exact v.w1 l hl j (e ▸ hj)
      · rw [List.mem_singleton.mp hj, e]
        exact ⟨hi, h2, hw⟩
    · rw [if_neg e] at hj
      exact v.w1 l hl j hj
  · intro l
    show (gL (pushW st.wat d i) l).Nodup
    rw [hp]
    split
    · refine List.nodup_append.mpr ⟨v.wn d, by simp, fun a ha b hb e => ?_⟩
      rw [List.mem_singleton.mp hb] at e
      exact hn (e ▸ ha)
    · exact v.wn l
/-- a clause watches another literal instead of its second one -/
theorem TInv.move (v : TInv F n st) (g : TGood F n) {i k : Nat} (hi : i < F.length) (h2 : 2 ≤ k) (hk : k < (gL st.held i).length) (hn : i ∉ gL st.wat (gN (gL st.held i) 1)) :
    TInv F n { st with held := st.held.set i (swapL (gL st.held i) 1 k), wat := pushW st.wat (gN (gL st.held i) k) i } := by
  have nd := v.hnd g hi
  have hkl : gN (gL st.held i) k < 2 * n := v.hlt g hi (gN_mem hk)
  have hh : ∀ j, gL (st.held.set i (swapL (gL st.held i) 1 k)) j = if j = i then swapL (gL st.held i) 1 k else gL st.held j := fun j => by
    rw [gL_set]
    by_cases e : j = i
    · rw [if_pos ⟨e, by rw [v.lh]; exact hi⟩, if_pos e]
    · rw [if_neg (fun z => e z.1), if_neg e]
  have hp : ∀ m, gL (pushW st.wat (gN (gL st.held i) k) i) m = if m = gN (gL st.held i) k then gL st.wat (gN (gL st.held i) k) ++ [i] else gL st.wat m := fun m => push_get (by rw [v.lw]; exact hkl) i m
  have new : i ∉ gL st.wat (gN (gL st.held i) k) := fun h => by
    rcases (v.w1 _ hkl i h).2.2 with e | e
    · have := gN_inj nd (i := 0) (j := k) (by omega) hk (by rw [e])
      omega
    · have := gN_inj nd (i := 1) (j := k) (by omega) hk (by rw [e])
      omega
  refine ⟨v.ls, ?_, v.ll, v.lr, ?_, ?_, v.slt, v.snd, v.s1, v.s2, v.s3, v.fl, ?_, ?_, v.rs, v.cl⟩
  · show (pushW st.wat _ i).length = _
    rw [push_len, v.lw]
  · show (st.held.set i _).length = _
    rw [List.length_set, v.lh]
  · intro j hj
    show (gL (st.held.set i _) j).Perm _
    rw [hh]
    by_cases e : j = i
    · rw [if_pos e, e]
      exact (swap_perm (by omega) hk (by omega)).trans (v.pm i hi)
    · rw [if_neg e]
      exact v.pm j hj
  · intro l hl j hj
    have hj : j ∈ gL (pushW st.wat (gN (gL st.held i) k) i) l := hj
    show _ ∧ 2 ≤ (gL (st.held.set i _) j).length ∧ (gN (gL (st.held.set i _) j) 0 = l ∨ gN (gL (st.held.set i _) j) 1 = l)
    rw [hh]
    by_cases e : j = i
    · subst e
      rw [if_pos rfl, swap_len, swap_get (by omega) hk, swap_get (by omega) hk, if_neg (by omega), if_neg (by decide), if_neg (by omega), if_pos rfl]
      refine ⟨hi, by omega, ?_⟩
      rw [hp] at hj
      by_cases q : l = gN (gL st.held j) k
      · exact .inr q.symm
      · rw [if_neg q] at hj
        rcases (v.w1 l hl j hj).2.2 with z | z
        · exact .inl z
        · rw [← z] at hj; exact absurd hj hn
    · rw [if_neg e]
      rw [hp] at hj
      by_cases q : l = gN (gL st.held i) k
      · rw [if_pos q] at hj
        rcases List.mem_append.mp hj with hj | hj
        · exact v.w1 l hl j (q ▸ hj)
        · exact absurd (List.mem_singleton.mp hj) e
      · rw [if_neg q] at hj
        exact v.w1 l hl j hj
  · intro l
    show (gL (pushW st.wat (gN (gL st.held i) k) i) l).Nodup
    rw [hp]
    split
    · refine List.nodup_append.mpr ⟨v.wn _, by simp, fun a ha b hb e => ?_⟩
      rw [List.mem_singleton.mp hb] at e
      exact new (e ▸ ha)
    · exact v.wn l
end
end K6
namespace K6
/-! ### looking at those that watch -/
/-- what does not change while one follows -/
structure TKeep (st st' : TS) : Prop where
  ch : st'.chosen = st.chosen
  sa : st'.starts = st.starts
  sh : st'.short = st.short
  sp : ∃ more, st'.steps = st.steps ++ more
theorem TKeep.refl (st : TS) : TKeep st st := ⟨rfl, rfl, rfl, [], (List.append_nil _).symm⟩
theorem TKeep.trans {a b c : TS} (x : TKeep a b) (y : TKeep b c) : TKeep a c := by
  obtain ⟨m1, e1⟩ := x.sp
  obtain ⟨m2, e2⟩ := y.sp
  exact ⟨y.ch.trans x.ch, y.sa.trans x.sa, y.sh.trans x.sh, m1 ++ m2, by rw [e2, e1, List.append_assoc]⟩
theorem TKeep.mem {a b : TS} (x : TKeep a b) {l : Nat} (h : l ∈ a.steps) : l ∈ b.steps := by
  obtain ⟨m, e⟩ := x.sp
  rw [e]
  exact List.mem_append_left _ h
theorem TKeep.take {a b : TS} (x : TKeep a b) {k : Nat} (h : k ≤ a.steps.length) : b.steps.take k = a.steps.take k := by
  obtain ⟨m, e⟩ := x.sp
  rw [e, take_app h]
/-- a clause that is to be looked at -/
structure TDue (F : List (List Nat)) (st : TS) (d : Nat) (rest : List Nat) : Prop where
  nd : rest.Nodup
  ok : ∀ i ∈ rest, i < F.length ∧ 2 ≤ (gL st.held i).length ∧ (gN (gL st.held i) 0 = d ∨ gN (gL st.held i) 1 = d) ∧ i ∉ gL st.wat d
/-- the clauses at d were looked at -/
def TDone (st : TS) (d : Nat) : Prop := ∀ i ∈ gL st.wat d, (gN (gL st.held i) 0 = d → gN (gL st.held i) 1 ∈ st.steps) ∧ (gN (gL st.held i) 1 = d → gN (gL st.held i) 0 ∈ st.steps)
section
variable {F : List (List Nat)} {n : Nat}
theorem hset {st : TS} {i : Nat} {c : List Nat} (lh : st.held.length = F.length) (hi : i < F.length) (j : Nat) : gL (st.held.set i c) j = if j = i then c else gL st.held j := by
  rw [gL_set]
  by_cases e : j = i
  · rw [if_pos ⟨e, by rw [lh]; exact hi⟩, if_pos e]
  · rw [if_neg (fun z => e z.1), if_neg e]
/-- the head of what is to be looked at is turned -/
theorem turn_spec (g : TGood F n) {st : TS} {d i : Nat} {rest : List Nat} {k : Nat} (v : TInv F n st) (W : TWat F st d (i :: rest)) (S : TSeen F st k) (U : TDue F st d (i :: rest)) (O : TDone st d) :
    let s1 := turnF st d i
    TInv F n s1 ∧ TWat F s1 d (i :: rest) ∧ TSeen F s1 k ∧ TDue F s1 d (i :: rest) ∧ TDone s1 d ∧ TKeep st s1 ∧ s1.sides = st.sides ∧ s1.wat = st.wat ∧ s1.clash = st.clash ∧ s1.fol = st.fol ∧ gN (gL s1.held i) 1 = d ∧ gN (gL s1.held i) 0 ≠ d := by
  obtain ⟨hi, h2, hw, hn⟩ := U.ok i List.mem_cons_self
  have nd := v.hnd g hi
  have ne : gN (gL st.held i) 0 ≠ gN (gL st.held i) 1 := fun e => by
    have := gN_inj nd (i := 0) (j := 1) (by omega) (by omega) (by rw [e])
    omega
  intro s1
  by_cases c : gN (gL st.held i) 0 = d
  · have e1 : s1 = { st with held := st.held.set i (swapL (gL st.held i) 0 1) } := by show turnF st d i = _; unfold turnF; rw [if_pos c]
    have hh : ∀ j, gL s1.held j = if j = i then swapL (gL st.held i) 0 1 else gL st.held j := fun j => by rw [e1]; exact hset v.lh hi j
    have h0 : gN (gL s1.held i) 0 = gN (gL st.held i) 1 := by rw [hh, if_pos rfl, swap_get (by omega) (by omega), if_neg (by decide), if_pos rfl]
    have h1 : gN (gL s1.held i) 1 = gN (gL st.held i) 0 := by rw [hh, if_pos rfl, swap_get (by omega) (by omega), if_pos rfl]
    have hl : ∀ j, (gL s1.held j).length = (gL st.held j).length := fun j => by
      rw [hh]
      by_cases e : j = i
      · rw [if_pos e, swap_len, e]
      · rw [if_neg e]
    have hj : ∀ j, j ≠ i → gL s1.held j = gL st.held j := fun j e => by rw [hh, if_neg e]
    have hwt : s1.wat = st.wat := by rw [e1]
    have hst : s1.steps = st.steps := by rw [e1]
    refine ⟨by rw [e1]; exact v.swap hi h2, fun j hj1 hj2 => ?_, fun j hj1 hj2 => ?_, ⟨U.nd, fun j hj1 => ?_⟩, fun j hj1 => ?_, ⟨by rw [e1], by rw [e1], by rw [e1], [], by rw [hst, List.append_nil]⟩, by rw [e1], hwt, by rw [e1], by rw [e1], h1.trans c, by rw [h0]; exact fun z => ne (c.trans z.symm)⟩
    · rw [hl] at hj2
      obtain ⟨a, b⟩ := W j hj1 hj2
      by_cases e : j = i
      · subst e
        rw [h0, h1, hwt]
        exact ⟨b, a⟩
      · rw [hj j e, hwt]
        exact ⟨a, b⟩
    · rw [hl] at hj2
      obtain ⟨a, b⟩ := S j hj1 hj2
      by_cases e : j = i
      · subst e
        rw [h0, h1, hst]
        exact ⟨b, a⟩
      · rw [hj j e, hst]
        exact ⟨a, b⟩
    · obtain ⟨q1, q2, q3, q4⟩ := U.ok j hj1
      rw [hl, hwt]
      refine ⟨q1, q2, ?_, q4⟩
      by_cases e : j = i
      · subst e
        rw [h0, h1]
        exact q3.symm
      · rw [hj j e]
        exact q3
    · rw [hwt] at hj1
      have e : j ≠ i := fun e => hn (e ▸ hj1)
      rw [hj j e, hst]
      exact O j hj1
  · have e1 : s1 = st := by show turnF st d i = _; unfold turnF; rw [if_neg c]
    rw [e1]
    exact ⟨v, W, S, U, O, TKeep.refl st, rfl, rfl, rfl, rfl, hw.elim (fun z => absurd z c) id, c⟩
theorem nodup_tail {i : Nat} {rest : List Nat} (h : (i :: rest).Nodup) : i ∉ rest ∧ rest.Nodup := List.nodup_cons.mp h
/-- what stands while one looks -/
structure TLook (F : List (List Nat)) (n d k : Nat) (rest : List Nat) (st : TS) : Prop where
  v : TInv F n st
  c : st.clash = none
  f : flip d ∈ st.steps
  kk : k ≤ st.steps.length
  w : TWat F st d rest
  s : TSeen F st k
  u : TDue F st d rest
  o : TDone st d
theorem look_step (g : TGood F n) (d : Nat) (hd : d < 2 * n) (k : Nat) (i : Nat) (rest : List Nat) (st : TS) (L : TLook F n d k (i :: rest) st) :
    TKeep st (lookStep d i rest st).1 ∧ (lookStep d i rest st).1.fol = st.fol ∧
    ((lookStep d i rest st).2 = false → TLook F n d k rest (lookStep d i rest st).1) ∧
    ((lookStep d i rest st).2 = true → TInv F n (lookStep d i rest st).1 ∧ TWat F (lookStep d i rest st).1 d [] ∧ (lookStep d i rest st).1.clash ≠ none) := by
    obtain ⟨v, hc, hf, hk, W, S, U, O⟩ := L
    obtain ⟨v1, W1, S1, U1, O1, K1, ea, eb, ec, ef, at1, at0⟩ := turn_spec g v W S U O
    have st1 : (turnF st d i).steps = st.steps := by unfold turnF; split <;> rfl
    obtain ⟨hi, h2, hw, hn⟩ := U1.ok i List.mem_cons_self
    obtain ⟨ni, ndr⟩ := nodup_tail U1.nd
    generalize hs' : lookStep d i rest st = s'
    rw [lookStep] at hs'
    generalize hs1 : turnF st d i = s1 at *
    have hc1 : s1.clash = none := ec.trans hc
    have hf1 : flip d ∈ s1.steps := by rw [st1]; exact hf
    have hk1 : k ≤ s1.steps.length := by rw [st1]; exact hk
    have dl : gN (gL s1.held i) 0 < 2 * n := v1.hlt g hi (gN_mem (by omega))
    have nd := v1.hnd g hi
    have sd2 : gN s1.sides d = 2 := (v1.s2 d hd).mpr hf1
    have dn : d ∉ s1.steps := fun h => v1.one h hf1
    -- what stands when the clause is put back
    have back : TInv F n { s1 with wat := pushW s1.wat d i } ∧ TWat F { s1 with wat := pushW s1.wat d i } d rest ∧ TDue F { s1 with wat := pushW s1.wat d i } d rest := by
      have hp : ∀ m, gL (pushW s1.wat d i) m = if m = d then gL s1.wat d ++ [i] else gL s1.wat m := fun m => push_get (by rw [v1.lw]; exact hd) i m
      refine ⟨v1.push hd hi h2 (.inr at1) hn, fun j hj1 hj2 => ?_, ⟨ndr, fun j hj => ?_⟩⟩
      · have one : ∀ l, (j ∈ gL s1.wat l ∨ l = d ∧ j ∈ i :: rest) → (j ∈ gL (pushW s1.wat d i) l ∨ l = d ∧ j ∈ rest) := fun l h => by
          rcases h with h | ⟨h, h'⟩
          · refine .inl ?_
            rw [hp]
            split
            · rename_i q
              exact List.mem_append_left _ (q ▸ h)
            · exact h
          · rcases List.mem_cons.mp h' with h' | h'
            · refine .inl ?_
              rw [hp, if_pos h, h']
              exact List.mem_append_right _ List.mem_cons_self
            · exact .inr ⟨h, h'⟩
        obtain ⟨a, b⟩ := W1 j hj1 hj2
        exact ⟨one _ a, one _ b⟩
      · obtain ⟨q1, q2, q3, q4⟩ := U1.ok j (List.mem_cons_of_mem _ hj)
        refine ⟨q1, q2, q3, ?_⟩
        show j ∉ gL (pushW s1.wat d i) d
        rw [hp, if_pos rfl]
        intro h
        rcases List.mem_append.mp h with h | h
        · exact q4 h
        · exact ni (List.mem_singleton.mp h ▸ hj)
    -- and the clause's other literal is so
    have done2 : ∀ s2 : TS, s2.held = s1.held → s2.wat = pushW s1.wat d i → (∀ l ∈ s1.steps, l ∈ s2.steps) → gN (gL s1.held i) 0 ∈ s2.steps → TDone s2 d := fun s2 e1 e2 e3 e4 j hj => by
      rw [e2, push_get (by rw [v1.lw]; exact hd), if_pos rfl] at hj
      rw [e1]
      rcases List.mem_append.mp hj with hj | hj
      · obtain ⟨a, b⟩ := O1 j hj
        exact ⟨fun z => e3 _ (a z), fun z => e3 _ (b z)⟩
      · rw [List.mem_singleton.mp hj]
        exact ⟨fun z => absurd z at0, fun _ => e4⟩
    obtain ⟨v2, W2, U2⟩ := back
    by_cases c1 : gN s1.sides (gN (gL s1.held i) 0) = 1
    · -- the other literal is so
      have e : s' = ({ s1 with wat := pushW s1.wat d i }, false) := by
        rw [← hs']
        simp only [if_pos c1]
        rw [if_neg (by rw [c1]; decide), if_neg (by rw [c1]; decide)]
      rw [e]
      have so := (v1.s1 _ dl).mp c1
      exact ⟨K1.trans ⟨rfl, rfl, rfl, [], (List.append_nil _).symm⟩, ef, fun _ => ⟨v2, hc1, hf1, hk1, W2, S1, U2, done2 { s1 with wat := pushW s1.wat d i } rfl rfl (fun _ h => h) so⟩, fun z => nomatch z⟩
    · -- it is not
      obtain ⟨g1, g2, g3⟩ := scan_spec s1.sides (gL s1.held i) _ 2 rfl
      by_cases c2 : scanF s1.sides (gL s1.held i) 2 < (gL s1.held i).length
      · -- another literal is watched
        generalize hkk : scanF s1.sides (gL s1.held i) 2 = kk at *
        have em : movedF s1 i = some { s1 with held := s1.held.set i (swapL (gL s1.held i) 1 kk), wat := pushW s1.wat (gN (gL s1.held i) kk) i } := by
          unfold movedF
          simp only [hkk]
          rw [if_pos c2]
        have e : s' = ({ s1 with held := s1.held.set i (swapL (gL s1.held i) 1 kk), wat := pushW s1.wat (gN (gL s1.held i) kk) i }, false) := by
          rw [← hs']
          simp only [if_neg c1, em]
        rw [e]
        have nw : i ∉ gL s1.wat (gN (gL s1.held i) 1) := by rw [at1]; exact hn
        have v3 := v1.move g hi g1 c2 nw
        have kl : gN (gL s1.held i) kk < 2 * n := v1.hlt g hi (gN_mem c2)
        have kd : gN (gL s1.held i) kk ≠ d := fun q => g2 c2 (by rw [q]; exact sd2)
        have hh : ∀ j, gL (s1.held.set i (swapL (gL s1.held i) 1 kk)) j = if j = i then swapL (gL s1.held i) 1 kk else gL s1.held j := fun j => hset v1.lh hi j
        have hp : ∀ m, gL (pushW s1.wat (gN (gL s1.held i) kk) i) m = if m = gN (gL s1.held i) kk then gL s1.wat (gN (gL s1.held i) kk) ++ [i] else gL s1.wat m := fun m => push_get (by rw [v1.lw]; exact kl) i m
        have up : ∀ {j l : Nat}, j ∈ gL s1.wat l → j ∈ gL (pushW s1.wat (gN (gL s1.held i) kk) i) l := fun {j l} h => by
          rw [hp]
          split
          · rename_i q
            exact List.mem_append_left _ (q ▸ h)
          · exact h
        have s0 : gN (swapL (gL s1.held i) 1 kk) 0 = gN (gL s1.held i) 0 := by rw [swap_get (by omega) c2, if_neg (by omega), if_neg (by decide)]
        have s1' : gN (swapL (gL s1.held i) 1 kk) 1 = gN (gL s1.held i) kk := by rw [swap_get (by omega) c2, if_neg (by omega), if_pos rfl]
        have rr : ∀ {j l : Nat}, j ≠ i → (j ∈ gL s1.wat l ∨ l = d ∧ j ∈ i :: rest) → (j ∈ gL (pushW s1.wat (gN (gL s1.held i) kk) i) l ∨ l = d ∧ j ∈ rest) := fun {j l} ne h => h.imp up fun ⟨a, b⟩ => ⟨a, (List.mem_cons.mp b).elim (fun q => absurd q ne) id⟩
        have off0 : flip (gN (gL s1.held i) 0) ∉ s1.steps.take k := fun h => by
          have z := (S1 i hi h2).1 h
          rw [at1] at z
          exact dn z
        refine ⟨K1.trans ⟨rfl, rfl, rfl, [], (List.append_nil _).symm⟩, ef, fun _ => ⟨v3, hc1, hf1, hk1, ?_, ?_, ⟨ndr, ?_⟩, ?_⟩, fun z => nomatch z⟩
        · intro j hj1 hj2
          have hj2 : 2 ≤ (gL (s1.held.set i (swapL (gL s1.held i) 1 kk)) j).length := hj2
          show (j ∈ gL (pushW s1.wat (gN (gL s1.held i) kk) i) (gN (gL (s1.held.set i _) j) 0) ∨ gN (gL (s1.held.set i _) j) 0 = d ∧ j ∈ rest) ∧ (j ∈ gL (pushW s1.wat (gN (gL s1.held i) kk) i) (gN (gL (s1.held.set i _) j) 1) ∨ gN (gL (s1.held.set i _) j) 1 = d ∧ j ∈ rest)
          rw [hh] at hj2 ⊢
          by_cases e : j = i
          · subst e
            rw [if_pos rfl, s0, s1']
            refine ⟨?_, .inl (by rw [hp, if_pos rfl]; exact List.mem_append_right _ List.mem_cons_self)⟩
            rcases (W1 j hi h2).1 with h | ⟨h, _⟩
            · exact .inl (up h)
            · exact absurd h at0
          · rw [if_neg e] at hj2 ⊢
            obtain ⟨a, b⟩ := W1 j hj1 hj2
            exact ⟨rr e a, rr e b⟩
        · intro j hj1 hj2
          have hj2 : 2 ≤ (gL (s1.held.set i (swapL (gL s1.held i) 1 kk)) j).length := hj2
          show (flip (gN (gL (s1.held.set i _) j) 0) ∈ s1.steps.take k → gN (gL (s1.held.set i _) j) 1 ∈ s1.steps) ∧ (flip (gN (gL (s1.held.set i _) j) 1) ∈ s1.steps.take k → gN (gL (s1.held.set i _) j) 0 ∈ s1.steps)
          rw [hh] at hj2 ⊢
          by_cases e : j = i
          · subst e
            rw [if_pos rfl, s0, s1']
            refine ⟨fun h => absurd h off0, fun h => ?_⟩
            have z := (v1.s2 _ kl).mpr (List.mem_of_mem_take h)
            exact absurd z (g2 c2)
          · rw [if_neg e] at hj2 ⊢
            exact S1 j hj1 hj2
        · intro j hj
          have e : j ≠ i := fun e => ni (e ▸ hj)
          obtain ⟨q1, q2, q3, q4⟩ := U1.ok j (List.mem_cons_of_mem _ hj)
          show j < F.length ∧ 2 ≤ (gL (s1.held.set i _) j).length ∧ (gN (gL (s1.held.set i _) j) 0 = d ∨ gN (gL (s1.held.set i _) j) 1 = d) ∧ j ∉ gL (pushW s1.wat (gN (gL s1.held i) kk) i) d
          rw [hh, if_neg e, hp, if_neg kd.symm]
          exact ⟨q1, q2, q3, q4⟩
        · intro j hj
          have hj : j ∈ gL (pushW s1.wat (gN (gL s1.held i) kk) i) d := hj
          rw [hp, if_neg kd.symm] at hj
          have e : j ≠ i := fun e => hn (e ▸ hj)
          show (gN (gL (s1.held.set i _) j) 0 = d → gN (gL (s1.held.set i _) j) 1 ∈ s1.steps) ∧ (gN (gL (s1.held.set i _) j) 1 = d → gN (gL (s1.held.set i _) j) 0 ∈ s1.steps)
          rw [hh, if_neg e]
          exact O1 j hj
      · have em : movedF s1 i = none := by
          unfold movedF
          simp only
          rw [if_neg c2]
        -- all but the other literal are denied
        have all : ∀ m ∈ gL F i, m ≠ gN (gL s1.held i) 0 → flip m ∈ s1.steps := fun m hm ne => by
          obtain ⟨j, hj, e⟩ := mem_gN ((v1.pm i hi).mem_iff.mpr hm)
          have hml : m < 2 * n := g.lt i hi m hm
          by_cases j0 : j = 0
          · rw [j0] at e; exact absurd e.symm ne
          · by_cases j1 : j = 1
            · rw [j1, at1] at e
              rw [← e]
              exact hf1
            · have z := (g3 j (by omega) (by omega)).2
              rw [e] at z
              exact (v1.s2 m hml).mp z
        have inF : gN (gL s1.held i) 0 ∈ gL F i := (v1.pm i hi).mem_iff.mp (gN_mem (by omega))
        by_cases c3 : gN s1.sides (gN (gL s1.held i) 0) = 2
        · have e : s' = ({ s1 with wat := (pushW s1.wat d i).set d (gL (pushW s1.wat d i) d ++ rest), clash := some i }, true) := by
            rw [← hs']
            simp only [if_neg c1, em, if_pos c3]
          rw [e]
          have hp : ∀ m, gL ((pushW s1.wat d i).set d (gL (pushW s1.wat d i) d ++ rest)) m = if m = d then (gL s1.wat d ++ [i]) ++ rest else gL s1.wat m := fun m => by
            rw [gL_set, push_len, v1.lw, push_get (by rw [v1.lw]; exact hd), if_pos rfl]
            by_cases q : m = d
            · rw [if_pos ⟨q, hd⟩, if_pos q]
            · rw [if_neg (fun z => q z.1), if_neg q, push_get (by rw [v1.lw]; exact hd), if_neg q]
          refine ⟨K1.trans ⟨rfl, rfl, rfl, [], (List.append_nil _).symm⟩, ef, (fun z => nomatch z), fun _ => ⟨⟨v1.ls, ?_, v1.ll, v1.lr, v1.lh, v1.pm, v1.slt, v1.snd, v1.s1, v1.s2, v1.s3, v1.fl, ?_, ?_, v1.rs, ?_⟩, ?_, fun z => nomatch z⟩⟩
          · show ((pushW s1.wat d i).set d _).length = _
            rw [List.length_set, push_len, v1.lw]
          · intro l hl j hj
            have hj : j ∈ gL ((pushW s1.wat d i).set d (gL (pushW s1.wat d i) d ++ rest)) l := hj
            rw [hp] at hj
            by_cases q : l = d
            · rw [if_pos q] at hj
              rw [q]
              rcases List.mem_append.mp hj with hj | hj
              · rcases List.mem_append.mp hj with hj | hj
                · exact v1.w1 d hd j hj
                · rw [List.mem_singleton.mp hj]
                  exact ⟨hi, h2, hw⟩
              · obtain ⟨q1, q2, q3, _⟩ := U1.ok j (List.mem_cons_of_mem _ hj)
                exact ⟨q1, q2, q3⟩
            · rw [if_neg q] at hj
              exact v1.w1 l hl j hj
          · intro l
            show (gL ((pushW s1.wat d i).set d (gL (pushW s1.wat d i) d ++ rest)) l).Nodup
            rw [hp]
            split
            · refine List.nodup_append.mpr ⟨List.nodup_append.mpr ⟨v1.wn d, by simp, fun a ha b hb q => ?_⟩, ndr, fun a ha b hb q => ?_⟩
              · rw [List.mem_singleton.mp hb] at q
                exact hn (q ▸ ha)
              · subst q
                rcases List.mem_append.mp ha with ha | ha
                · exact (U1.ok a (List.mem_cons_of_mem _ hb)).2.2.2 ha
                · exact ni (List.mem_singleton.mp ha ▸ hb)
            · exact v1.wn l
          · intro j hj
            have hj : i = j := Option.some.inj hj
            subst hj
            refine ⟨hi, fun m hm => .inl ?_⟩
            show flip m ∈ s1.steps
            by_cases q : m = gN (gL s1.held i) 0
            · rw [q]
              exact (v1.s2 _ dl).mp c3
            · exact all m hm q
          · intro j hj1 hj2
            have one : ∀ l, (j ∈ gL s1.wat l ∨ l = d ∧ j ∈ i :: rest) → j ∈ gL ((pushW s1.wat d i).set d (gL (pushW s1.wat d i) d ++ rest)) l := fun l h => by
              rw [hp]
              by_cases q : l = d
              · rw [if_pos q]
                rcases h with h | ⟨_, h⟩
                · exact List.mem_append_left _ (List.mem_append_left _ (q ▸ h))
                · rcases List.mem_cons.mp h with h | h
                  · rw [h]; exact List.mem_append_left _ (List.mem_append_right _ List.mem_cons_self)
                  · exact List.mem_append_right _ h
              · rw [if_neg q]
                exact h.elim id fun z => absurd z.1 q
            obtain ⟨a, b⟩ := W1 j hj1 hj2
            exact ⟨.inl (one _ a), .inl (one _ b)⟩
        · have c0 : gN s1.sides (gN (gL s1.held i) 0) = 0 := by
            have := v1.s3 (gN (gL s1.held i) 0)
            omega
          have e : s' = (setSoF { s1 with wat := pushW s1.wat d i } (gN (gL s1.held i) 0) (some i), false) := by
            rw [← hs']
            simp only [if_neg c1, em, if_neg c3, if_pos c0]
          rw [e]
          have v4 := v2.so (l := gN (gL s1.held i) 0) (r := some i) dl c0 (fun z => nomatch z) fun j hj => by
            have hj : i = j := Option.some.inj hj
            subst hj
            exact ⟨hi, inF, all⟩
          have hst : (setSoF { s1 with wat := pushW s1.wat d i } (gN (gL s1.held i) 0) (some i)).steps = s1.steps ++ [gN (gL s1.held i) 0] := rfl
          have sub : ∀ l ∈ s1.steps, l ∈ (setSoF { s1 with wat := pushW s1.wat d i } (gN (gL s1.held i) 0) (some i)).steps := fun l h => by rw [hst]; exact List.mem_append_left _ h
          have dd := done2 (setSoF { s1 with wat := pushW s1.wat d i } (gN (gL s1.held i) 0) (some i)) rfl rfl sub (by rw [hst]; exact List.mem_append_right _ List.mem_cons_self)
          refine ⟨K1.trans ⟨rfl, rfl, rfl, [gN (gL s1.held i) 0], rfl⟩, ef, fun _ => ⟨v4, hc1, sub _ hf1, by rw [hst, List.length_append]; omega, W2, ?_, ⟨U2.nd, U2.ok⟩, dd⟩, fun z => nomatch z⟩
          · intro j hj1 hj2
            rw [hst, take_app hk1]
            obtain ⟨a, b⟩ := S1 j hj1 hj2
            exact ⟨fun z => List.mem_append_left _ (a z), fun z => List.mem_append_left _ (b z)⟩
theorem look_spec (g : TGood F n) (d : Nat) (hd : d < 2 * n) (k : Nat) : ∀ (rest : List Nat) (st : TS), TLook F n d k rest st →
    let s' := lookLoop d rest st
    TInv F n s' ∧ TKeep st s' ∧ s'.fol = st.fol ∧ TWat F s' d [] ∧ (s'.clash = none → TSeen F s' k ∧ TDone s' d)
  | [], st, L => ⟨L.v, TKeep.refl st, rfl, L.w, fun _ => ⟨L.s, L.o⟩⟩
  | i :: rest, st, L => by
    obtain ⟨a, b, c, e⟩ := look_step g d hd k i rest st L
    intro s'
    have es : s' = lookLoop d (i :: rest) st := rfl
    rw [lookLoop] at es
    by_cases q : (lookStep d i rest st).2 = true
    · rw [if_pos q] at es
      rw [es]
      obtain ⟨e1, e2, e3⟩ := e q
      exact ⟨e1, a, b, e2, fun z => absurd z e3⟩
    · rw [if_neg q] at es
      rw [es]
      obtain ⟨r1, r2, r3, r4, r5⟩ := look_spec g d hd k rest _ (c (by simpa using q))
      exact ⟨r1, a.trans r2, r3.trans b, r4, r5⟩
end
end K6
namespace K6
/-! ### following -/
section
variable {F : List (List Nat)} {n : Nat}
theorem take_succ_gN {xs : List Nat} {k : Nat} (h : k < xs.length) : xs.take (k + 1) = xs.take k ++ [gN xs k] := by
  rw [List.take_succ, gN_get h]
  rfl
theorem TWat.any {st : TS} {d e : Nat} (W : TWat F st d []) : TWat F st e [] := fun i h1 h2 => by
  obtain ⟨a, b⟩ := W i h1 h2
  exact ⟨.inl (a.elim id fun z => nomatch z.2), .inl (b.elim id fun z => nomatch z.2)⟩
/-- what stands while one follows -/
structure TFol (F : List (List Nat)) (n : Nat) (st : TS) : Prop where
  v : TInv F n st
  w : TWat F st 0 []
  s : st.clash = none → TSeen F st st.fol
theorem look_start {st : TS} (f : TFol F n st) (hc : st.clash = none) (hk : st.fol < st.steps.length) :
    TLook F n (flip (gN st.steps st.fol)) st.fol (gL st.wat (flip (gN st.steps st.fol))) { st with wat := st.wat.set (flip (gN st.steps st.fol)) [] } := by
  have v := f.v
  have hin : gN st.steps st.fol ∈ st.steps := gN_mem hk
  have hl := v.slt _ hin
  have hd := flip_lt hl
  have hw : ∀ m, gL (st.wat.set (flip (gN st.steps st.fol)) []) m = if m = flip (gN st.steps st.fol) then [] else gL st.wat m := fun m => by
    rw [gL_set, v.lw]
    by_cases e : m = flip (gN st.steps st.fol)
    · rw [if_pos ⟨e, hd⟩, if_pos e]
    · rw [if_neg (fun z => e z.1), if_neg e]
  have v0 : TInv F n { st with wat := st.wat.set (flip (gN st.steps st.fol)) [] } := by
    refine ⟨v.ls, ?_, v.ll, v.lr, v.lh, v.pm, v.slt, v.snd, v.s1, v.s2, v.s3, v.fl, ?_, ?_, v.rs, v.cl⟩
    · show (st.wat.set _ []).length = _
      rw [List.length_set, v.lw]
    · intro l hl2 j hj
      have hj : j ∈ gL (st.wat.set (flip (gN st.steps st.fol)) []) l := hj
      rw [hw] at hj
      by_cases e : l = flip (gN st.steps st.fol)
      · rw [if_pos e] at hj; cases hj
      · rw [if_neg e] at hj
        exact v.w1 l hl2 j hj
    · intro l
      show (gL (st.wat.set _ []) l).Nodup
      rw [hw]
      split
      · exact List.nodup_nil
      · exact v.wn l
  have W0 : TWat F { st with wat := st.wat.set (flip (gN st.steps st.fol)) [] } (flip (gN st.steps st.fol)) (gL st.wat (flip (gN st.steps st.fol))) := fun i h1 h2 => by
    have one : ∀ l, (i ∈ gL st.wat l ∨ l = 0 ∧ i ∈ ([] : List Nat)) → (i ∈ gL (st.wat.set (flip (gN st.steps st.fol)) []) l ∨ l = flip (gN st.steps st.fol) ∧ i ∈ gL st.wat (flip (gN st.steps st.fol))) := fun l h => by
      have h := h.elim id fun z => nomatch z.2
      rw [hw]
      by_cases e : l = flip (gN st.steps st.fol)
      · exact .inr ⟨e, e ▸ h⟩
      · rw [if_neg e]
        exact .inl h
    obtain ⟨a, b⟩ := f.w i h1 h2
    exact ⟨one _ a, one _ b⟩
  have U0 : TDue F { st with wat := st.wat.set (flip (gN st.steps st.fol)) [] } (flip (gN st.steps st.fol)) (gL st.wat (flip (gN st.steps st.fol))) := ⟨v.wn _, fun i hi => by
    obtain ⟨a, b, c⟩ := v.w1 _ hd i hi
    refine ⟨a, b, c, ?_⟩
    show i ∉ gL (st.wat.set _ []) _
    rw [hw, if_pos rfl]
    exact fun z => nomatch z⟩
  have O0 : TDone { st with wat := st.wat.set (flip (gN st.steps st.fol)) [] } (flip (gN st.steps st.fol)) := fun i hi => by
    have hi : i ∈ gL (st.wat.set (flip (gN st.steps st.fol)) []) (flip (gN st.steps st.fol)) := hi
    rw [hw, if_pos rfl] at hi
    cases hi
  exact ⟨v0, hc, by rw [flip_flip]; exact hin, Nat.le_of_lt hk, W0, f.s hc, U0, O0⟩
theorem look_done (g : TGood F n) {st : TS} (f : TFol F n st) (hc : st.clash = none) (hk : st.fol < st.steps.length) :
    let s' := { lookF st (flip (gN st.steps st.fol)) with fol := st.fol + 1 }
    TFol F n s' ∧ TKeep st s' ∧ (lookF st (flip (gN st.steps st.fol))).fol = st.fol := by
  have v := f.v
  have hd : flip (gN st.steps st.fol) < 2 * n := flip_lt (v.slt _ (gN_mem hk))
  have z := look_spec g (flip (gN st.steps st.fol)) hd st.fol (gL st.wat (flip (gN st.steps st.fol))) { st with wat := st.wat.set (flip (gN st.steps st.fol)) [] } (look_start f hc hk)
  intro s'
  obtain ⟨r1, r2, r3, r4, r5⟩ := z
  have K : TKeep st s' := ⟨r2.ch, r2.sa, r2.sh, r2.sp⟩
  have kl : st.fol + 1 ≤ s'.steps.length := by
    obtain ⟨m, e⟩ := K.sp
    rw [e, List.length_append]
    omega
  refine ⟨⟨⟨r1.ls, r1.lw, r1.ll, r1.lr, r1.lh, r1.pm, r1.slt, r1.snd, r1.s1, r1.s2, r1.s3, kl, r1.w1, r1.wn, r1.rs, r1.cl⟩, fun i h1 h2 => r4.any i h1 h2, fun hc' => ?_⟩, K, r3⟩
  obtain ⟨S, O⟩ := r5 hc'
  intro i h1 h2
  show (flip (gN (gL s'.held i) 0) ∈ s'.steps.take (st.fol + 1) → gN (gL s'.held i) 1 ∈ s'.steps) ∧ (flip (gN (gL s'.held i) 1) ∈ s'.steps.take (st.fol + 1) → gN (gL s'.held i) 0 ∈ s'.steps)
  rw [K.take (by omega), take_succ_gN hk]
  obtain ⟨a, b⟩ := S i h1 h2
  obtain ⟨p, q⟩ := r4 i h1 h2
  have tk : (lookF st (flip (gN st.steps st.fol))).steps.take st.fol = st.steps.take st.fol := K.take (by omega)
  have a : flip (gN (gL s'.held i) 0) ∈ (lookF st (flip (gN st.steps st.fol))).steps.take st.fol → gN (gL s'.held i) 1 ∈ s'.steps := a
  have b : flip (gN (gL s'.held i) 1) ∈ (lookF st (flip (gN st.steps st.fol))).steps.take st.fol → gN (gL s'.held i) 0 ∈ s'.steps := b
  rw [tk] at a b
  refine ⟨fun z => ?_, fun z => ?_⟩
  · rcases List.mem_append.mp z with z | z
    · exact a z
    · have e : gN (gL s'.held i) 0 = flip (gN st.steps st.fol) := by rw [← List.mem_singleton.mp z, flip_flip]
      have p : i ∈ gL s'.wat (gN (gL s'.held i) 0) := p.elim id fun z => nomatch z.2
      rw [e] at p
      exact (O i p).1 e
  · rcases List.mem_append.mp z with z | z
    · exact b z
    · have e : gN (gL s'.held i) 1 = flip (gN st.steps st.fol) := by rw [← List.mem_singleton.mp z, flip_flip]
      have q : i ∈ gL s'.wat (gN (gL s'.held i) 1) := q.elim id fun z => nomatch z.2
      rw [e] at q
      exact (O i q).2 e
theorem follow_spec (g : TGood F n) : ∀ (k : Nat) (st : TS), TFol F n st → TFol F n (followF k st) ∧ TKeep st (followF k st) ∧ (n < k + st.fol → (followF k st).clash = none → (followF k st).fol = (followF k st).steps.length) ∧ (st.clash ≠ none → followF k st = st)
  | 0, st, f => ⟨f, TKeep.refl st, fun h _ => by
      have h : n < st.fol := by omega
      have := f.v.few
      have := f.v.fl
      omega, fun _ => rfl⟩
  | k + 1, st, f => by
    by_cases c : st.clash = none ∧ st.fol < st.steps.length
    · have e : followF (k + 1) st = followF k { lookF st (flip (gN st.steps st.fol)) with fol := st.fol + 1 } := by
        rw [followF, if_pos c]
      rw [e]
      obtain ⟨f', K, _⟩ := look_done g f c.1 c.2
      obtain ⟨r1, r2, r3, r4⟩ := follow_spec g k { lookF st (flip (gN st.steps st.fol)) with fol := st.fol + 1 } f'
      exact ⟨r1, K.trans r2, fun h => r3 (by show n < k + (st.fol + 1); omega), fun h => absurd c.1 h⟩
    · have e : followF (k + 1) st = st := by rw [followF, if_neg c]
      rw [e]
      refine ⟨f, TKeep.refl st, fun _ hc => ?_, fun _ => rfl⟩
      have := f.v.fl
      by_cases q : st.fol < st.steps.length
      · exact absurd ⟨hc, q⟩ c
      · omega
/-! ### the beginning -/
theorem gN_rep (m i : Nat) : gN (List.replicate m 0) i = 0 := by
  unfold gN
  rw [List.getD_eq_getElem?_getD, List.getElem?_replicate]
  split <;> rfl
theorem gL_rep (m i : Nat) : gL (List.replicate m []) i = [] := by
  unfold gL
  rw [List.getD_eq_getElem?_getD, List.getElem?_replicate]
  split <;> rfl
theorem blank_inv (F : List (List Nat)) (n : Nat) : TInv F n (blankF n F) := by
  refine ⟨List.length_replicate, List.length_replicate, List.length_replicate, List.length_replicate, rfl, fun i _ => List.Perm.refl _, fun l h => (nomatch h), List.nodup_nil, fun l _ => ?_, fun l _ => ?_, fun l => ?_, Nat.le_refl _, fun l _ i h => ?_, fun l => ?_, fun k h => (nomatch h), fun i h => (nomatch h)⟩
  · rw [show gN (blankF n F).sides l = 0 from gN_rep _ _]
    exact ⟨fun z => (nomatch z), fun z => (nomatch z)⟩
  · rw [show gN (blankF n F).sides l = 0 from gN_rep _ _]
    exact ⟨fun z => (nomatch z), fun z => (nomatch z)⟩
  · rw [show gN (blankF n F).sides l = 0 from gN_rep _ _]
    omega
  · rw [show gL (blankF n F).wat l = [] from gL_rep _ _] at h
    cases h
  · rw [show gL (blankF n F).wat l = [] from gL_rep _ _]
    exact List.nodup_nil
/-- clauses are watched, one by one -/
theorem watch_spec (g : TGood F n) : ∀ (xs : List Nat) (st : TS), TInv F n st → xs.Nodup → (∀ i ∈ xs, i < F.length ∧ 1 < (gL F i).length ∧ ∀ l, i ∉ gL st.wat l) → st.held = F →
    let s' := xs.foldl watchF st
    TInv F n s' ∧ s'.held = F ∧ s'.steps = st.steps ∧ s'.fol = st.fol ∧ s'.clash = st.clash ∧ s'.short = st.short ∧ s'.chosen = st.chosen ∧ s'.starts = st.starts ∧
      (∀ l i, i ∈ gL st.wat l → i ∈ gL s'.wat l) ∧ ∀ i ∈ xs, i ∈ gL s'.wat (gN (gL F i) 0) ∧ i ∈ gL s'.wat (gN (gL F i) 1)
  | [], st, v, _, _, hh => ⟨v, hh, rfl, rfl, rfl, rfl, rfl, rfl, fun _ _ h => h, fun _ h => nomatch h⟩
  | i :: xs, st, v, nd, h, hh => by
    obtain ⟨hi, h2, hn⟩ := h i List.mem_cons_self
    obtain ⟨ni, ndx⟩ := List.nodup_cons.mp nd
    have l0 : gN (gL F i) 0 < 2 * n := g.lt i hi _ (gN_mem (by omega))
    have l1 : gN (gL F i) 1 < 2 * n := g.lt i hi _ (gN_mem (by omega))
    have ne : gN (gL F i) 0 ≠ gN (gL F i) 1 := fun e => by
      have := gN_inj (g.nd i hi) (i := 0) (j := 1) (by omega) (by omega) (by rw [e])
      omega
    have e : watchF st i = { st with wat := pushW (pushW st.wat (gN (gL F i) 0) i) (gN (gL F i) 1) i } := by unfold watchF; rw [hh]
    have p1 : ∀ m, gL (pushW st.wat (gN (gL F i) 0) i) m = if m = gN (gL F i) 0 then gL st.wat (gN (gL F i) 0) ++ [i] else gL st.wat m := fun m => push_get (by rw [v.lw]; exact l0) i m
    have p2 : ∀ m, gL (pushW (pushW st.wat (gN (gL F i) 0) i) (gN (gL F i) 1) i) m = if m = gN (gL F i) 1 then gL (pushW st.wat (gN (gL F i) 0) i) (gN (gL F i) 1) ++ [i] else gL (pushW st.wat (gN (gL F i) 0) i) m := fun m => push_get (by rw [push_len, v.lw]; exact l1) i m
    have v1 : TInv F n { st with wat := pushW st.wat (gN (gL F i) 0) i } := v.push l0 hi (by rw [hh]; omega) (.inl (by rw [hh])) (hn _)
    have v2 : TInv F n { st with wat := pushW (pushW st.wat (gN (gL F i) 0) i) (gN (gL F i) 1) i } := v1.push l1 hi (by show 2 ≤ (gL st.held i).length; rw [hh]; omega) (.inr (by show gN (gL st.held i) 1 = _; rw [hh])) (by
      show i ∉ gL (pushW st.wat (gN (gL F i) 0) i) (gN (gL F i) 1)
      rw [p1, if_neg ne.symm]
      exact hn _)
    have up : ∀ l j, j ∈ gL st.wat l → j ∈ gL (pushW (pushW st.wat (gN (gL F i) 0) i) (gN (gL F i) 1) i) l := fun l j hj => by
      have a : ∀ m, j ∈ gL st.wat m → j ∈ gL (pushW st.wat (gN (gL F i) 0) i) m := fun m hm => by
        rw [p1]
        split
        · rename_i q
          exact List.mem_append_left _ (q ▸ hm)
        · exact hm
      rw [p2]
      split
      · rename_i q
        exact List.mem_append_left _ (a _ (q ▸ hj))
      · exact a _ hj
    have z := watch_spec g xs { st with wat := pushW (pushW st.wat (gN (gL F i) 0) i) (gN (gL F i) 1) i } v2 ndx (fun j hj => by
      obtain ⟨a, b, c⟩ := h j (List.mem_cons_of_mem _ hj)
      have ji : j ≠ i := fun q => ni (q ▸ hj)
      refine ⟨a, b, fun l => ?_⟩
      show j ∉ gL (pushW (pushW st.wat (gN (gL F i) 0) i) (gN (gL F i) 1) i) l
      have a : ∀ m, j ∉ gL (pushW st.wat (gN (gL F i) 0) i) m := fun m => by
        rw [p1]
        split
        · intro hm
          rcases List.mem_append.mp hm with hm | hm
          · exact c _ hm
          · exact ji (List.mem_singleton.mp hm)
        · exact c m
      rw [p2]
      split
      · intro hm
        rcases List.mem_append.mp hm with hm | hm
        · exact a _ hm
        · exact ji (List.mem_singleton.mp hm)
      · exact a l) hh
    intro s'
    have es : s' = xs.foldl watchF { st with wat := pushW (pushW st.wat (gN (gL F i) 0) i) (gN (gL F i) 1) i } := by
      show (i :: xs).foldl watchF st = _
      rw [List.foldl_cons, e]
    rw [es]
    obtain ⟨r1, r2, r3, r4, r5, r6, r7, r8, r9, r10⟩ := z
    refine ⟨r1, r2, r3, r4, r5, r6, r7, r8, fun l j hj => r9 l j (up l j hj), fun j hj => ?_⟩
    rcases List.mem_cons.mp hj with q | q
    · subst q
      refine ⟨r9 _ _ ?_, r9 _ _ ?_⟩
      · show j ∈ gL (pushW (pushW st.wat (gN (gL F j) 0) j) (gN (gL F j) 1) j) _
        rw [p2, if_neg ne, p1, if_pos rfl]
        exact List.mem_append_right _ List.mem_cons_self
      · show j ∈ gL (pushW (pushW st.wat (gN (gL F j) 0) j) (gN (gL F j) 1) j) _
        rw [p2, if_pos rfl]
        exact List.mem_append_right _ List.mem_cons_self
    · exact r10 j q
/-- clauses of one literal or none -/
def TShorts (F : List (List Nat)) (st : TS) (xs : List Nat) : Prop := ∀ i ∈ xs, (gL F i).length < 2 → ∃ l, gL F i = [l] ∧ l ∈ st.steps
theorem one_of {c : List Nat} (h : c.length < 2) (h2 : c ≠ []) : c = [gN c 0] := by
  match c, h, h2 with
  | [l], _, _ => rfl
  | [], _, h2 => exact absurd rfl h2
  | a :: b :: r, h, _ => simp at h; omega
theorem nothing_spec (g : TGood F n) : ∀ (xs : List Nat) (st : TS), TInv F n st → TWat F st 0 [] → st.fol = 0 → (∀ i ∈ xs, i < F.length ∧ (gL F i).length < 2) → st.held = F →
    let s' := xs.foldl nothingStep st
    TInv F n s' ∧ TWat F s' 0 [] ∧ s'.fol = 0 ∧ TKeep st s' ∧ s'.held = F ∧ (st.clash ≠ none → s'.clash ≠ none) ∧ (s'.clash = none → TShorts F s' xs)
  | [], st, v, W, hf, _, hh => ⟨v, W, hf, TKeep.refl st, hh, fun h => h, fun _ _ h => nomatch h⟩
  | i :: xs, st, v, W, hf, h, hh => by
    obtain ⟨hi, h2⟩ := h i List.mem_cons_self
    have hx : ∀ j ∈ xs, j < F.length ∧ (gL F j).length < 2 := fun j hj => h j (List.mem_cons_of_mem _ hj)
    intro s'
    have es : s' = xs.foldl nothingStep (nothingStep st i) := rfl
    have hn : nothingStep st i = if gL F i = [] ∨ gN st.sides (gN (gL F i) 0) = 2 then { st with clash := some i } else if gN st.sides (gN (gL F i) 0) = 0 then setSoF st (gN (gL F i) 0) (some i) else st := by
      unfold nothingStep
      rw [hh]
    by_cases c1 : gL F i = [] ∨ gN st.sides (gN (gL F i) 0) = 2
    · rw [if_pos c1] at hn
      rw [es, hn]
      have v1 : TInv F n { st with clash := some i } := by
        refine ⟨v.ls, v.lw, v.ll, v.lr, v.lh, v.pm, v.slt, v.snd, v.s1, v.s2, v.s3, v.fl, v.w1, v.wn, v.rs, fun j hj => ?_⟩
        have hj : i = j := Option.some.inj hj
        subst hj
        refine ⟨hi, fun m hm => .inl ?_⟩
        rcases c1 with c1 | c1
        · rw [c1] at hm; cases hm
        · have ne : gL F i ≠ [] := fun q => by rw [q] at hm; cases hm
          have e := one_of h2 ne
          have hm' := hm
          rw [e] at hm'
          have hml := g.lt i hi m hm
          rw [List.mem_singleton.mp hm'] at hml ⊢
          exact (v.s2 _ hml).mp c1
      obtain ⟨r1, r2, r3, r4, r5, r6, r7⟩ := nothing_spec g xs { st with clash := some i } v1 W hf hx hh
      have nz : (xs.foldl nothingStep { st with clash := some i }).clash ≠ none := r6 (fun z => nomatch z)
      exact ⟨r1, r2, r3, ⟨r4.ch, r4.sa, r4.sh, r4.sp⟩, r5, fun _ => nz, fun z => absurd z nz⟩
    · rw [if_neg c1] at hn
      have ne : gL F i ≠ [] := fun q => c1 (.inl q)
      have e := one_of h2 ne
      have pos : 0 < (gL F i).length := by rw [e]; simp
      have l0 : gN (gL F i) 0 < 2 * n := g.lt i hi _ (gN_mem pos)
      by_cases c0 : gN st.sides (gN (gL F i) 0) = 0
      · rw [if_pos c0] at hn
        rw [es, hn]
        have v1 := v.so (l := gN (gL F i) 0) (r := some i) l0 c0 (fun z => nomatch z) fun j hj => by
          have hj : i = j := Option.some.inj hj
          subst hj
          refine ⟨hi, gN_mem pos, fun m hm hne => ?_⟩
          rw [e] at hm
          exact absurd (List.mem_singleton.mp hm) hne
        obtain ⟨r1, r2, r3, r4, r5, r6, r7⟩ := nothing_spec g xs (setSoF st (gN (gL F i) 0) (some i)) v1 W hf hx hh
        have K : TKeep st (setSoF st (gN (gL F i) 0) (some i)) := ⟨rfl, rfl, rfl, _, rfl⟩
        refine ⟨r1, r2, r3, K.trans r4, r5, r6, fun z j hj hjl => ?_⟩
        rcases List.mem_cons.mp hj with q | q
        · subst q
          exact ⟨_, e, r4.mem (List.mem_append_right _ List.mem_cons_self)⟩
        · exact r7 z j q hjl
      · rw [if_neg c0] at hn
        rw [es, hn]
        obtain ⟨r1, r2, r3, r4, r5, r6, r7⟩ := nothing_spec g xs st v W hf hx hh
        refine ⟨r1, r2, r3, r4, r5, r6, fun z j hj hjl => ?_⟩
        rcases List.mem_cons.mp hj with q | q
        · subst q
          have c3 : gN st.sides (gN (gL F j) 0) = 1 := by
            have := v.s3 (gN (gL F j) 0)
            have : gN st.sides (gN (gL F j) 0) ≠ 2 := fun q => c1 (.inr q)
            omega
          exact ⟨_, e, r4.mem ((v.s1 _ l0).mp c3)⟩
        · exact r7 z j q hjl
/-- a trail between two puts -/
structure Trl (F : List (List Nat)) (n : Nat) (st : TS) : Prop where
  f : TFol F n st
  e : st.clash = none → st.fol = st.steps.length
  s : st.clash = none → TShorts F st (List.range F.length)
theorem init_pre (g : TGood F n) :
    let s0 := ((List.range F.length).filter fun i => 1 < (gL F i).length).foldl watchF (blankF n F)
    TInv F n s0 ∧ TWat F s0 0 [] ∧ s0.fol = 0 ∧ (∀ i ∈ s0.short, i < F.length ∧ (gL F i).length < 2) ∧ s0.held = F ∧ s0.short = (blankF n F).short ∧ s0.chosen = [] ∧ s0.starts = [] := by
  obtain ⟨r1, r2, r3, r4, r5, r6, r7, r8, r9, r10⟩ := watch_spec g ((List.range F.length).filter fun i => 1 < (gL F i).length) (blankF n F) (blank_inv F n) (List.nodup_range.filter _) (fun i hi => by
    obtain ⟨a, b⟩ := List.mem_filter.mp hi
    refine ⟨List.mem_range.mp a, by simpa using b, fun l => ?_⟩
    rw [show gL (blankF n F).wat l = [] from gL_rep _ _]
    exact fun z => nomatch z) rfl
  have W : TWat F (((List.range F.length).filter fun i => 1 < (gL F i).length).foldl watchF (blankF n F)) 0 [] := fun i h1 h2 => by
    rw [r2] at h2 ⊢
    obtain ⟨a, b⟩ := r10 i (List.mem_filter.mpr ⟨List.mem_range.mpr h1, decide_eq_true (show 1 < _ from h2)⟩)
    exact ⟨.inl a, .inl b⟩
  refine ⟨r1, W, r4, fun i hi => ?_, r2, r6, r7, r8⟩
  rw [r6] at hi
  obtain ⟨a, b⟩ := List.mem_filter.mp hi
  exact ⟨List.mem_range.mp a, by simpa using b⟩
theorem init_spec (g : TGood F n) : Trl F n (initF n F) ∧ (initF n F).chosen = [] ∧ (initF n F).starts = [] := by
  obtain ⟨r1, r2, r3, r4, r5, r6, r7, r8, r9, r10⟩ := watch_spec g ((List.range F.length).filter fun i => 1 < (gL F i).length) (blankF n F) (blank_inv F n) (List.nodup_range.filter _) (fun i hi => by
    obtain ⟨a, b⟩ := List.mem_filter.mp hi
    refine ⟨List.mem_range.mp a, by simpa using b, fun l => ?_⟩
    rw [show gL (blankF n F).wat l = [] from gL_rep _ _]
    exact fun z => nomatch z) rfl
  have W : TWat F (((List.range F.length).filter fun i => 1 < (gL F i).length).foldl watchF (blankF n F)) 0 [] := fun i h1 h2 => by
    rw [r2] at h2 ⊢
    obtain ⟨a, b⟩ := r10 i (List.mem_filter.mpr ⟨List.mem_range.mpr h1, decide_eq_true (show 1 < _ from h2)⟩)
    exact ⟨.inl a, .inl b⟩
  unfold initF nothingF
  generalize ((List.range F.length).filter fun i => 1 < (gL F i).length).foldl watchF (blankF n F) = s0 at *
  have hsh : s0.short = (List.range F.length).filter fun i => (gL F i).length < 2 := r6
  obtain ⟨q1, q2, q3, q4, q5, q6, q7⟩ := nothing_spec g s0.short s0 r1 W r4 (fun i hi => by
    rw [hsh] at hi
    obtain ⟨a, b⟩ := List.mem_filter.mp hi
    exact ⟨List.mem_range.mp a, by simpa using b⟩) r2
  generalize s0.short.foldl nothingStep s0 = s1 at *
  have f1 : TFol F n s1 := ⟨q1, q2, fun _ i h1 h2 => by
    rw [q3]
    exact ⟨fun z => (nomatch z), fun z => (nomatch z)⟩⟩
  obtain ⟨p1, p2, p3, p4⟩ := follow_spec g (n + 1) s1 f1
  refine ⟨⟨p1, p3 (by omega), fun hc i hi hl => ?_⟩, (p2.ch.trans q4.ch).trans r7, (p2.sa.trans q4.sa).trans r8⟩
  have c1 : s1.clash = none := by
    cases h : s1.clash with
    | none => rfl
    | some j =>
      rw [p4 (by rw [h]; exact fun z => nomatch z), h] at hc
      cases hc
  obtain ⟨l, a, b⟩ := q7 c1 i (by rw [hsh]; exact List.mem_filter.mpr ⟨hi, by simpa using hl⟩) hl
  exact ⟨l, a, p2.mem b⟩
theorem TShorts.keep {st st' : TS} {xs : List Nat} (s : TShorts F st xs) (k : ∃ more, st'.steps = st.steps ++ more) : TShorts F st' xs := fun i hi hl => by
  obtain ⟨l, a, b⟩ := s i hi hl
  obtain ⟨m, e⟩ := k
  exact ⟨l, a, by rw [e]; exact List.mem_append_left _ b⟩
theorem putT_fol {st : TS} (t : Trl F n st) (hc : st.clash = none) {l : Nat} (hl : l < 2 * n) (c0 : gN st.sides l = 0) :
    TFol F n (setSoF { st with chosen := st.chosen ++ [l], starts := st.starts ++ [st.steps.length] } l none) := by
  have v := t.f.v
  have v1 : TInv F n { st with chosen := st.chosen ++ [l], starts := st.starts ++ [st.steps.length] } := by
    refine ⟨v.ls, v.lw, v.ll, v.lr, v.lh, v.pm, v.slt, v.snd, v.s1, v.s2, v.s3, v.fl, v.w1, v.wn, fun k hk => ?_, fun i hi => ?_⟩
    · obtain ⟨a, b⟩ := v.rs k hk
      exact ⟨fun z => List.mem_append_left _ (a z), b⟩
    · have hi : st.clash = some i := hi
      rw [hc] at hi
      cases hi
  have v2 := v1.so (l := l) (r := none) hl c0 (fun _ => List.mem_append_right _ List.mem_cons_self) (fun i z => nomatch z)
  exact ⟨v2, t.f.w, fun _ i h1 h2 => by
    obtain ⟨a, b⟩ := t.f.s hc i h1 h2
    have e : (setSoF { st with chosen := st.chosen ++ [l], starts := st.starts ++ [st.steps.length] } l none).steps = st.steps ++ [l] := rfl
    rw [e, show (setSoF { st with chosen := st.chosen ++ [l], starts := st.starts ++ [st.steps.length] } l none).fol = st.fol from rfl, take_app v.fl]
    exact ⟨fun z => List.mem_append_left _ (a z), fun z => List.mem_append_left _ (b z)⟩⟩
theorem putT_spec (g : TGood F n) {st : TS} (t : Trl F n st) (hc : st.clash = none) {l : Nat} (hl : l < 2 * n) (new : ∀ m ∈ st.chosen, m / 2 ≠ l / 2) :
    Trl F n (putT n st l) ∧ (putT n st l).chosen = st.chosen ++ [l] ∧ (putT n st l).starts = st.starts ++ [st.steps.length] ∧ (∃ more, (putT n st l).steps = st.steps ++ more) ∧ ((putT n st l).clash = none → l ∈ (putT n st l).steps) := by
  have v := t.f.v
  have v1 : TInv F n { st with chosen := st.chosen ++ [l], starts := st.starts ++ [st.steps.length] } := by
    refine ⟨v.ls, v.lw, v.ll, v.lr, v.lh, v.pm, v.slt, v.snd, v.s1, v.s2, v.s3, v.fl, v.w1, v.wn, fun k hk => ?_, fun i hi => ?_⟩
    · obtain ⟨a, b⟩ := v.rs k hk
      exact ⟨fun z => List.mem_append_left _ (a z), b⟩
    · have hi : st.clash = some i := hi
      rw [hc] at hi
      cases hi
  unfold putT
  by_cases c2 : gN st.sides l = 2
  · simp only [if_pos c2]
    have hin := (v.s2 l hl).mp c2
    obtain ⟨k, hk, ek⟩ := mem_gN hin
    obtain ⟨ra, rb⟩ := v.rs k hk
    rw [ek, flip_half] at ra rb
    have nz : gO st.reasons (l / 2) ≠ none := fun z => new _ (ra z) (flip_half l)
    refine ⟨⟨⟨⟨v.ls, v.lw, v.ll, v.lr, v.lh, v.pm, v.slt, v.snd, v.s1, v.s2, v.s3, v.fl, v.w1, v.wn, v1.rs, fun i hi => ?_⟩, t.f.w, fun z => absurd z nz⟩, fun z => absurd z nz, fun z => absurd z nz⟩, (by first | rfl | trivial), (by first | rfl | trivial), ⟨[], (List.append_nil _).symm⟩, fun z => absurd z nz⟩
    obtain ⟨a, b, c⟩ := rb i hi
    refine ⟨a, fun m hm => ?_⟩
    by_cases q : m = flip l
    · exact .inr (by rw [q, flip_flip]; exact List.mem_append_right _ List.mem_cons_self)
    · exact .inl (List.mem_of_mem_take (c m hm q))
  · simp only [if_neg c2]
    by_cases c0 : gN st.sides l = 0
    · simp only [if_pos c0]
      have v2 := v1.so (l := l) (r := none) hl c0 (fun _ => List.mem_append_right _ List.mem_cons_self) (fun i z => nomatch z)
      have f2 : TFol F n (setSoF { st with chosen := st.chosen ++ [l], starts := st.starts ++ [st.steps.length] } l none) := ⟨v2, t.f.w, fun _ i h1 h2 => by
        obtain ⟨a, b⟩ := t.f.s hc i h1 h2
        have e : (setSoF { st with chosen := st.chosen ++ [l], starts := st.starts ++ [st.steps.length] } l none).steps = st.steps ++ [l] := rfl
        rw [e, show (setSoF { st with chosen := st.chosen ++ [l], starts := st.starts ++ [st.steps.length] } l none).fol = st.fol from rfl, take_app v.fl]
        exact ⟨fun z => List.mem_append_left _ (a z), fun z => List.mem_append_left _ (b z)⟩⟩
      obtain ⟨p1, p2, p3, p4⟩ := follow_spec g (n + 1) _ f2
      have K : TKeep { st with chosen := st.chosen ++ [l], starts := st.starts ++ [st.steps.length] } (setSoF { st with chosen := st.chosen ++ [l], starts := st.starts ++ [st.steps.length] } l none) := ⟨rfl, rfl, rfl, _, rfl⟩
      have K2 := K.trans p2
      refine ⟨⟨p1, p3 (by omega), fun _ => (t.s hc).keep K2.sp⟩, p2.ch, p2.sa, K2.sp, fun _ => p2.mem (List.mem_append_right _ List.mem_cons_self)⟩
    · simp only [if_neg c0]
      have c1 : gN st.sides l = 1 := by
        have := v.s3 l
        omega
      refine ⟨⟨⟨v1, t.f.w, t.f.s⟩, t.e, t.s⟩, (by first | rfl | trivial), (by first | rfl | trivial), ⟨[], (List.append_nil _).symm⟩, fun _ => (v.s1 l hl).mp c1⟩
end
end K6
namespace K6
/-! ### what a trail tells -/
def TClosed (F : List (List Nat)) (S : Nat → Prop) : Prop := ∀ i, i < F.length → ∀ l ∈ gL F i, (∀ m ∈ gL F i, m ≠ l → S (flip m)) → S l
def TDead (F : List (List Nat)) (S : Nat → Prop) : Prop := ∃ i, i < F.length ∧ ∀ m ∈ gL F i, S (flip m)
/-- pairs: the index of a clause, the literal that it draws; none where all are denied -/
def pairsGo (st : TS) (given : List Nat) (found : List (Option Nat × Option Nat)) : List Nat → List (Option Nat × Option Nat)
  | [] => if st.clash = none then found else found ++ [(st.clash, none)]
  | l :: r => if flip l ∈ given then found ++ [(gO st.reasons (l / 2), none)] else if l ∈ given then pairsGo st given found r else pairsGo st given (found ++ [(gO st.reasons (l / 2), some l)]) r
def pairsF (st : TS) (given : List Nat) : List (Option Nat × Option Nat) := pairsGo st given [] st.steps
/-- right pairs, each behind those ahead of it; the literals that are so in the end; b: a dead end -/
inductive RightN (F : List (List Nat)) : List Nat → List (Option Nat × Option Nat) → List Nat → Bool → Prop
  | nil (so : List Nat) : RightN F so [] so false
  | dead {so : List Nat} {i : Nat} (hi : i < F.length) (h : (gL F i).filter (fun m => decide (flip m ∉ so)) = []) : RightN F so [(some i, none)] so true
  | lit {so : List Nat} {i l : Nat} {r : List (Option Nat × Option Nat)} {so' : List Nat} {b : Bool} (hi : i < F.length) (h : (gL F i).filter (fun m => decide (flip m ∉ so)) = [l]) (hn : l ∉ so) (t : RightN F (so ++ [l]) r so' b) : RightN F so ((some i, some l) :: r) so' b
section
variable {F : List (List Nat)} {n : Nat} {st : TS}
theorem Trl.sound (t : Trl F n st) {S : Nat → Prop} (c : TClosed F S) (h : ∀ l ∈ st.chosen, S l) : (∀ l ∈ st.steps, S l) ∧ (st.clash ≠ none → TDead F S) := by
  have v := t.f.v
  have all : ∀ k, k ≤ st.steps.length → ∀ l ∈ st.steps.take k, S l := by
    intro k
    induction k with
    | zero => intro _ l hl; exact absurd hl (by simp)
    | succ k ih =>
      intro hk l hl
      rw [take_succ_gN (by omega)] at hl
      rcases List.mem_append.mp hl with hl | hl
      · exact ih (by omega) l hl
      · obtain ⟨a, b⟩ := v.rs k (by omega)
        rw [List.mem_singleton.mp hl]
        cases hr : gO st.reasons (gN st.steps k / 2) with
        | none => exact h _ (a hr)
        | some i =>
          obtain ⟨b1, b2, b3⟩ := b i hr
          exact c i b1 _ b2 fun m hm hne => ih (by omega) _ (b3 m hm hne)
  have all' : ∀ l ∈ st.steps, S l := fun l hl => all st.steps.length (Nat.le_refl _) l (by rw [List.take_length]; exact hl)
  refine ⟨all', fun hc => ?_⟩
  cases hr : st.clash with
  | none => exact absurd hr hc
  | some i =>
    obtain ⟨a, b⟩ := v.cl i hr
    exact ⟨i, a, fun m hm => (b m hm).elim (all' _) (h _)⟩
theorem Trl.full (g : TGood F n) (t : Trl F n st) (hc : st.clash = none) : TClosed F (· ∈ st.steps) ∧ ¬ TDead F (· ∈ st.steps) := by
  have v := t.f.v
  have S := t.f.s hc
  have ef := t.e hc
  unfold TSeen at S
  rw [ef, List.take_length] at S
  have key : ∀ i, i < F.length → (∃ l, gL F i = [l] ∧ l ∈ st.steps) ∨ (2 ≤ (gL st.held i).length ∧ gN (gL st.held i) 0 ∈ gL F i ∧ gN (gL st.held i) 1 ∈ gL F i ∧ gN (gL st.held i) 0 ≠ gN (gL st.held i) 1 ∧ (flip (gN (gL st.held i) 0) ∈ st.steps → gN (gL st.held i) 1 ∈ st.steps) ∧ (flip (gN (gL st.held i) 1) ∈ st.steps → gN (gL st.held i) 0 ∈ st.steps)) := by
    intro i hi
    by_cases c : (gL F i).length < 2
    · exact .inl (t.s hc i (List.mem_range.mpr hi) c)
    · have el := (v.pm i hi).length_eq
      refine .inr ⟨by omega, (v.pm i hi).mem_iff.mp (gN_mem (by omega)), (v.pm i hi).mem_iff.mp (gN_mem (by omega)), fun e => ?_, S i hi (by omega)⟩
      have := gN_inj (v.hnd g hi) (i := 0) (j := 1) (by omega) (by omega) (by rw [e])
      omega
  refine ⟨fun i hi l hl h => ?_, fun ⟨i, hi, h⟩ => ?_⟩
  · rcases key i hi with ⟨m, e, hm⟩ | ⟨h2, m0, m1, ne, a, b⟩
    · rw [e] at hl
      rw [List.mem_singleton.mp hl]
      exact hm
    · by_cases e0 : gN (gL st.held i) 0 = l
      · rw [← e0]
        exact b (h _ m1 fun q => ne (e0.trans q.symm))
      · have z := a (h _ m0 e0)
        by_cases e1 : gN (gL st.held i) 1 = l
        · rw [← e1]; exact z
        · exact absurd (h _ m1 e1) (v.one z)
  · rcases key i hi with ⟨m, e, hm⟩ | ⟨h2, m0, m1, ne, a, b⟩
    · exact v.one hm (h m (by rw [e]; exact List.mem_cons_self))
    · exact v.one (a (h _ m0)) (h _ m1)
theorem lead_spec (g : TGood F n) : ∀ (rest : List Nat) (st : TS), Trl F n st → (∀ l ∈ rest, l < 2 * n) → ((st.chosen ++ rest).map (· / 2)).Nodup → (st.clash = none → ∀ l ∈ st.chosen, l ∈ st.steps) →
    let s' := leadT n rest st
    Trl F n s' ∧ (∀ l ∈ s'.chosen, l ∈ st.chosen ∨ l ∈ rest) ∧ (∃ more, s'.steps = st.steps ++ more) ∧ (s'.clash = none → s'.chosen = st.chosen ++ rest ∧ ∀ l ∈ s'.chosen, l ∈ s'.steps)
  | [], st, t, _, _, h => ⟨t, fun l hl => .inl hl, ⟨[], (List.append_nil _).symm⟩, fun hc => ⟨(List.append_nil _).symm, h hc⟩⟩
  | l :: rest, st, t, hl, nd, h => by
    intro s'
    have es : s' = leadT n rest (if st.clash = none then putT n st l else st) := rfl
    by_cases hc : st.clash = none
    · rw [if_pos hc] at es
      rw [es]
      have new : ∀ m ∈ st.chosen, m / 2 ≠ l / 2 := fun m hm => by
        rw [List.map_append] at nd
        exact (List.nodup_append.mp nd).2.2 _ (List.mem_map_of_mem hm) _ (List.mem_map_of_mem List.mem_cons_self)
      obtain ⟨p1, p2, p3, ⟨more, p4⟩, p5⟩ := putT_spec g t hc (hl l List.mem_cons_self) new
      have z := lead_spec g rest (putT n st l) p1 (fun m hm => hl m (List.mem_cons_of_mem _ hm)) (by rw [p2, List.append_assoc]; exact nd) fun hc' m hm => by
        rw [p2] at hm
        rcases List.mem_append.mp hm with hm | hm
        · rw [p4]; exact List.mem_append_left _ (h hc m hm)
        · rw [List.mem_singleton.mp hm]; exact p5 hc'
      obtain ⟨r1, r2, ⟨mo, r3⟩, r4⟩ := z
      refine ⟨r1, fun m hm => ?_, ⟨more ++ mo, by rw [r3, p4, List.append_assoc]⟩, fun hc' => ?_⟩
      · rcases r2 m hm with q | q
        · rw [p2] at q
          rcases List.mem_append.mp q with q | q
          · exact .inl q
          · rw [List.mem_singleton.mp q]; exact .inr List.mem_cons_self
        · exact .inr (List.mem_cons_of_mem _ q)
      · obtain ⟨a, b⟩ := r4 hc'
        exact ⟨by rw [a, p2, List.append_assoc]; rfl, b⟩
    · rw [if_neg hc] at es
      rw [es]
      have stay : ∀ xs : List Nat, leadT n xs st = st := fun xs => by
        induction xs with
        | nil => rfl
        | cons x xs ih =>
          show leadT n xs (if st.clash = none then putT n st x else st) = st
          rw [if_neg hc]
          exact ih
      rw [stay]
      exact ⟨t, fun m hm => .inl hm, ⟨[], (List.append_nil _).symm⟩, fun q => absurd q hc⟩
theorem lead_len (g : TGood F n) : ∀ (rest : List Nat) (st : TS), Trl F n st → (∀ l ∈ rest, l < 2 * n) → ((st.chosen ++ rest).map (· / 2)).Nodup → (st.clash = none → ∀ l ∈ st.chosen, l ∈ st.steps) →
    (leadT n rest st).chosen.length ≤ st.chosen.length + rest.length ∧ (leadT n rest st).starts.length ≤ st.starts.length + rest.length
  | [], st, t, _, _, h => ⟨Nat.le_refl _, Nat.le_refl _⟩
  | l :: rest, st, t, hl, nd, h => by
    have es : leadT n (l :: rest) st = leadT n rest (if st.clash = none then putT n st l else st) := rfl
    by_cases hc : st.clash = none
    · rw [if_pos hc] at es
      rw [es]
      have new : ∀ m ∈ st.chosen, m / 2 ≠ l / 2 := fun m hm => by
        rw [List.map_append] at nd
        exact (List.nodup_append.mp nd).2.2 _ (List.mem_map_of_mem hm) _ (List.mem_map_of_mem List.mem_cons_self)
      obtain ⟨p1, p2, p3, ⟨more, p4⟩, p5⟩ := putT_spec g t hc (hl l List.mem_cons_self) new
      obtain ⟨a, b⟩ := lead_len g rest (putT n st l) p1 (fun m hm => hl m (List.mem_cons_of_mem _ hm)) (by rw [p2, List.append_assoc]; exact nd) fun hc' m hm => by
        rw [p2] at hm
        rcases List.mem_append.mp hm with hm | hm
        · rw [p4]; exact List.mem_append_left _ (h hc m hm)
        · rw [List.mem_singleton.mp hm]; exact p5 hc'
      rw [p2, List.length_append] at a
      rw [p3, List.length_append] at b
      simp only [List.length_cons, List.length_nil] at a b ⊢
      omega
    · rw [if_neg hc] at es
      rw [es]
      have stay : ∀ xs : List Nat, leadT n xs st = st := fun xs => by
        induction xs with
        | nil => rfl
        | cons x xs ih =>
          show leadT n xs (if st.clash = none then putT n st x else st) = st
          rw [if_neg hc]
          exact ih
      rw [stay]
      exact ⟨Nat.le_add_right _ _, Nat.le_add_right _ _⟩
/-- a fresh trail, led -/
theorem led_spec (g : TGood F n) {given : List Nat} (hl : ∀ l ∈ given, l < 2 * n) (nd : (given.map (· / 2)).Nodup) :
    let s' := leadT n given (initF n F)
    Trl F n s' ∧ (∀ l ∈ s'.chosen, l ∈ given) ∧ (s'.clash = none → s'.chosen = given ∧ ∀ l ∈ given, l ∈ s'.steps) := by
  obtain ⟨t, e1, e2⟩ := init_spec g
  obtain ⟨r1, r2, r3, r4⟩ := lead_spec g given (initF n F) t hl (by rw [e1]; exact nd) fun _ l h => by rw [e1] at h; cases h
  refine ⟨r1, fun l h => (r2 l h).elim (fun z => by rw [e1] at z; cases z) id, fun hc => ?_⟩
  obtain ⟨a, b⟩ := r4 hc
  rw [e1, List.nil_append] at a
  exact ⟨a, fun l h => b l (by rw [a]; exact h)⟩
theorem filter_one {c : List Nat} {l : Nat} {p : Nat → Bool} (nd : c.Nodup) (hl : l ∈ c) (h1 : p l = true) (h2 : ∀ m ∈ c, m ≠ l → p m = false) : c.filter p = [l] := by
  induction c with
  | nil => cases hl
  | cons x r ih =>
    obtain ⟨nx, ndr⟩ := List.nodup_cons.mp nd
    by_cases e : x = l
    · subst e
      rw [List.filter_cons_of_pos h1]
      have : r.filter p = [] := List.filter_eq_nil_iff.mpr fun m hm => by rw [h2 m (List.mem_cons_of_mem _ hm) fun q => nx (q ▸ hm)]; exact Bool.false_ne_true
      rw [this]
    · rw [List.filter_cons_of_neg (by rw [h2 x List.mem_cons_self e]; exact Bool.false_ne_true)]
      refine ih ndr ?_ fun m hm => h2 m (List.mem_cons_of_mem _ hm)
      rcases List.mem_cons.mp hl with q | q
      · exact absurd q.symm e
      · exact q
theorem nodup_of_map {c : List Nat} (h : (c.map (· / 2)).Nodup) : c.Nodup := by
  induction c with
  | nil => exact List.nodup_nil
  | cons x r ih =>
    rw [List.map_cons] at h
    obtain ⟨a, b⟩ := List.nodup_cons.mp h
    exact List.nodup_cons.mpr ⟨fun m => a (List.mem_map_of_mem m), ih b⟩
theorem filter_none {c so : List Nat} (h : ∀ m ∈ c, flip m ∈ so) : c.filter (fun m => decide (flip m ∉ so)) = [] := List.filter_eq_nil_iff.mpr fun m hm z => of_decide_eq_true z (h m hm)
/-- what is told of a trail is right -/
theorem pairs_right (g : TGood F n) (t : Trl F n st) {given : List Nat} (nd : (given.map (· / 2)).Nodup) (hch : ∀ l ∈ st.chosen, l ∈ given) (hall : st.clash = none → ∀ l ∈ given, l ∈ st.steps) :
    ∀ (k : Nat) (so : List Nat), k ≤ st.steps.length → (∀ m ∈ st.steps.take k, m ∈ so) → (∀ m ∈ so, m ∈ given ∨ m ∈ st.steps.take k) → (∀ m ∈ given, m ∈ so) → (∀ m ∈ given, flip m ∉ st.steps.take k) →
      ∃ (ps : List (Option Nat × Option Nat)) (so' : List Nat), (∀ found, pairsGo st given found (st.steps.drop k) = found ++ ps) ∧ RightN F so ps so' (decide (st.clash ≠ none)) ∧ (st.clash = none → ∀ m, m ∈ so' ↔ m ∈ st.steps) := by
  have v := t.f.v
  have one2 : ∀ {l}, l ∈ given → flip l ∉ given := fun {l} h1 h2 => by
    obtain ⟨i, hi, e1⟩ := mem_gN h1
    obtain ⟨j, hj, e2⟩ := mem_gN h2
    have := gN_inj nd hi hj (by rw [e1, e2, flip_half])
    subst this
    rw [e1] at e2
    exact flip_ne l e2.symm
  have main : ∀ (m k : Nat) (so : List Nat), st.steps.length - k = m → k ≤ st.steps.length → (∀ x ∈ st.steps.take k, x ∈ so) → (∀ x ∈ so, x ∈ given ∨ x ∈ st.steps.take k) → (∀ x ∈ given, x ∈ so) → (∀ x ∈ given, flip x ∉ st.steps.take k) →
      ∃ (ps : List (Option Nat × Option Nat)) (so' : List Nat), (∀ found, pairsGo st given found (st.steps.drop k) = found ++ ps) ∧ RightN F so ps so' (decide (st.clash ≠ none)) ∧ (st.clash = none → ∀ x, x ∈ so' ↔ x ∈ st.steps) := by
    intro m
    induction m with
    | zero =>
      intro k so hm hk h1 h2 h3 h4
      have ek : k = st.steps.length := by omega
      rw [ek, List.drop_length]
      rw [ek, List.take_length] at h1 h2
      cases hc : st.clash with
      | none =>
        refine ⟨[], so, fun found => by rw [pairsGo, if_pos hc, List.append_nil], .nil so, fun _ x => ⟨fun hx => (h2 x hx).elim (hall hc x) id, h1 x⟩⟩
      | some i =>
        refine ⟨[(some i, none)], so, fun found => by rw [pairsGo, if_neg (by rw [hc]; exact fun z => nomatch z), hc], ?_, fun z => nomatch z⟩
        obtain ⟨a, b⟩ := v.cl i hc
        exact .dead a (filter_none fun x hx => (b x hx).elim (h1 _) fun q => h3 _ (hch _ q))
    | succ m ih =>
      intro k so hm hk h1 h2 h3 h4
      have hk' : k < st.steps.length := by omega
      have ed : st.steps.drop k = gN st.steps k :: st.steps.drop (k + 1) := by
        rw [List.drop_eq_getElem_cons hk', gN_elem hk']
      have et := take_succ_gN hk'
      have hin : gN st.steps k ∈ st.steps := gN_mem hk'
      obtain ⟨ra, rb⟩ := v.rs k hk'
      have hlt := v.slt _ hin
      rw [ed]
      by_cases c1 : flip (gN st.steps k) ∈ given
      · -- a given one is denied: a dead end
        have cz : st.clash ≠ none := fun q => v.one hin (hall q _ c1)
        have nz : gO st.reasons (gN st.steps k / 2) ≠ none := fun q => one2 (hch _ (ra q)) c1
        cases hr : gO st.reasons (gN st.steps k / 2) with
        | none => exact absurd hr nz
        | some i =>
          obtain ⟨a, b, c⟩ := rb i hr
          refine ⟨[(some i, none)], so, fun found => by rw [pairsGo, if_pos c1, hr], ?_, fun q => absurd q cz⟩
          rw [decide_eq_true cz]
          refine .dead a (filter_none fun x hx => ?_)
          by_cases q : x = gN st.steps k
          · rw [q]; exact h3 _ c1
          · exact h1 _ (c x hx q)
      · by_cases c2 : gN st.steps k ∈ given
        · obtain ⟨ps, so', q1, q2, q3⟩ := ih (k + 1) so (by omega) (by omega) (fun x hx => by
            rw [et] at hx
            rcases List.mem_append.mp hx with hx | hx
            · exact h1 x hx
            · rw [List.mem_singleton.mp hx]; exact h3 _ c2) (fun x hx => (h2 x hx).imp id fun z => by rw [et]; exact List.mem_append_left _ z) h3 (fun x hx z => by
            rw [et] at z
            rcases List.mem_append.mp z with z | z
            · exact h4 x hx z
            · exact c1 (by rw [← List.mem_singleton.mp z, flip_flip]; exact hx))
          exact ⟨ps, so', fun found => by rw [pairsGo, if_neg c1, if_pos c2]; exact q1 found, q2, q3⟩
        · have nz : gO st.reasons (gN st.steps k / 2) ≠ none := fun q => c2 (hch _ (ra q))
          cases hr : gO st.reasons (gN st.steps k / 2) with
          | none => exact absurd hr nz
          | some i =>
            obtain ⟨a, b, c⟩ := rb i hr
            have ns : gN st.steps k ∉ st.steps.take k := fun z => by
              have nd2 := nodup_of_map v.snd
              have e := List.take_append_drop k st.steps
              rw [ed] at e
              rw [← e] at nd2
              exact (List.nodup_append.mp nd2).2.2 _ z _ List.mem_cons_self rfl
            have nso : gN st.steps k ∉ so := fun z => (h2 _ z).elim c2 ns
            have fso : flip (gN st.steps k) ∉ so := fun z => (h2 _ z).elim c1 fun q => v.one hin (List.mem_of_mem_take q)
            obtain ⟨ps, so', q1, q2, q3⟩ := ih (k + 1) (so ++ [gN st.steps k]) (by omega) (by omega) (fun x hx => by
              rw [et] at hx
              rcases List.mem_append.mp hx with hx | hx
              · exact List.mem_append_left _ (h1 x hx)
              · exact List.mem_append_right _ hx) (fun x hx => by
              rw [et]
              rcases List.mem_append.mp hx with hx | hx
              · exact (h2 x hx).imp id fun z => List.mem_append_left _ z
              · exact .inr (List.mem_append_right _ hx)) (fun x hx => List.mem_append_left _ (h3 x hx)) (fun x hx z => by
              rw [et] at z
              rcases List.mem_append.mp z with z | z
              · exact h4 x hx z
              · exact c1 (by rw [← List.mem_singleton.mp z, flip_flip]; exact hx))
            refine ⟨(some i, some (gN st.steps k)) :: ps, so', fun found => ?_, ?_, q3⟩
            · rw [pairsGo, if_neg c1, if_neg c2, q1, hr, List.append_assoc]
              rfl
            · exact .lit a (filter_one (nodup_of_map (g.nd i a)) b (decide_eq_true fso) fun x hx hne => decide_eq_false fun z => z (h1 _ (c x hx hne))) nso q2
  intro k so hk h1 h2 h3 h4
  exact main _ k so rfl hk h1 h2 h3 h4
theorem pairs_spec (g : TGood F n) {given : List Nat} (hl : ∀ l ∈ given, l < 2 * n) (nd : (given.map (· / 2)).Nodup) :
    let s' := leadT n given (initF n F)
    ∃ so', RightN F given (pairsF s' given) so' (decide (s'.clash ≠ none)) ∧ (s'.clash = none → ∀ m, m ∈ so' ↔ m ∈ s'.steps) := by
  obtain ⟨t, h1, h2⟩ := led_spec g hl nd
  intro s'
  obtain ⟨ps, so', q1, q2, q3⟩ := pairs_right g t nd h1 (fun hc => (h2 hc).2) 0 given (Nat.zero_le _) (fun m hm => nomatch hm) (fun m hm => .inl hm) (fun m hm => hm) (fun m _ z => nomatch z)
  refine ⟨so', ?_, q3⟩
  have e : pairsF s' given = ps := by
    have z := q1 []
    rw [List.drop_zero, List.nil_append] at z
    exact z
  rw [e]
  exact q2
end
end K6
namespace K6
theorem pairsGo_mem {st : TS} {given : List Nat} : ∀ (xs : List Nat) (found : List (Option Nat × Option Nat)), ∀ p ∈ pairsGo st given found xs, p ∈ found ∨ ∀ l, p.2 = some l → l ∈ xs
  | [], found, p, h => by
    rw [pairsGo] at h
    split at h
    · exact .inl h
    · rcases List.mem_append.mp h with h | h
      · exact .inl h
      · rw [List.mem_singleton.mp h]
        exact .inr fun l e => nomatch e
  | x :: xs, found, p, h => by
    rw [pairsGo] at h
    split at h
    · rcases List.mem_append.mp h with h | h
      · exact .inl h
      · rw [List.mem_singleton.mp h]
        exact .inr fun l e => nomatch e
    · split at h
      · rcases pairsGo_mem xs found p h with z | z
        · exact .inl z
        · exact .inr fun l e => List.mem_cons_of_mem _ (z l e)
      · rcases pairsGo_mem xs _ p h with z | z
        · rcases List.mem_append.mp z with z | z
          · exact .inl z
          · rw [List.mem_singleton.mp z]
            refine .inr fun l e => ?_
            have e : some x = some l := e
            rw [← Option.some.inj e]
            exact List.mem_cons_self
        · exact .inr fun l e => List.mem_cons_of_mem _ (z l e)
theorem pairsF_mem {st : TS} {given : List Nat} {p : Option Nat × Option Nat} (h : p ∈ pairsF st given) {l : Nat} (e : p.2 = some l) : l ∈ st.steps := by
  rcases pairsGo_mem st.steps [] p h with z | z
  · cases z
  · exact z l e
theorem pairsGo_len {st : TS} {given : List Nat} : ∀ (xs : List Nat) (found : List (Option Nat × Option Nat)), (pairsGo st given found xs).length ≤ found.length + xs.length + 1
  | [], found => by
    rw [pairsGo]
    split
    · simp
    · rw [List.length_append]
      simp
  | x :: xs, found => by
    rw [pairsGo]
    split
    · rw [List.length_append]
      simp
    · split
      · have := pairsGo_len (st := st) (given := given) xs found
        simp
        omega
      · have := pairsGo_len (st := st) (given := given) xs (found ++ [(gO st.reasons (x / 2), some x)])
        rw [List.length_append] at this
        simp at this ⊢
        omega
theorem pairsF_len {F : List (List Nat)} {n : Nat} {st : TS} (v : TInv F n st) (given : List Nat) : (pairsF st given).length ≤ n + 1 := by
  have := pairsGo_len (st := st) (given := given) st.steps []
  have := v.few
  unfold pairsF
  simp at *
  omega
end K6
namespace K6
open PySem PySem.Spec PyProof.Rows L2 LamX NdefX EV
/-! ### a trail: what it is like, and where it stands -/
def nI (xs : List Nat) : List V := xs.map fun n => V.int (n : Nat)
def oI (xs : List (Option Nat)) : List V := xs.map fun o => match o with
  | none => V.non
  | some n => V.int (n : Nat)
def oV1 (o : Option Nat) : V := match o with
  | none => V.non
  | some n => V.int (n : Nat)
theorem oI_map (xs : List (Option Nat)) : oI xs = xs.map oV1 := rfl
theorem xor_one (l : Nat) : Builtin.bitXor (l : Int) 1 = (flip l : Nat) := by
  rw [bitXor_and, bitAnd_m1]
  unfold flip
  split <;> omega
/-- the addresses of a trail's lists -/
structure TAd where
  sd : Addr
  hd : Addr
  wt : Addr
  sh : Addr
  sp : Addr
  ch : Addr
  sta : Addr
  ly : Addr
  rs : Addr
  hs : List Addr
  ws : List Addr
def TAd.top (a : TAd) : List Addr := [a.sd, a.hd, a.wt, a.sh, a.sp, a.ch, a.sta, a.ly, a.rs]
def TAd.all (a : TAd) : List Addr := a.top ++ (a.hs ++ a.ws)
abbrev NsAt (H : Hp) : List Addr → List (List Nat) → Prop := Paired (fun p c => H p = some (.lst (nI c)))
structure TrF (C x : Addr) (H : Hp) (st : TS) (a : TAd) : Prop where
  ins : ∃ dx fs, H x = some (.ins C dx fs) ∧ fs.length ≤ 20 ∧ fs.lookup ("sides" : Str) = some (.ref a.sd) ∧ fs.lookup ("held" : Str) = some (.ref a.hd) ∧ fs.lookup ("watchers" : Str) = some (.ref a.wt) ∧ fs.lookup ("short" : Str) = some (.ref a.sh) ∧ fs.lookup ("steps" : Str) = some (.ref a.sp) ∧ fs.lookup ("followed" : Str) = some (.int (st.fol : Nat)) ∧
    fs.lookup ("chosen" : Str) = some (.ref a.ch) ∧ fs.lookup ("starts" : Str) = some (.ref a.sta) ∧ fs.lookup ("layers" : Str) = some (.ref a.ly) ∧ fs.lookup ("reasons" : Str) = some (.ref a.rs) ∧ fs.lookup ("clash" : Str) = some (oV1 st.clash) ∧ (∀ m : Str, (["watch", "set_so", "put", "lead", "follow_on", "look_again", "has_moved", "go_back", "pairs", "draw_from_nothing"] : List Str).contains m = true → fs.lookup m = none)
structure TrL (H : Hp) (st : TS) (a : TAd) : Prop where
  sd : H a.sd = some (.lst (nI st.sides))
  hd : H a.hd = some (.lst (a.hs.map V.ref))
  wt : H a.wt = some (.lst (a.ws.map V.ref))
  sh : H a.sh = some (.lst (nI st.short))
  sp : H a.sp = some (.lst (nI st.steps))
  ch : H a.ch = some (.lst (nI st.chosen))
  sta : H a.sta = some (.lst (nI st.starts))
  ly : H a.ly = some (.lst (nI st.layers))
  rs : H a.rs = some (.lst (oI st.reasons))
  hs : NsAt H a.hs st.held
  ws : NsAt H a.ws st.wat
  nd : a.all.Nodup
structure TrA (C x : Addr) (H : Hp) (st : TS) (a : TAd) : Prop where
  f : TrF C x H st a
  l : TrL H st a
/-- all but a trail's own objects stays; its further objects are new -/
structure Fr (x : Addr) (a a' : TAd) (H H' : Hp) : Prop where
  keep : ∀ b o, H b = some o → b ≠ x → b ∉ a.all → H' b = some o
  live : ∀ b o, H b = some o → ∃ o', H' b = some o'
  new : ∀ b ∈ a'.all, b ∈ a.all ∨ H b = none
theorem Fr.refl {x : Addr} {a : TAd} {H : Hp} : Fr x a a H H := ⟨fun _ _ e _ _ => e, fun _ o e => ⟨o, e⟩, fun _ h => .inl h⟩
theorem Fr.trans {x : Addr} {a b c : TAd} {H H1 H2 : Hp} (f : Fr x a b H H1) (g : Fr x b c H1 H2) : Fr x a c H H2 := by
  refine ⟨fun p o e n1 n2 => g.keep p o (f.keep p o e n1 n2) n1 fun m => ?_, fun p o e => ?_, fun p hp => ?_⟩
  · rcases f.new p m with h | h
    · exact n2 h
    · rw [e] at h; cases h
  · obtain ⟨o1, e1⟩ := f.live p o e
    exact g.live p o1 e1
  · rcases g.new p hp with h | h
    · exact f.new p h
    · by_cases q : p ∈ a.all
      · exact .inl q
      · refine .inr ?_
        cases e : H p with
        | none => rfl
        | some o =>
          obtain ⟨o1, e1⟩ := f.live p o e
          rw [e1] at h
          cases h
theorem Fr.same {x : Addr} {a : TAd} {H H' : Hp} (sm : Same H H') : Fr x a a H H' := ⟨fun b o e _ _ => sm b o e, fun b o e => ⟨o, sm b o e⟩, fun _ h => .inl h⟩
theorem Fr.put {x p : Addr} {a : TAd} {H : Hp} {o : HO} (hp : p ∈ a.all) : Fr x a a H (upd H p o) := by
  refine ⟨fun b o' e _ n => (upd_ne fun q => n (by rw [q]; exact hp)).trans e, fun b o' e => ?_, fun _ h => .inl h⟩
  by_cases q : b = p
  · exact ⟨o, by rw [q]; exact upd_same⟩
  · exact ⟨o', (upd_ne q).trans e⟩
theorem Fr.putx {x : Addr} {a : TAd} {H : Hp} {o : HO} : Fr x a a H (upd H x o) := by
  refine ⟨fun b o' e n _ => (upd_ne n).trans e, fun b o' e => ?_, fun _ h => .inl h⟩
  by_cases q : b = x
  · exact ⟨o, by rw [q]; exact upd_same⟩
  · exact ⟨o', (upd_ne q).trans e⟩
/-! ### the lists -/
theorem nI_len (xs : List Nat) : (nI xs).length = xs.length := List.length_map _
theorem nI_get {xs : List Nat} {i n : Nat} (h : xs[i]? = some n) : (nI xs)[i]? = some (.int (n : Nat)) := by
  unfold nI
  rw [List.getElem?_map, h]
  rfl
theorem nI_app (xs ys : List Nat) : nI (xs ++ ys) = nI xs ++ nI ys := List.map_append
theorem nI_set (xs : List Nat) (i n : Nat) : nI (xs.set i n) = (nI xs).set i (.int (n : Nat)) := List.map_set
theorem ixN_nat {n i : Nat} (h : i < n) : ixN n (i : Int) = some i := by
  unfold ixN
  rw [if_pos (by omega), if_pos (by omega)]
  rfl
theorem NsAt.get {H : Hp} : ∀ {ps : List Addr} {cs : List (List Nat)}, NsAt H ps cs → ∀ {i : Nat} {c : List Nat}, cs[i]? = some c → ∃ p, ps[i]? = some p ∧ H p = some (.lst (nI c))
  | _, _, .nil, i, c, h => by simp at h
  | _, _, .cons a _, 0, c, h => ⟨_, rfl, by simp at h; exact h ▸ a⟩
  | _, _, .cons _ q, i + 1, c, h => by simpa using NsAt.get q (by simpa using h)
theorem NsAt.put {H : Hp} {q : Addr} {o : HO} : ∀ {ps : List Addr} {cs : List (List Nat)}, NsAt H ps cs → q ∉ ps → NsAt (upd H q o) ps cs
  | _, _, .nil, _ => .nil
  | _, _, .cons a r, n => .cons ((upd_ne fun e => n (by rw [← e]; exact List.mem_cons_self)).trans a) (NsAt.put r fun m => n (List.mem_cons_of_mem _ m))
theorem NsAt.set {H : Hp} {q : Addr} {c' : List Nat} : ∀ {ps : List Addr} {cs : List (List Nat)} {i : Nat}, NsAt H ps cs → ps.Nodup → ps[i]? = some q → NsAt (upd H q (.lst (nI c'))) ps (cs.set i c')
  | _, _, i, .nil, _, h => by simp at h
  | p :: ps, c :: cs, 0, .cons a r, nd, h => by
    simp at h
    subst h
    exact .cons upd_same (NsAt.put r (List.nodup_cons.mp nd).1)
  | p :: ps, c :: cs, i + 1, .cons a r, nd, h => by
    have h2 : ps[i]? = some q := by simpa using h
    have ne : p ≠ q := fun e => (List.nodup_cons.mp nd).1 (e ▸ List.mem_of_getElem? h2)
    exact .cons ((upd_ne ne).trans a) (NsAt.set r (List.nodup_cons.mp nd).2 h2)
theorem NsAt.same {H H' : Hp} {ps : List Addr} {cs : List (List Nat)} (h : NsAt H ps cs) (sm : Same H H') : NsAt H' ps cs := Paired.mapP h fun _ _ e => sm _ _ e
theorem TAd.mem_top {a : TAd} {p : Addr} (h : p ∈ a.top) : p ∈ a.all := List.mem_append_left _ h
theorem TAd.mem_hs {a : TAd} {p : Addr} (h : p ∈ a.hs) : p ∈ a.all := List.mem_append_right _ (List.mem_append_left _ h)
theorem TAd.mem_ws {a : TAd} {p : Addr} (h : p ∈ a.ws) : p ∈ a.all := List.mem_append_right _ (List.mem_append_right _ h)
structure Apart (a : TAd) : Prop where
  top : a.top.Nodup
  hs : a.hs.Nodup
  ws : a.ws.Nodup
  th : ∀ p ∈ a.top, p ∉ a.hs
  tw : ∀ p ∈ a.top, p ∉ a.ws
  hw : ∀ p ∈ a.hs, p ∉ a.ws
theorem TrL.apart {H : Hp} {st : TS} {a : TAd} (t : TrL H st a) : Apart a := by
  have nd := t.nd
  unfold TAd.all at nd
  obtain ⟨n1, n2, n3⟩ := List.nodup_append.mp nd
  obtain ⟨m1, m2, m3⟩ := List.nodup_append.mp n2
  exact ⟨n1, m1, m2, fun p hp q => n3 p hp p (List.mem_append_left _ q) rfl, fun p hp q => n3 p hp p (List.mem_append_right _ q) rfl, fun p hp q => m3 p hp p q rfl⟩
theorem TrA.same {C x : Addr} {H H' : Hp} {st : TS} {a : TAd} (t : TrA C x H st a) (sm : Same H H') : TrA C x H' st a := by
  obtain ⟨dx, fs, h, r⟩ := t.f.ins
  exact ⟨⟨dx, fs, sm _ _ h, r⟩, ⟨sm _ _ t.l.sd, sm _ _ t.l.hd, sm _ _ t.l.wt, sm _ _ t.l.sh, sm _ _ t.l.sp, sm _ _ t.l.ch, sm _ _ t.l.sta, sm _ _ t.l.ly, sm _ _ t.l.rs, t.l.hs.same sm, t.l.ws.same sm, t.l.nd⟩⟩
theorem TrA.notx {C x p : Addr} {H : Hp} {st : TS} {a : TAd} (t : TrA C x H st a) (h : ∃ xs, H p = some (.lst xs)) : p ≠ x := by
  obtain ⟨dx, fs, hx, _⟩ := t.f.ins
  obtain ⟨xs, h⟩ := h
  exact ne_of h hx fun z => nomatch z
theorem paired_right' {H : Hp} : ∀ {ps : List Addr} {cs : List (List Nat)}, NsAt H ps cs → ∀ {p : Addr}, p ∈ ps → ∃ c, H p = some (.lst (nI c))
  | _, _, .nil, _, h => nomatch h
  | _, _, .cons a r, p, h => by
    rcases List.mem_cons.mp h with rfl | h
    · exact ⟨_, a⟩
    · exact paired_right' r h
theorem top_ne {a : TAd} (h : a.top.Nodup) : a.sd ≠ a.hd ∧ a.sd ≠ a.wt ∧ a.sd ≠ a.sh ∧ a.sd ≠ a.sp ∧ a.sd ≠ a.ch ∧ a.sd ≠ a.sta ∧ a.sd ≠ a.ly ∧ a.sd ≠ a.rs ∧ a.hd ≠ a.wt ∧ a.hd ≠ a.sh ∧ a.hd ≠ a.sp ∧ a.hd ≠ a.ch ∧ a.hd ≠ a.sta ∧ a.hd ≠ a.ly ∧ a.hd ≠ a.rs ∧ a.wt ≠ a.sh ∧ a.wt ≠ a.sp ∧ a.wt ≠ a.ch ∧ a.wt ≠ a.sta ∧ a.wt ≠ a.ly ∧ a.wt ≠ a.rs ∧ a.sh ≠ a.sp ∧ a.sh ≠ a.ch ∧ a.sh ≠ a.sta ∧ a.sh ≠ a.ly ∧ a.sh ≠ a.rs ∧ a.sp ≠ a.ch ∧ a.sp ≠ a.sta ∧ a.sp ≠ a.ly ∧ a.sp ≠ a.rs ∧ a.ch ≠ a.sta ∧ a.ch ≠ a.ly ∧ a.ch ≠ a.rs ∧ a.sta ≠ a.ly ∧ a.sta ≠ a.rs ∧ a.ly ≠ a.rs := by
  unfold TAd.top at h
  simp only [List.nodup_cons, List.mem_cons, List.not_mem_nil, or_false, not_or] at h
  obtain ⟨⟨h1, h2, h3, h4, h5, h6, h7, h8⟩, ⟨g1, g2, g3, g4, g5, g6, g7⟩, ⟨f1, f2, f3, f4, f5, f6⟩, ⟨e1, e2, e3, e4, e5⟩, ⟨d1, d2, d3, d4⟩, ⟨c1, c2, c3⟩, ⟨b1, b2⟩, a1, _⟩ := h
  exact ⟨h1, h2, h3, h4, h5, h6, h7, h8, g1, g2, g3, g4, g5, g6, g7, f1, f2, f3, f4, f5, f6, e1, e2, e3, e4, e5, d1, d2, d3, d4, c1, c2, c3, b1, b2, a1⟩
theorem TrA.sides {C x : Addr} {H : Hp} {st : TS} {a : TAd} {v : List Nat} (t : TrA C x H st a) : TrA C x (upd H a.sd (.lst (nI v))) { st with sides := v } a := by
  have ap := t.l.apart
  obtain ⟨n_sd_hd, n_sd_wt, n_sd_sh, n_sd_sp, n_sd_ch, n_sd_sta, n_sd_ly, n_sd_rs, n_hd_wt, n_hd_sh, n_hd_sp, n_hd_ch, n_hd_sta, n_hd_ly, n_hd_rs, n_wt_sh, n_wt_sp, n_wt_ch, n_wt_sta, n_wt_ly, n_wt_rs, n_sh_sp, n_sh_ch, n_sh_sta, n_sh_ly, n_sh_rs, n_sp_ch, n_sp_sta, n_sp_ly, n_sp_rs, n_ch_sta, n_ch_ly, n_ch_rs, n_sta_ly, n_sta_rs, n_ly_rs⟩ := top_ne ap.top
  have nx := t.notx ⟨_, t.l.sd⟩
  obtain ⟨dx, fs, h, r⟩ := t.f.ins
  exact ⟨⟨dx, fs, (upd_ne nx.symm).trans h, r⟩, ⟨upd_same, (upd_ne n_sd_hd.symm).trans t.l.hd, (upd_ne n_sd_wt.symm).trans t.l.wt, (upd_ne n_sd_sh.symm).trans t.l.sh, (upd_ne n_sd_sp.symm).trans t.l.sp, (upd_ne n_sd_ch.symm).trans t.l.ch, (upd_ne n_sd_sta.symm).trans t.l.sta, (upd_ne n_sd_ly.symm).trans t.l.ly, (upd_ne n_sd_rs.symm).trans t.l.rs, t.l.hs.put (ap.th _ (by unfold TAd.top; simp)), t.l.ws.put (ap.tw _ (by unfold TAd.top; simp)), t.l.nd⟩⟩
theorem TrA.steps {C x : Addr} {H : Hp} {st : TS} {a : TAd} {v : List Nat} (t : TrA C x H st a) : TrA C x (upd H a.sp (.lst (nI v))) { st with steps := v } a := by
  have ap := t.l.apart
  obtain ⟨n_sd_hd, n_sd_wt, n_sd_sh, n_sd_sp, n_sd_ch, n_sd_sta, n_sd_ly, n_sd_rs, n_hd_wt, n_hd_sh, n_hd_sp, n_hd_ch, n_hd_sta, n_hd_ly, n_hd_rs, n_wt_sh, n_wt_sp, n_wt_ch, n_wt_sta, n_wt_ly, n_wt_rs, n_sh_sp, n_sh_ch, n_sh_sta, n_sh_ly, n_sh_rs, n_sp_ch, n_sp_sta, n_sp_ly, n_sp_rs, n_ch_sta, n_ch_ly, n_ch_rs, n_sta_ly, n_sta_rs, n_ly_rs⟩ := top_ne ap.top
  have nx := t.notx ⟨_, t.l.sp⟩
  obtain ⟨dx, fs, h, r⟩ := t.f.ins
  exact ⟨⟨dx, fs, (upd_ne nx.symm).trans h, r⟩, ⟨(upd_ne n_sd_sp).trans t.l.sd, (upd_ne n_hd_sp).trans t.l.hd, (upd_ne n_wt_sp).trans t.l.wt, (upd_ne n_sh_sp).trans t.l.sh, upd_same, (upd_ne n_sp_ch.symm).trans t.l.ch, (upd_ne n_sp_sta.symm).trans t.l.sta, (upd_ne n_sp_ly.symm).trans t.l.ly, (upd_ne n_sp_rs.symm).trans t.l.rs, t.l.hs.put (ap.th _ (by unfold TAd.top; simp)), t.l.ws.put (ap.tw _ (by unfold TAd.top; simp)), t.l.nd⟩⟩
theorem TrA.chosen {C x : Addr} {H : Hp} {st : TS} {a : TAd} {v : List Nat} (t : TrA C x H st a) : TrA C x (upd H a.ch (.lst (nI v))) { st with chosen := v } a := by
  have ap := t.l.apart
  obtain ⟨n_sd_hd, n_sd_wt, n_sd_sh, n_sd_sp, n_sd_ch, n_sd_sta, n_sd_ly, n_sd_rs, n_hd_wt, n_hd_sh, n_hd_sp, n_hd_ch, n_hd_sta, n_hd_ly, n_hd_rs, n_wt_sh, n_wt_sp, n_wt_ch, n_wt_sta, n_wt_ly, n_wt_rs, n_sh_sp, n_sh_ch, n_sh_sta, n_sh_ly, n_sh_rs, n_sp_ch, n_sp_sta, n_sp_ly, n_sp_rs, n_ch_sta, n_ch_ly, n_ch_rs, n_sta_ly, n_sta_rs, n_ly_rs⟩ := top_ne ap.top
  have nx := t.notx ⟨_, t.l.ch⟩
  obtain ⟨dx, fs, h, r⟩ := t.f.ins
  exact ⟨⟨dx, fs, (upd_ne nx.symm).trans h, r⟩, ⟨(upd_ne n_sd_ch).trans t.l.sd, (upd_ne n_hd_ch).trans t.l.hd, (upd_ne n_wt_ch).trans t.l.wt, (upd_ne n_sh_ch).trans t.l.sh, (upd_ne n_sp_ch).trans t.l.sp, upd_same, (upd_ne n_ch_sta.symm).trans t.l.sta, (upd_ne n_ch_ly.symm).trans t.l.ly, (upd_ne n_ch_rs.symm).trans t.l.rs, t.l.hs.put (ap.th _ (by unfold TAd.top; simp)), t.l.ws.put (ap.tw _ (by unfold TAd.top; simp)), t.l.nd⟩⟩
theorem TrA.starts {C x : Addr} {H : Hp} {st : TS} {a : TAd} {v : List Nat} (t : TrA C x H st a) : TrA C x (upd H a.sta (.lst (nI v))) { st with starts := v } a := by
  have ap := t.l.apart
  obtain ⟨n_sd_hd, n_sd_wt, n_sd_sh, n_sd_sp, n_sd_ch, n_sd_sta, n_sd_ly, n_sd_rs, n_hd_wt, n_hd_sh, n_hd_sp, n_hd_ch, n_hd_sta, n_hd_ly, n_hd_rs, n_wt_sh, n_wt_sp, n_wt_ch, n_wt_sta, n_wt_ly, n_wt_rs, n_sh_sp, n_sh_ch, n_sh_sta, n_sh_ly, n_sh_rs, n_sp_ch, n_sp_sta, n_sp_ly, n_sp_rs, n_ch_sta, n_ch_ly, n_ch_rs, n_sta_ly, n_sta_rs, n_ly_rs⟩ := top_ne ap.top
  have nx := t.notx ⟨_, t.l.sta⟩
  obtain ⟨dx, fs, h, r⟩ := t.f.ins
  exact ⟨⟨dx, fs, (upd_ne nx.symm).trans h, r⟩, ⟨(upd_ne n_sd_sta).trans t.l.sd, (upd_ne n_hd_sta).trans t.l.hd, (upd_ne n_wt_sta).trans t.l.wt, (upd_ne n_sh_sta).trans t.l.sh, (upd_ne n_sp_sta).trans t.l.sp, (upd_ne n_ch_sta).trans t.l.ch, upd_same, (upd_ne n_sta_ly.symm).trans t.l.ly, (upd_ne n_sta_rs.symm).trans t.l.rs, t.l.hs.put (ap.th _ (by unfold TAd.top; simp)), t.l.ws.put (ap.tw _ (by unfold TAd.top; simp)), t.l.nd⟩⟩
theorem TrA.layers {C x : Addr} {H : Hp} {st : TS} {a : TAd} {v : List Nat} (t : TrA C x H st a) : TrA C x (upd H a.ly (.lst (nI v))) { st with layers := v } a := by
  have ap := t.l.apart
  obtain ⟨n_sd_hd, n_sd_wt, n_sd_sh, n_sd_sp, n_sd_ch, n_sd_sta, n_sd_ly, n_sd_rs, n_hd_wt, n_hd_sh, n_hd_sp, n_hd_ch, n_hd_sta, n_hd_ly, n_hd_rs, n_wt_sh, n_wt_sp, n_wt_ch, n_wt_sta, n_wt_ly, n_wt_rs, n_sh_sp, n_sh_ch, n_sh_sta, n_sh_ly, n_sh_rs, n_sp_ch, n_sp_sta, n_sp_ly, n_sp_rs, n_ch_sta, n_ch_ly, n_ch_rs, n_sta_ly, n_sta_rs, n_ly_rs⟩ := top_ne ap.top
  have nx := t.notx ⟨_, t.l.ly⟩
  obtain ⟨dx, fs, h, r⟩ := t.f.ins
  exact ⟨⟨dx, fs, (upd_ne nx.symm).trans h, r⟩, ⟨(upd_ne n_sd_ly).trans t.l.sd, (upd_ne n_hd_ly).trans t.l.hd, (upd_ne n_wt_ly).trans t.l.wt, (upd_ne n_sh_ly).trans t.l.sh, (upd_ne n_sp_ly).trans t.l.sp, (upd_ne n_ch_ly).trans t.l.ch, (upd_ne n_sta_ly).trans t.l.sta, upd_same, (upd_ne n_ly_rs.symm).trans t.l.rs, t.l.hs.put (ap.th _ (by unfold TAd.top; simp)), t.l.ws.put (ap.tw _ (by unfold TAd.top; simp)), t.l.nd⟩⟩
theorem TrA.reasons {C x : Addr} {H : Hp} {st : TS} {a : TAd} {v : List (Option Nat)} (t : TrA C x H st a) : TrA C x (upd H a.rs (.lst (oI v))) { st with reasons := v } a := by
  have ap := t.l.apart
  obtain ⟨n_sd_hd, n_sd_wt, n_sd_sh, n_sd_sp, n_sd_ch, n_sd_sta, n_sd_ly, n_sd_rs, n_hd_wt, n_hd_sh, n_hd_sp, n_hd_ch, n_hd_sta, n_hd_ly, n_hd_rs, n_wt_sh, n_wt_sp, n_wt_ch, n_wt_sta, n_wt_ly, n_wt_rs, n_sh_sp, n_sh_ch, n_sh_sta, n_sh_ly, n_sh_rs, n_sp_ch, n_sp_sta, n_sp_ly, n_sp_rs, n_ch_sta, n_ch_ly, n_ch_rs, n_sta_ly, n_sta_rs, n_ly_rs⟩ := top_ne ap.top
  have nx := t.notx ⟨_, t.l.rs⟩
  obtain ⟨dx, fs, h, r⟩ := t.f.ins
  exact ⟨⟨dx, fs, (upd_ne nx.symm).trans h, r⟩, ⟨(upd_ne n_sd_rs).trans t.l.sd, (upd_ne n_hd_rs).trans t.l.hd, (upd_ne n_wt_rs).trans t.l.wt, (upd_ne n_sh_rs).trans t.l.sh, (upd_ne n_sp_rs).trans t.l.sp, (upd_ne n_ch_rs).trans t.l.ch, (upd_ne n_sta_rs).trans t.l.sta, (upd_ne n_ly_rs).trans t.l.ly, upd_same, t.l.hs.put (ap.th _ (by unfold TAd.top; simp)), t.l.ws.put (ap.tw _ (by unfold TAd.top; simp)), t.l.nd⟩⟩
theorem TrA.heldAt {C x q : Addr} {H : Hp} {st : TS} {a : TAd} {i : Nat} {c : List Nat} (t : TrA C x H st a) (hi : a.hs[i]? = some q) (hq : ∃ xs, H q = some (.lst xs)) : TrA C x (upd H q (.lst (nI c))) { st with held := st.held.set i c } a := by
  have ap := t.l.apart
  have nx := t.notx hq
  have nt : ∀ p ∈ a.top, p ≠ q := fun p hp e => ap.th p hp (e ▸ List.mem_of_getElem? hi)
  obtain ⟨dx, fs, h, r⟩ := t.f.ins
  exact ⟨⟨dx, fs, (upd_ne nx.symm).trans h, r⟩, ⟨(upd_ne (nt _ (by unfold TAd.top; simp))).trans t.l.sd, (upd_ne (nt _ (by unfold TAd.top; simp))).trans t.l.hd, (upd_ne (nt _ (by unfold TAd.top; simp))).trans t.l.wt, (upd_ne (nt _ (by unfold TAd.top; simp))).trans t.l.sh, (upd_ne (nt _ (by unfold TAd.top; simp))).trans t.l.sp, (upd_ne (nt _ (by unfold TAd.top; simp))).trans t.l.ch, (upd_ne (nt _ (by unfold TAd.top; simp))).trans t.l.sta, (upd_ne (nt _ (by unfold TAd.top; simp))).trans t.l.ly, (upd_ne (nt _ (by unfold TAd.top; simp))).trans t.l.rs, t.l.hs.set ap.hs hi, t.l.ws.put (ap.hw _ (List.mem_of_getElem? hi)), t.l.nd⟩⟩
theorem TrA.watAt {C x q : Addr} {H : Hp} {st : TS} {a : TAd} {i : Nat} {c : List Nat} (t : TrA C x H st a) (hi : a.ws[i]? = some q) (hq : ∃ xs, H q = some (.lst xs)) : TrA C x (upd H q (.lst (nI c))) { st with wat := st.wat.set i c } a := by
  have ap := t.l.apart
  have nx := t.notx hq
  have nt : ∀ p ∈ a.top, p ≠ q := fun p hp e => ap.tw p hp (e ▸ List.mem_of_getElem? hi)
  obtain ⟨dx, fs, h, r⟩ := t.f.ins
  exact ⟨⟨dx, fs, (upd_ne nx.symm).trans h, r⟩, ⟨(upd_ne (nt _ (by unfold TAd.top; simp))).trans t.l.sd, (upd_ne (nt _ (by unfold TAd.top; simp))).trans t.l.hd, (upd_ne (nt _ (by unfold TAd.top; simp))).trans t.l.wt, (upd_ne (nt _ (by unfold TAd.top; simp))).trans t.l.sh, (upd_ne (nt _ (by unfold TAd.top; simp))).trans t.l.sp, (upd_ne (nt _ (by unfold TAd.top; simp))).trans t.l.ch, (upd_ne (nt _ (by unfold TAd.top; simp))).trans t.l.sta, (upd_ne (nt _ (by unfold TAd.top; simp))).trans t.l.ly, (upd_ne (nt _ (by unfold TAd.top; simp))).trans t.l.rs, t.l.hs.put (fun m => ap.hw _ m (List.mem_of_getElem? hi)), t.l.ws.set ap.ws hi, t.l.nd⟩⟩
theorem nodup_set {α : Type} {l : List α} {i : Nat} {q : α} (h : l.Nodup) (n : q ∉ l) : (l.set i q).Nodup := by
  induction l generalizing i with
  | nil => exact h
  | cons y r ih =>
    obtain ⟨h1, h2⟩ := List.nodup_cons.mp h
    cases i with
    | zero => exact List.nodup_cons.mpr ⟨fun m => n (List.mem_cons_of_mem _ m), h2⟩
    | succ i =>
      refine List.nodup_cons.mpr ⟨fun m => ?_, ih h2 fun m => n (List.mem_cons_of_mem _ m)⟩
      rcases List.mem_or_eq_of_mem_set m with m | m
      · exact h1 m
      · exact n (m ▸ List.mem_cons_self)
theorem NsAt.swap {H : Hp} {q : Addr} {c' : List Nat} (hq : H q = some (.lst (nI c'))) : ∀ {ps : List Addr} {cs : List (List Nat)} {i : Nat}, NsAt H ps cs → NsAt H (ps.set i q) (cs.set i c')
  | _, _, _, .nil => .nil
  | _, _, 0, .cons _ r => .cons hq r
  | _, _, i + 1, .cons a r => .cons a (NsAt.swap hq r)
theorem TrA.watNew {C x q : Addr} {H : Hp} {st : TS} {a : TAd} {i : Nat} {c : List Nat} (t : TrA C x H st a) (hq : H q = some (.lst (nI c))) (new : q ∉ a.all) : TrA C x (upd H a.wt (.lst ((a.ws.set i q).map V.ref))) { st with wat := st.wat.set i c } { a with ws := a.ws.set i q } := by
  have ap := t.l.apart
  obtain ⟨n_sd_hd, n_sd_wt, n_sd_sh, n_sd_sp, n_sd_ch, n_sd_sta, n_sd_ly, n_sd_rs, n_hd_wt, n_hd_sh, n_hd_sp, n_hd_ch, n_hd_sta, n_hd_ly, n_hd_rs, n_wt_sh, n_wt_sp, n_wt_ch, n_wt_sta, n_wt_ly, n_wt_rs, n_sh_sp, n_sh_ch, n_sh_sta, n_sh_ly, n_sh_rs, n_sp_ch, n_sp_sta, n_sp_ly, n_sp_rs, n_ch_sta, n_ch_ly, n_ch_rs, n_sta_ly, n_sta_rs, n_ly_rs⟩ := top_ne ap.top
  have nx := t.notx ⟨_, t.l.wt⟩
  have mw : a.wt ∈ a.top := by unfold TAd.top; simp
  have nq : q ≠ a.wt := fun e => new (e ▸ TAd.mem_top mw)
  obtain ⟨dx, fs, h, r⟩ := t.f.ins
  refine ⟨⟨dx, fs, (upd_ne nx.symm).trans h, r⟩, ⟨(upd_ne n_sd_wt).trans t.l.sd, (upd_ne n_hd_wt).trans t.l.hd, ?_, (upd_ne n_wt_sh.symm).trans t.l.sh, (upd_ne n_wt_sp.symm).trans t.l.sp, (upd_ne n_wt_ch.symm).trans t.l.ch, (upd_ne n_wt_sta.symm).trans t.l.sta, (upd_ne n_wt_ly.symm).trans t.l.ly, (upd_ne n_wt_rs.symm).trans t.l.rs, t.l.hs.put (ap.th _ mw), ?_, ?_⟩⟩
  · exact upd_same
  · exact NsAt.swap ((upd_ne nq).trans hq) (t.l.ws.put (ap.tw _ mw))
  · have nd := t.l.nd
    unfold TAd.all at nd ⊢
    obtain ⟨n1, n2, n3⟩ := List.nodup_append.mp nd
    obtain ⟨m1, m2, m3⟩ := List.nodup_append.mp n2
    refine List.nodup_append.mpr ⟨n1, List.nodup_append.mpr ⟨m1, nodup_set m2 (fun m => new (TAd.mem_ws m)), fun p hp r hr e => ?_⟩, fun p hp r hr e => ?_⟩
    · subst e
      rcases List.mem_or_eq_of_mem_set hr with hr | hr
      · exact m3 p hp p hr rfl
      · exact new (hr ▸ TAd.mem_hs hp)
    · subst e
      rcases List.mem_append.mp hr with hr | hr
      · exact n3 p hp p (List.mem_append_left _ hr) rfl
      · rcases List.mem_or_eq_of_mem_set hr with hr | hr
        · exact n3 p hp p (List.mem_append_right _ hr) rfl
        · exact new (hr ▸ TAd.mem_top hp)
theorem putF_len {f : Str} {v v0 : V} : ∀ {fs : List (Str × V)}, fs.lookup f = some v0 → (putF f v fs).length = fs.length
  | [], h => nomatch h
  | (k, x) :: r, h => by
    rw [show putF f v ((k, x) :: r) = (if k = f then (k, v) :: r else (k, x) :: putF f v r) from rfl]
    by_cases hk : k = f
    · rw [if_pos hk]
      rfl
    · rw [if_neg hk]
      have hb : (f == k) = false := beq_eq_false_iff_ne.mpr fun e => hk e.symm
      simp only [List.lookup, hb] at h
      rw [List.length_cons, List.length_cons, putF_len h]
theorem TrA.fol {C x dx : Addr} {fs : List (Str × V)} {H : Hp} {st : TS} {a : TAd} {n : Nat} (t : TrA C x H st a) (hx : H x = some (.ins C dx fs)) : TrA C x (upd H x (.ins C dx (putF "followed" (.int (n : Nat)) fs))) { st with fol := n } a := by
  obtain ⟨dx', fs', h, r0, r1, r2, r3, r4, r5, r6, r7, r8, r9, r10, r11, r12⟩ := t.f.ins
  rw [h] at hx
  injection hx with hx
  injection hx with _ e1 e2
  subst e1 e2
  have nl : ∀ {p : Addr} {xs : List V}, H p = some (.lst xs) → p ≠ x := fun h => t.notx ⟨_, h⟩
  refine ⟨⟨dx', _, upd_same, ?_, by rw [lookup_putF, if_neg (by decide +kernel)]; exact r1, by rw [lookup_putF, if_neg (by decide +kernel)]; exact r2, by rw [lookup_putF, if_neg (by decide +kernel)]; exact r3, by rw [lookup_putF, if_neg (by decide +kernel)]; exact r4, by rw [lookup_putF, if_neg (by decide +kernel)]; exact r5, by rw [lookup_putF, if_pos rfl], by rw [lookup_putF, if_neg (by decide +kernel)]; exact r7, by rw [lookup_putF, if_neg (by decide +kernel)]; exact r8, by rw [lookup_putF, if_neg (by decide +kernel)]; exact r9, by rw [lookup_putF, if_neg (by decide +kernel)]; exact r10, by rw [lookup_putF, if_neg (by decide +kernel)]; exact r11, fun m hm => ?_⟩, ⟨(upd_ne (nl t.l.sd)).trans t.l.sd, (upd_ne (nl t.l.hd)).trans t.l.hd, (upd_ne (nl t.l.wt)).trans t.l.wt, (upd_ne (nl t.l.sh)).trans t.l.sh, (upd_ne (nl t.l.sp)).trans t.l.sp, (upd_ne (nl t.l.ch)).trans t.l.ch, (upd_ne (nl t.l.sta)).trans t.l.sta, (upd_ne (nl t.l.ly)).trans t.l.ly, (upd_ne (nl t.l.rs)).trans t.l.rs, t.l.hs.put (fun m => ?_), t.l.ws.put (fun m => ?_), t.l.nd⟩⟩
  · rw [putF_len r6]
    exact r0
  · have e : m ≠ ("followed" : Str) := fun e => by rw [e] at hm; revert hm; decide +kernel
    rw [lookup_putF, if_neg e]
    exact r12 m hm
  · obtain ⟨c, h2⟩ := paired_right' t.l.hs m
    exact nl h2 rfl
  · obtain ⟨c, h2⟩ := paired_right' t.l.ws m
    exact nl h2 rfl
theorem TrA.clash {C x dx : Addr} {fs : List (Str × V)} {H : Hp} {st : TS} {a : TAd} {n : Option Nat} (t : TrA C x H st a) (hx : H x = some (.ins C dx fs)) : TrA C x (upd H x (.ins C dx (putF "clash" (oV1 n) fs))) { st with clash := n } a := by
  obtain ⟨dx', fs', h, r0, r1, r2, r3, r4, r5, r6, r7, r8, r9, r10, r11, r12⟩ := t.f.ins
  rw [h] at hx
  injection hx with hx
  injection hx with _ e1 e2
  subst e1 e2
  have nl : ∀ {p : Addr} {xs : List V}, H p = some (.lst xs) → p ≠ x := fun h => t.notx ⟨_, h⟩
  refine ⟨⟨dx', _, upd_same, ?_, by rw [lookup_putF, if_neg (by decide +kernel)]; exact r1, by rw [lookup_putF, if_neg (by decide +kernel)]; exact r2, by rw [lookup_putF, if_neg (by decide +kernel)]; exact r3, by rw [lookup_putF, if_neg (by decide +kernel)]; exact r4, by rw [lookup_putF, if_neg (by decide +kernel)]; exact r5, by rw [lookup_putF, if_neg (by decide +kernel)]; exact r6, by rw [lookup_putF, if_neg (by decide +kernel)]; exact r7, by rw [lookup_putF, if_neg (by decide +kernel)]; exact r8, by rw [lookup_putF, if_neg (by decide +kernel)]; exact r9, by rw [lookup_putF, if_neg (by decide +kernel)]; exact r10, by rw [lookup_putF, if_pos rfl], fun m hm => ?_⟩, ⟨(upd_ne (nl t.l.sd)).trans t.l.sd, (upd_ne (nl t.l.hd)).trans t.l.hd, (upd_ne (nl t.l.wt)).trans t.l.wt, (upd_ne (nl t.l.sh)).trans t.l.sh, (upd_ne (nl t.l.sp)).trans t.l.sp, (upd_ne (nl t.l.ch)).trans t.l.ch, (upd_ne (nl t.l.sta)).trans t.l.sta, (upd_ne (nl t.l.ly)).trans t.l.ly, (upd_ne (nl t.l.rs)).trans t.l.rs, t.l.hs.put (fun m => ?_), t.l.ws.put (fun m => ?_), t.l.nd⟩⟩
  · rw [putF_len r11]
    exact r0
  · have e : m ≠ ("clash" : Str) := fun e => by rw [e] at hm; revert hm; decide +kernel
    rw [lookup_putF, if_neg e]
    exact r12 m hm
  · obtain ⟨c, h2⟩ := paired_right' t.l.hs m
    exact nl h2 rfl
  · obtain ⟨c, h2⟩ := paired_right' t.l.ws m
    exact nl h2 rfl
end K6
namespace K6
open PySem PySem.Spec PyProof.Rows L2 LamX NdefX EV
/-! ### a trail's methods: watch, set_so, has_moved -/
abbrev sTInit : Stmt := inClass (top 26) 0
abbrev sNothing : Stmt := inClass (top 26) 1
abbrev sWatch : Stmt := inClass (top 26) 2
abbrev sSetSo : Stmt := inClass (top 26) 3
abbrev sPut : Stmt := inClass (top 26) 4
abbrev sLead : Stmt := inClass (top 26) 5
abbrev sFollowOn : Stmt := inClass (top 26) 6
abbrev sLook : Stmt := inClass (top 26) 7
abbrev sMoved : Stmt := inClass (top 26) 8
abbrev sGoBack : Stmt := inClass (top 26) 9
abbrev sPairs : Stmt := inClass (top 26) 10
structure TTxt (K : PySem.W.Frag) (mg : Str → Option Value) (C : Addr) : Prop where
  cl : Cls K C
  sd : NoAttr K C "sides"
  hd : NoAttr K C "held"
  wt : NoAttr K C "watchers"
  sh : NoAttr K C "short"
  sp : NoAttr K C "steps"
  fo : NoAttr K C "followed"
  ch : NoAttr K C "chosen"
  sta : NoAttr K C "starts"
  ly : NoAttr K C "layers"
  rs : NoAttr K C "reasons"
  cz : NoAttr K C "clash"
  unset : ∃ t, mg "UNSET" = some (.int 0 t)
  so : ∃ t, mg "SO" = some (.int 1 t)
  denied : ∃ t, mg "DENIED" = some (.int 2 t)
  len : mg "len" = none
  list : mg "list" = none
  range : mg "range" = none
  enum : mg "enumerate" = none
/-- a trail's fields -/
structure TrFs (fs : List (Str × V)) (st : TS) (a : TAd) : Prop where
  len : fs.length ≤ 20
  sd : fs.lookup ("sides" : Str) = some (.ref a.sd)
  hd : fs.lookup ("held" : Str) = some (.ref a.hd)
  wt : fs.lookup ("watchers" : Str) = some (.ref a.wt)
  sh : fs.lookup ("short" : Str) = some (.ref a.sh)
  sp : fs.lookup ("steps" : Str) = some (.ref a.sp)
  fo : fs.lookup ("followed" : Str) = some (.int (st.fol : Nat))
  ch : fs.lookup ("chosen" : Str) = some (.ref a.ch)
  sta : fs.lookup ("starts" : Str) = some (.ref a.sta)
  ly : fs.lookup ("layers" : Str) = some (.ref a.ly)
  rs : fs.lookup ("reasons" : Str) = some (.ref a.rs)
  cz : fs.lookup ("clash" : Str) = some (oV1 st.clash)
  me : ∀ m : Str, (["watch", "set_so", "put", "lead", "follow_on", "look_again", "has_moved", "go_back", "pairs", "draw_from_nothing"] : List Str).contains m = true → fs.lookup m = none
section
variable {K : PySem.W.Frag} {mg : Str → Option Value} {C x : Addr} {H : Hp} {st : TS} {a : TAd} {σ : L2.St} {Q : VK} {j : Nat}
theorem TrA.at_ (t : TrA C x H st a) : ∃ dx fs, H x = some (.ins C dx fs) ∧ TrFs fs st a := by
  obtain ⟨dx, fs, hx, h0, h1, h2, h3, h4, h5, h6, h7, h8, h9, h10, h11, h12⟩ := t.f.ins
  exact ⟨dx, fs, hx, ⟨h0, h1, h2, h3, h4, h5, h6, h7, h8, h9, h10, h11, h12⟩⟩
theorem at_nat {xs : List Nat} {i : Nat} (hi : i < xs.length) : atI (nI xs) (i : Nat) = some (.int (gN xs i : Nat)) := by
  unfold atI
  rw [nI_len, ixN_nat hi]
  exact nI_get (gN_get hi)
theorem oI_len (xs : List (Option Nat)) : (oI xs).length = xs.length := List.length_map _
theorem at_opt {xs : List (Option Nat)} {i : Nat} (hi : i < xs.length) : atI (oI xs) (i : Nat) = some (oV1 (gO xs i)) := by
  unfold atI
  rw [oI_len, ixN_nat hi, oI_map]
  show (xs.map oV1)[i]? = _
  rw [List.getElem?_map]
  unfold gO
  rw [List.getD_eq_getElem?_getD, List.getElem?_eq_getElem hi]
  rfl
theorem at_ref {q : Addr} {ps : List Addr} {i : Nat} (hi : ps[i]? = some q) : atI (ps.map V.ref) (i : Nat) = some (.ref q) := by
  have h := (List.getElem?_eq_some_iff.mp hi).1
  unfold atI
  rw [List.length_map, ixN_nat h]
  show (ps.map V.ref)[i]? = _
  rw [List.getElem?_map, hi]
  rfl
theorem tyL {p : Addr} {xs : List V} (h : H p = some (.lst xs)) : tyV K "list" (.ref p) H := .inl ⟨rfl, _, SqL.of h⟩
theorem TrA.held_ (t : TrA C x H st a) {i : Nat} (hi : i < st.held.length) : ∃ q, a.hs[i]? = some q ∧ H q = some (.lst (nI (gL st.held i))) :=
  t.l.hs.get (by unfold gL; rw [List.getD_eq_getElem?_getD, List.getElem?_eq_getElem hi]; rfl)
theorem TrA.wat_ (t : TrA C x H st a) {i : Nat} (hi : i < st.wat.length) : ∃ q, a.ws[i]? = some q ∧ H q = some (.lst (nI (gL st.wat i))) :=
  t.l.ws.get (by unfold gL; rw [List.getD_eq_getElem?_getD, List.getElem?_eq_getElem hi]; rfl)
end
theorem nI_snoc (xs : List Nat) (n : Nat) : nI xs ++ [V.int (n : Nat)] = nI (xs ++ [n]) := by rw [nI_app]; rfl
theorem size_big : 100000 ≤ sizeLine := by rw [sizeLine_eq]; decide
/-- a clause is put among those that watch -/
theorem TrA.push {C x q : Addr} {H : Hp} {st : TS} {a : TAd} {l i : Nat} (t : TrA C x H st a) (hq : a.ws[l]? = some q) (hw : H q = some (.lst (nI (gL st.wat l)))) : TrA C x (upd H q (.lst (nI (gL st.wat l) ++ [.int (i : Nat)]))) { st with wat := pushW st.wat l i } a := by
  rw [nI_snoc]
  exact t.watAt hq ⟨_, hw⟩
theorem mem_ws {a : TAd} {l : Nat} {q : Addr} (h : a.ws[l]? = some q) : q ∈ a.all := TAd.mem_ws (List.mem_of_getElem? h)
theorem mem_hs {a : TAd} {l : Nat} {q : Addr} (h : a.hs[l]? = some q) : q ∈ a.all := TAd.mem_hs (List.mem_of_getElem? h)
def spWatch (C : Addr) : Sp := fun vs H Q _ => ∃ (x : Addr) (i : Nat) (st : TS) (a : TAd), vs = [.ref x, .int (i : Nat)] ∧ TrA C x H st a ∧ i < st.held.length ∧ 2 ≤ (gL st.held i).length ∧ gN (gL st.held i) 0 < st.wat.length ∧ gN (gL st.held i) 1 < st.wat.length ∧ (∀ l, (gL st.wat l).length ≤ 1000) ∧
  ∀ H', TrA C x H' (watchF st i) a → Fr x a a H H' → Q .non H'
section
variable {P : Program} {w : World} {K : PySem.W.Frag} {mg : Str → Option Value} {base : Heap} {f C : Addr} {fd : FuncData}
theorem scWatch : FnScope ["self", "index"] ["self", "index"] (defScope sWatch) := ⟨rfl, rfl, rfl, by decide +kernel, rfl, by decide +kernel, by decide +kernel⟩
theorem ok_watch (F : Fun K "watch" "Trail.watch" sWatch f fd) (T : TTxt K mg C) : FnOk P w K mg base CX0 1 f fd ["self", "index"] (spWatch C) := by
  refine F.ok scWatch (fun vs H Q E h => ?_) (fun cdv A outer s H vs Q E hr h => ?_)
  · obtain ⟨x, i, st, a, rfl, _⟩ := h
    rfl
  · obtain ⟨x, i, st, a, rfl, t, hi, h2, h0, h1, hw, k⟩ := h
    refine ⟨_, pss_cons (ps_expr (pe_bm PySem.F.plainAttrs_list PySem.F.slot_list_append PySem.F.type_list_append mt_append (pe_ix ix_list (pe_fld (pv 0) rfl) (pe_ix ix_list (pe_ix ix_list (pe_fld (pv 0) rfl) (pv 1) (fun _ _ => rfl)) pe_int (fun _ _ => rfl)) (fun _ _ => rfl)) (pa_cons (pv 1) pa_nil)))
      (pss_one (ps_expr (pe_bm PySem.F.plainAttrs_list PySem.F.slot_list_append PySem.F.type_list_append mt_append (pe_ix ix_list (pe_fld (pv 0) rfl) (pe_ix ix_list (pe_ix ix_list (pe_fld (pv 0) rfl) (pv 1) (fun _ _ => rfl)) pe_int (fun _ _ => rfl)) (fun _ _ => rfl)) (pa_cons (pv 1) pa_nil)))), ?_⟩
    obtain ⟨q, hq, hqc⟩ := t.held_ hi
    obtain ⟨p, hp, hpw⟩ := t.wat_ h0
    have sb := size_big
    obtain ⟨dx, fs, hx, L⟩ := t.at_
    refine ⟨_, rfl, x, C, dx, fs, _, rfl, hx, T.cl, T.wt, L.wt, _, rfl, x, C, dx, fs, _, rfl, hx, T.cl, T.hd, L.hd, _, rfl, a.hd, _, _, _, rfl, rfl, SqL.of t.l.hd, at_ref hq, q, _, 0, _, rfl, rfl, SqL.of hqc, at_nat (i := 0) (by omega), a.wt, _, _, _, rfl, rfl, SqL.of t.l.wt, at_ref hp, tyL hpw, _, rfl, p, _, _, rfl, rfl, hpw, by rw [nI_len]; have := hw (gN (gL st.held i) 0); omega, ?_⟩
    have t1 := t.push (i := i) hp hpw
    have f1 : Fr x a a H (upd H p (.lst (nI (gL st.wat (gN (gL st.held i) 0)) ++ [.int (i : Nat)]))) := Fr.put (mem_ws hp)
    generalize upd H p (.lst (nI (gL st.wat (gN (gL st.held i) 0)) ++ [.int (i : Nat)])) = H1 at *
    obtain ⟨q', hq', hqc'⟩ := t1.held_ hi
    obtain ⟨p', hp', hpw'⟩ := t1.wat_ (i := gN (gL st.held i) 1) (by show _ < (pushW _ _ _).length; rw [push_len]; exact h1)
    obtain ⟨dx, fs, hx, L⟩ := t1.at_
    refine ⟨_, rfl, x, C, dx, fs, _, rfl, hx, T.cl, T.wt, L.wt, _, rfl, x, C, dx, fs, _, rfl, hx, T.cl, T.hd, L.hd, _, rfl, a.hd, _, _, _, rfl, rfl, SqL.of t1.l.hd, at_ref hq', q', _, 1, _, rfl, rfl, SqL.of hqc', at_nat (i := 1) (by show 1 < (gL st.held i).length; omega), a.wt, _, _, _, rfl, rfl, SqL.of t1.l.wt, at_ref hp', tyL hpw', _, rfl, p', _, _, rfl, rfl, hpw', ?_, ?_⟩
    · rw [nI_len]
      show (gL (pushW st.wat _ i) _).length < sizeLine
      rw [push_get h0]
      have := hw (gN (gL st.held i) 0)
      have := hw (gN (gL st.held i) 1)
      split
      · rw [List.length_append, List.length_singleton]; omega
      · omega
    · exact k _ (t1.push hp' hpw') (f1.trans (Fr.put (mem_ws hp')))
end
end K6
namespace K6
open PySem PySem.Spec PyProof.Rows L2 LamX NdefX EV
def spSetSo (C : Addr) : Sp := fun vs H Q _ => ∃ (x : Addr) (l : Nat) (r : Option Nat) (st : TS) (a : TAd), vs = [.ref x, .int (l : Nat), oV1 r] ∧ TrA C x H st a ∧ l < st.sides.length ∧ flip l < st.sides.length ∧ l / 2 < st.layers.length ∧ l / 2 < st.reasons.length ∧ st.steps.length ≤ 1000 ∧
  ∀ H', TrA C x H' (setSoF st l r) a → Fr x a a H H' → Q .non H'
def spMovedT (C : Addr) : Sp := fun vs H Q _ => ∃ (x : Addr) (i : Nat) (st : TS) (a : TAd), vs = [.ref x, .int (i : Nat)] ∧ TrA C x H st a ∧ i < st.held.length ∧ 2 ≤ (gL st.held i).length ∧ (gL st.held i).length ≤ 1000 ∧ (∀ l ∈ gL st.held i, l < st.sides.length ∧ l < st.wat.length) ∧ (∀ l, (gL st.wat l).length ≤ 1000) ∧
  ((movedF st i = none → ∀ H', TrA C x H' st a → Fr x a a H H' → Q (.bl false) H') ∧ ∀ s2, movedF st i = some s2 → ∀ H', TrA C x H' s2 a → Fr x a a H H' → Q (.bl true) H')
section
variable {P : Program} {w : World} {K : PySem.W.Frag} {mg : Str → Option Value} {base : Heap} {f C : Addr} {fd : FuncData}
theorem scSetSo : FnScope ["self", "literal", "reason"] ["self", "literal", "reason"] (defScope sSetSo) := ⟨rfl, rfl, rfl, by decide +kernel, rfl, by decide +kernel, by decide +kernel⟩
theorem nI_put (xs : List Nat) (i n : Nat) : (nI xs).set i (.int (n : Nat)) = nI (xs.set i n) := (nI_set xs i n).symm
theorem oI_put (xs : List (Option Nat)) (i : Nat) (o : Option Nat) : (oI xs).set i (oV1 o) = oI (xs.set i o) := by rw [oI_map, oI_map, List.map_set]
theorem ok_setSo (F : Fun K "set_so" "Trail.set_so" sSetSo f fd) (T : TTxt K mg C) : FnOk P w K mg base CX0 1 f fd ["self", "literal", "reason"] (spSetSo C) := by
  obtain ⟨to, hso⟩ := T.so
  obtain ⟨td, hde⟩ := T.denied
  refine F.ok scSetSo (fun vs H Q E h => ?_) (fun cdv A outer s H vs Q E hr h => ?_)
  · obtain ⟨x, l, r, st, a, rfl, _⟩ := h
    rfl
  · obtain ⟨x, l, r, st, a, rfl, t, h1, h2, h3, h4, h5, k⟩ := h
    refine ⟨_, pss_cons (ps_asg (pe_glob (v := .int 1) (by rfl) hso ⟨_, rfl⟩) (pg_sub (pe_fld (pv 0) rfl) (pv 1) set_list))
      (pss_cons (ps_asg (pe_glob (v := .int 2) (by rfl) hde ⟨_, rfl⟩) (pg_sub (pe_fld (pv 0) rfl) (pe_op op_xor (pv 1) pe_int) set_list))
      (pss_cons (ps_asg (pe_callB call_len (by rfl) T.len PySem.boot_len (pa_cons (pe_fld (pv 0) rfl) pa_nil)) (pg_sub (pe_fld (pv 0) rfl) (pe_op op_fdiv (pv 1) pe_int) set_list))
      (pss_cons (ps_asg (pv 2) (pg_sub (pe_fld (pv 0) rfl) (pe_op op_fdiv (pv 1) pe_int) set_list))
      (pss_one (ps_expr (pe_bm PySem.F.plainAttrs_list PySem.F.slot_list_append PySem.F.type_list_append mt_append (pe_fld (pv 0) rfl) (pa_cons (pv 1) pa_nil))))))), ?_⟩
    obtain ⟨dx, fs, hx, L⟩ := t.at_
    refine ⟨_, rfl, x, C, dx, fs, _, rfl, hx, T.cl, T.sd, L.sd, _, rfl, a.sd, _, _, l, rfl, rfl, t.l.sd, by rw [nI_len]; exact ixN_nat h1, ?_⟩
    rw [show (nI st.sides).set l (.int 1) = nI (st.sides.set l 1) from nI_put _ _ 1]
    have t1 := t.sides (v := st.sides.set l 1)
    have f1 : Fr x a a H (upd H a.sd (.lst (nI (st.sides.set l 1)))) := Fr.put (TAd.mem_top (by unfold TAd.top; simp))
    generalize upd H a.sd (.lst (nI (st.sides.set l 1))) = H1 at *
    obtain ⟨dx, fs, hx, L⟩ := t1.at_
    refine ⟨_, rfl, x, C, dx, fs, _, rfl, hx, T.cl, T.sd, L.sd, _, rfl, _, _, rfl, rfl, a.sd, _, _, flip l, rfl, rfl, t1.l.sd, by rw [nI_len, xor_one]; exact ixN_nat (by rw [List.length_set]; exact h2), ?_⟩
    rw [show (nI (st.sides.set l 1)).set (flip l) (.int 2) = nI ((st.sides.set l 1).set (flip l) 2) from nI_put _ _ 2]
    have t2 := t1.sides (v := (st.sides.set l 1).set (flip l) 2)
    have f2 : Fr x a a H1 (upd H1 a.sd (.lst (nI ((st.sides.set l 1).set (flip l) 2)))) := Fr.put (TAd.mem_top (by unfold TAd.top; simp))
    generalize upd H1 a.sd (.lst (nI ((st.sides.set l 1).set (flip l) 2))) = H2 at *
    obtain ⟨dx, fs, hx, L⟩ := t2.at_
    have half : ((l : Nat) : Int) / 2 = ((l / 2 : Nat) : Int) := by omega
    refine ⟨_, rfl, x, C, dx, fs, _, rfl, hx, T.cl, T.sta, L.sta, _, _, rfl, .inl ⟨_, SqL.of t2.l.sta, rfl⟩, _, rfl, x, C, dx, fs, _, rfl, hx, T.cl, T.ly, L.ly, _, rfl, _, _, rfl, rfl, by unfold CDiv; decide, a.ly, _, _, l / 2, rfl, rfl, t2.l.ly, by rw [nI_len, half]; exact ixN_nat h3, ?_⟩
    rw [nI_len, nI_put]
    have t3 := t2.layers (v := st.layers.set (l / 2) st.starts.length)
    have f3 : Fr x a a H2 (upd H2 a.ly (.lst (nI (st.layers.set (l / 2) st.starts.length)))) := Fr.put (TAd.mem_top (by unfold TAd.top; simp))
    generalize upd H2 a.ly (.lst (nI (st.layers.set (l / 2) st.starts.length))) = H3 at *
    obtain ⟨dx, fs, hx, L⟩ := t3.at_
    refine ⟨_, rfl, _, rfl, x, C, dx, fs, _, rfl, hx, T.cl, T.rs, L.rs, _, rfl, _, _, rfl, rfl, by unfold CDiv; decide, a.rs, _, _, l / 2, rfl, rfl, t3.l.rs, by rw [oI_len, half]; exact ixN_nat h4, ?_⟩
    rw [oI_put]
    have t4 := t3.reasons (v := st.reasons.set (l / 2) r)
    have f4 : Fr x a a H3 (upd H3 a.rs (.lst (oI (st.reasons.set (l / 2) r)))) := Fr.put (TAd.mem_top (by unfold TAd.top; simp))
    generalize upd H3 a.rs (.lst (oI (st.reasons.set (l / 2) r))) = H4 at *
    obtain ⟨dx, fs, hx, L⟩ := t4.at_
    have sb := size_big
    refine ⟨_, rfl, x, C, dx, fs, _, rfl, hx, T.cl, T.sp, L.sp, tyL t4.l.sp, _, rfl, a.sp, _, _, rfl, rfl, t4.l.sp, by rw [nI_len]; show st.steps.length < _; omega, ?_⟩
    rw [nI_snoc]
    have t5 := t4.steps (v := st.steps ++ [l])
    exact k _ t5 ((((f1.trans f2).trans f3).trans f4).trans (Fr.put (TAd.mem_top (by unfold TAd.top; simp))))
abbrev nMoved : List Str := ["self", "index", "clause", "at"]
theorem scMoved : FnScope nMoved ["self", "index"] (defScope sMoved) := ⟨rfl, rfl, rfl, by decide +kernel, rfl, by decide +kernel, by decide +kernel⟩
theorem scan_go {sides c : List Nat} {k : Nat} (h : k < c.length ∧ gN sides (gN c k) = 2) : scanF sides c k = scanF sides c (k + 1) := by
  rw [scanF, if_pos h]
theorem scan_end {sides c : List Nat} {k : Nat} (h : ¬ (k < c.length ∧ gN sides (gN c k) = 2)) : scanF sides c k = k := by
  rw [scanF, if_neg h]
theorem ok_moved (F : Fun K "has_moved" "Trail.has_moved" sMoved f fd) (T : TTxt K mg C) : FnOk P w K mg base CX0 1 f fd ["self", "index"] (spMovedT C) := by
  obtain ⟨td, hde⟩ := T.denied
  refine F.ok scMoved (fun vs H Q E h => ?_) (fun cdv A outer s H vs Q E hr h => ?_)
  · obtain ⟨x, i, st, a, rfl, _⟩ := h
    rfl
  · obtain ⟨x, i, st, a, rfl, t, hi, h2, h1000, hlt, hw, kn, ks⟩ := h
    refine ⟨_, pss_cons (ps_set (i := 2) scMoved.nd rfl (.inl rfl) (pe_ix ix_list (pe_fld (pv 0) rfl) (pv 1) (fun _ _ => rfl)))
      (pss_cons (ps_set (i := 3) scMoved.nd rfl (.inl rfl) pe_int)
      (pss_cons (ps_while PassesOwn.never (PW.pt (pw_and (pt_cmpR op_lt (pv 3) (pe_callB call_len (by rfl) T.len PySem.boot_len (pa_cons (pv 2) pa_nil)) (nomark _)) (pw_and1 (pt_cmpR op_eq (pe_ix ix_list (pe_fld (pv 0) rfl) (pe_ix ix_list (pv 2) (pv 3) (fun _ _ => rfl)) (fun _ _ => rfl)) (pe_glob (v := .int 2) (by rfl) hde ⟨_, rfl⟩) (nomark _)))))
        (pss_one (ps_set (i := 3) scMoved.nd rfl (.inl rfl) (pe_op op_add (pv 3) pe_int))))
      (pss_cons (ps_if (pt_cmpR op_ge (pv 3) (pe_callB call_len (by rfl) T.len PySem.boot_len (pa_cons (pv 2) pa_nil)) (nomark _)) (pss_one (ps_ret pe_bl)) pss_nil)
      (pss_cons (ps_asg (pe_tup (pa_cons (pe_ix ix_list (pv 2) (pv 3) (fun _ _ => rfl)) (pa_cons (pe_ix ix_list (pv 2) pe_int (fun _ _ => rfl)) pa_nil)))
          (pg_tup (by rfl) (pgs_cons (pg_sub (pv 2) pe_int set_list) (pgs_cons (pg_sub (pv 2) (pv 3) set_list) pgs_nil))))
      (pss_cons (ps_expr (pe_bm PySem.F.plainAttrs_list PySem.F.slot_list_append PySem.F.type_list_append mt_append (pe_ix ix_list (pe_fld (pv 0) rfl) (pe_ix ix_list (pv 2) pe_int (fun _ _ => rfl)) (fun _ _ => rfl)) (pa_cons (pv 1) pa_nil)))
      (pss_one (ps_ret pe_bl))))))), ?_⟩
    obtain ⟨dx, fs, hx, L⟩ := t.at_
    obtain ⟨q, hq, hqc⟩ := t.held_ hi
    have sb := size_big
    refine ⟨_, rfl, x, C, dx, fs, _, rfl, hx, T.cl, T.hd, L.hd, _, rfl, a.hd, _, _, _, rfl, rfl, SqL.of t.l.hd, at_ref hq, ?_⟩
    refine ⟨fun m σ H' => H' = H ∧ ∃ k : Nat, σ = [some (.ref x), some (.int (i : Nat)), some (.ref q), some (.int (k : Nat))] ∧ 2 ≤ k ∧ k ≤ (gL st.held i).length ∧ scanF st.sides (gL st.held i) k = scanF st.sides (gL st.held i) 2 ∧ m = (gL st.held i).length - k, ⟨_, rfl, 2, rfl, Nat.le_refl _, h2, rfl, rfl⟩, ?_⟩
    rintro m σ H' ⟨rfl, k, rfl, k2, kl, ke, rfl⟩
    have fin : scanF st.sides (gL st.held i) 2 = k → tSeq (tIfS (tTest (tOp (rI0 fun i j => V.bl (decide (i ≥ j))) (tVar 3) (tCB (fun xs H Q => ∃ x n, xs = [x] ∧ LenV K x H n ∧ Q (.int n) H) (tCons (tVar 2) tNil)))) (tRet (tC (.bl false))) tNext)
        (tSeq (tAsg (tTup (tCons (tOp (rIxL K) (tVar 2) (tVar 3)) (tCons (tOp (rIxL K) (tVar 2) (tC (.int 1))) tNil))) (gTup K 2 (gCons (gSub (tVar 2) (tC (.int 1)) rSetL) (gCons (gSub (tVar 2) (tVar 3) rSetL) gNil))))
        (tSeq (tDrop (tBM K "list" rAppend (tOp (rIxL K) (tFld K (tVar 0) "watchers") (tOp (rIxL K) (tVar 2) (tC (.int 1)))) (tCons (tVar 1) tNil))) (tRet (tC (.bl true))))) { nx := fun _ H' => Q .non H', rt := Q } [some (.ref x), some (.int (i : Nat)), some (.ref q), some (.int (k : Nat))] H' := fun e => by
      refine ⟨_, rfl, _, rfl, _, _, rfl, .inl ⟨_, SqL.of hqc, rfl⟩, _, _, rfl, rfl, _, rfl, ?_⟩
      rw [nI_len]
      by_cases c : k < (gL st.held i).length
      · rw [decide_eq_false (by omega)]
        refine iteF ?_
        have em : movedF st i = some { st with held := st.held.set i (swapL (gL st.held i) 1 k), wat := pushW st.wat (gN (gL st.held i) k) i } := by
          unfold movedF
          simp only [e]
          rw [if_pos c]
        refine ⟨_, rfl, _, rfl, q, _, k, _, rfl, rfl, SqL.of hqc, at_nat c, _, rfl, q, _, 1, _, rfl, rfl, SqL.of hqc, at_nat (i := 1) (by omega), by show 2 ≤ sizeLine; decide, fun p hp => ?_⟩
        have s1 := same_new (o := .tup [.int (gN (gL st.held i) k : Nat), .int (gN (gL st.held i) 1 : Nat)]) hp
        have t1 := t.same s1
        have f1 : Fr x a a H' _ := Fr.same s1
        have hp1 : upd H' p (.tup [.int (gN (gL st.held i) k : Nat), .int (gN (gL st.held i) 1 : Nat)]) p = some (.tup [.int (gN (gL st.held i) k : Nat), .int (gN (gL st.held i) 1 : Nat)]) := upd_same
        have hq1 := s1 _ _ hqc
        generalize upd H' p (.tup [.int (gN (gL st.held i) k : Nat), .int (gN (gL st.held i) 1 : Nat)]) = H1 at *
        refine ⟨p, _, rfl, SqT.of hp1, rfl, _, _, rfl, _, rfl, q, _, _, 1, rfl, rfl, hq1, by rw [nI_len]; exact ixN_nat (i := 1) (by omega), ?_⟩
        rw [nI_put]
        have t2 := t1.heldAt (c := (gL st.held i).set 1 (gN (gL st.held i) k)) hq ⟨_, hq1⟩
        have f2 : Fr x a a H1 (upd H1 q (.lst (nI ((gL st.held i).set 1 (gN (gL st.held i) k))))) := Fr.put (mem_hs hq)
        have hq2 : upd H1 q (.lst (nI ((gL st.held i).set 1 (gN (gL st.held i) k)))) q = some (.lst (nI ((gL st.held i).set 1 (gN (gL st.held i) k)))) := upd_same
        generalize upd H1 q (.lst (nI ((gL st.held i).set 1 (gN (gL st.held i) k)))) = H2 at *
        refine ⟨_, _, rfl, _, rfl, _, rfl, q, _, _, k, rfl, rfl, hq2, by rw [nI_len]; exact ixN_nat (by rw [List.length_set]; exact c), rfl, ?_⟩
        rw [nI_put]
        have t3 := t2.heldAt (c := swapL (gL st.held i) 1 k) hq ⟨_, hq2⟩
        have f3 : Fr x a a H2 (upd H2 q (.lst (nI (swapL (gL st.held i) 1 k)))) := Fr.put (mem_hs hq)
        have hq3 : upd H2 q (.lst (nI (swapL (gL st.held i) 1 k))) q = some (.lst (nI (swapL (gL st.held i) 1 k))) := upd_same
        show tSeq _ _ _ _ (upd H2 q (.lst (nI (swapL (gL st.held i) 1 k))))
        generalize upd H2 q (.lst (nI (swapL (gL st.held i) 1 k))) = H3 at *
        have e3 : (st.held.set i ((gL st.held i).set 1 (gN (gL st.held i) k))).set i (swapL (gL st.held i) 1 k) = st.held.set i (swapL (gL st.held i) 1 k) := List.set_set ..
        replace t3 : TrA C x H3 { st with held := st.held.set i (swapL (gL st.held i) 1 k) } a := by rw [← e3]; exact t3
        obtain ⟨dx, fs, hx, L⟩ := t3.at_
        have g1 : gN (swapL (gL st.held i) 1 k) 1 = gN (gL st.held i) k := by rw [swap_get (by omega) c, if_neg (by omega), if_pos rfl]
        obtain ⟨p', hp', hpw'⟩ := t3.wat_ (i := gN (gL st.held i) k) ((hlt _ (gN_mem c)).2)
        refine ⟨_, rfl, x, C, dx, fs, _, rfl, hx, T.cl, T.wt, L.wt, _, rfl, q, _, 1, _, rfl, rfl, SqL.of hq3, at_nat (i := 1) (by rw [swap_len]; omega), a.wt, _, _, _, rfl, rfl, SqL.of t3.l.wt, by rw [g1]; exact at_ref hp', tyL hpw', _, rfl, p', _, _, rfl, rfl, hpw', ?_, ?_⟩
        · rw [nI_len]
          have := hw (gN (gL st.held i) k)
          show (gL st.wat _).length < _
          omega
        · exact ks _ em _ (t3.push hp' hpw') (((f1.trans f2).trans f3).trans (Fr.put (mem_ws hp')))
      · rw [decide_eq_true (by omega)]
        refine iteT ?_
        have em : movedF st i = none := by
          unfold movedF
          simp only [e]
          rw [if_neg c]
        exact kn em _ t Fr.refl
    refine ⟨_, rfl, _, rfl, _, _, rfl, .inl ⟨_, SqL.of hqc, rfl⟩, _, _, rfl, rfl, _, rfl, ?_⟩
    rw [nI_len]
    by_cases c : k < (gL st.held i).length
    · rw [decide_eq_true (by omega)]
      have hl := hlt _ (gN_mem c)
      refine iteT ⟨_, rfl, x, C, dx, fs, _, rfl, hx, T.cl, T.sd, L.sd, _, rfl, _, rfl, q, _, k, _, rfl, rfl, SqL.of hqc, at_nat c, a.sd, _, _, _, rfl, rfl, SqL.of t.l.sd, at_nat hl.1, rfl, _, rfl, ?_⟩
      by_cases c2 : gN st.sides (gN (gL st.held i) k) = 2
      · rw [decide_eq_true (by rw [c2]; rfl)]
        refine iteT ⟨fun σ' H1 => H1 = H' ∧ ∃ k' : Nat, σ' = [some (.ref x), some (.int (i : Nat)), some (.ref q), some (.int (k' : Nat))] ∧ k' = k + 1, ?_, _, rfl, _, _, rfl, rfl, rfl, k + 1, rfl, rfl⟩
        rintro σ' H1 ⟨rfl, k', rfl, rfl⟩
        exact ⟨_, by omega, rfl, k + 1, rfl, by omega, by omega, (scan_go ⟨c, c2⟩).symm.trans ke, rfl⟩
      · rw [decide_eq_false (fun z => c2 (by injection z with z; omega))]
        exact iteF (fin (ke.symm.trans (scan_end fun z => c2 z.2)))
    · rw [decide_eq_false (by omega)]
      exact iteF (iteF (fin (ke.symm.trans (scan_end fun z => c z.1))))
end
end K6
namespace K6
open PySem PySem.Spec PyProof.Rows L2 LamX NdefX EV
/-! ### a trail's methods: look_again -/
theorem nodup_few : ∀ (m : Nat) (xs : List Nat), xs.Nodup → (∀ x ∈ xs, x < m) → xs.length ≤ m := by
  intro m
  induction m with
  | zero => intro xs _ h; cases xs with
    | nil => exact Nat.le_refl _
    | cons x r => exact absurd (h x List.mem_cons_self) (Nat.not_lt_zero _)
  | succ m ih =>
    intro xs nd h
    have z := ih (xs.filter (· ≠ m)) (nd.filter _) fun x hx => by
      have h1 := List.mem_filter.mp hx
      have h2 := h x h1.1
      have h3 : x ≠ m := by simpa using h1.2
      omega
    by_cases hm : m ∈ xs
    · have e : (xs.filter (· ≠ m)) = xs.erase m := by rw [nd.erase_eq_filter]; congr 1; funext x; by_cases q : x = m <;> simp [q]
      rw [e, List.length_erase_of_mem hm] at z
      omega
    · have e : xs.filter (· ≠ m) = xs := List.filter_eq_self.mpr fun x hx => by
        have : x ≠ m := fun q => hm (q ▸ hx)
        simpa using this
      rw [e] at z
      omega
/-- clauses that are few and short -/
structure TOk (F : List (List Nat)) (n : Nat) : Prop where
  g : TGood F n
  fl : F.length ≤ 500
  nl : n ≤ 500
theorem TInv.watl {F : List (List Nat)} {n : Nat} {st : TS} (v : TInv F n st) (o : TOk F n) (l : Nat) : (gL st.wat l).length ≤ 500 := by
  by_cases h : l < 2 * n
  · exact Nat.le_trans (nodup_few F.length _ (v.wn l) fun i hi => (v.w1 l h i hi).1) o.fl
  · have e : gL st.wat l = [] := by
      unfold gL
      rw [List.getD_eq_getElem?_getD, List.getElem?_eq_none (by rw [v.lw]; omega)]
      rfl
    rw [e]
    exact Nat.zero_le _
theorem TInv.heldl {F : List (List Nat)} {n : Nat} {st : TS} (v : TInv F n st) (o : TOk F n) {i : Nat} (hi : i < F.length) : (gL st.held i).length ≤ 500 := by
  have z := nodup_few n _ (v.hnd o.g hi) fun x hx => by
    obtain ⟨l, hl, rfl⟩ := List.mem_map.mp hx
    have := v.hlt o.g hi hl
    omega
  rw [List.length_map] at z
  have := o.nl
  omega
theorem TrA.live {C x b : Addr} {H : Hp} {st : TS} {a : TAd} (t : TrA C x H st a) (m : b ∈ a.all) : ∃ u, H b = some u := by
  unfold TAd.all TAd.top at m
  rcases List.mem_append.mp m with m | m
  · simp only [List.mem_cons, List.not_mem_nil, or_false] at m
    rcases m with rfl | rfl | rfl | rfl | rfl | rfl | rfl | rfl | rfl
    · exact ⟨_, t.l.sd⟩
    · exact ⟨_, t.l.hd⟩
    · exact ⟨_, t.l.wt⟩
    · exact ⟨_, t.l.sh⟩
    · exact ⟨_, t.l.sp⟩
    · exact ⟨_, t.l.ch⟩
    · exact ⟨_, t.l.sta⟩
    · exact ⟨_, t.l.ly⟩
    · exact ⟨_, t.l.rs⟩
  · rcases List.mem_append.mp m with m | m
    · obtain ⟨c, h⟩ := paired_right' t.l.hs m
      exact ⟨_, h⟩
    · obtain ⟨c, h⟩ := paired_right' t.l.ws m
      exact ⟨_, h⟩
def spLook (C : Addr) : Sp := fun vs H Q _ => ∃ (x : Addr) (d k : Nat) (st : TS) (a : TAd) (F : List (List Nat)) (n : Nat), vs = [.ref x, .int (d : Nat)] ∧ TrA C x H st a ∧ TOk F n ∧ d < 2 * n ∧ TLook F n d k (gL st.wat d) { st with wat := st.wat.set d [] } ∧
  ∀ H' a', TrA C x H' (lookF st d) a' → Fr x a a' H H' → Q .non H'
theorem size1 : 1 ≤ sizeLine := by decide
/-- what stands while one looks at those that watch -/
def LkP (C x W : Addr) (d k : Nat) (Fc : List (List Nat)) (n : Nat) (ws : List Nat) (fin : TS) (a3 : TAd) (H3 : Hp) (i : Nat) (σ : L2.St) (H : Hp) : Prop := ∃ (o3 o4 o5 o6 : Option V) (s : TS), σ = [some (.ref x), some (.int (d : Nat)), some (.ref W), o3, o4, o5, o6] ∧ i ≤ ws.length ∧ TrA C x H s a3 ∧ TLook Fc n d k (ws.drop i) s ∧ lookLoop d (ws.drop i) s = fin ∧ Fr x a3 a3 H3 H ∧ H W = some (.lst (nI ws))
section
variable {P : Program} {w : World} {K : PySem.W.Frag} {mg : Str → Option Value} {base : Heap} {f fM fS C : Addr} {fd fdM fdS : FuncData}
abbrev nLook : List Str := ["self", "denied", "waiting", "at", "index", "clause", "other"]
theorem scLook : FnScope nLook ["self", "denied"] (defScope sLook) := ⟨rfl, rfl, rfl, by decide +kernel, rfl, by decide +kernel, by decide +kernel⟩
abbrev XLk (P : Program) (w : World) (K : PySem.W.Frag) (mg : Str → Option Value) (base : Heap) (f : Addr) (cdv : Value) (A : Around) (outer : List Env) (s0 : Shared) (HH : Hp) (E : XK) : Cx := (cxOf CX0 P w K mg base nLook "Trail.look_again" (defScope sLook) f cdv A outer s0 HH E).nox
def lookFor : List Stmt := forBody ((defBody sLook).getD 2 (.Pass ⟨0, 0, 0, 0⟩))
theorem nI_drop (xs : List Nat) (i : Nat) : (nI xs).drop i = nI (xs.drop i) := (List.map_drop ..).symm
section
variable {cdv : Value} {A : Around} {outer : List Env} {s0 : Shared} {HH : Hp} {E : XK}
/-- a clause is put back -/
theorem seg_back (T : TTxt K mg C)
    (GS : FnOk P w K mg base CX0 1 fS fdS ["self", "literal", "reason"] (spSetSo C)) (mS : Meth K C "set_so" fS) (bS : L2.Binds K fdS ["self", "literal", "reason"] []) (hr1 : Room 1 (XLk P w K mg base f cdv A outer s0 HH E).A) :
    ∃ tt, PSs (XLk P w K mg base f cdv A outer s0 HH E) (lookFor.drop 4) tt ∧ ∀ (D : Ends) (x W q : Addr) (d i idx oo n : Nat) (Fc : List (List Nat)) (ws : List Nat) (st : TS) (a : TAd) (H : Hp),
      TrA C x H st a → TInv Fc n st → TOk Fc n → d < 2 * n → oo < 2 * n → H W = some (.lst (nI ws)) → W ≠ x → W ∉ a.all → ws.length ≤ 500 →
      (gN st.sides oo = 2 → ∀ H', TrA C x H' { st with wat := (pushW st.wat d idx).set d (gL (pushW st.wat d idx) d ++ ws.drop (i + 1)), clash := some idx } a → Fr x a a H H' → D.rt .non H') →
      (gN st.sides oo = 0 → ∀ H', TrA C x H' (setSoF { st with wat := pushW st.wat d idx } oo (some idx)) a → Fr x a a H H' → D.nx [some (.ref x), some (.int (d : Nat)), some (.ref W), some (.int (i : Nat)), some (.int (idx : Nat)), some (.ref q), some (.int (oo : Nat))] H') →
      (gN st.sides oo ≠ 2 → gN st.sides oo ≠ 0 → ∀ H', TrA C x H' { st with wat := pushW st.wat d idx } a → Fr x a a H H' → D.nx [some (.ref x), some (.int (d : Nat)), some (.ref W), some (.int (i : Nat)), some (.int (idx : Nat)), some (.ref q), some (.int (oo : Nat))] H') →
      tt D [some (.ref x), some (.int (d : Nat)), some (.ref W), some (.int (i : Nat)), some (.int (idx : Nat)), some (.ref q), some (.int (oo : Nat))] H := by
  obtain ⟨td, hde⟩ := T.denied
  obtain ⟨tu, hun⟩ := T.unset
  refine ⟨_, (pss_cons (ps_expr (pe_bm PySem.F.plainAttrs_list PySem.F.slot_list_append PySem.F.type_list_append mt_append (pe_ix ix_list (pe_fld (pv 0) rfl) (pv 1) (fun _ _ => rfl)) (pa_cons (pv 4) pa_nil)))
        (pss_cons (ps_if (pt_cmpR op_eq (pe_ix ix_list (pe_fld (pv 0) rfl) (pv 6) (fun _ _ => rfl)) (pe_glob (v := .int 2) (by rfl) hde ⟨_, rfl⟩) (nomark _))
          (pss_cons (ps_expr (pe_bm PySem.F.plainAttrs_list PySem.F.slot_list_extend PySem.F.type_list_extend mt_extend (pe_ix ix_list (pe_fld (pv 0) rfl) (pv 1) (fun _ _ => rfl)) (pa_cons (pe_slice sl_list (pv 2) (po_some (pe_op op_add (pv 3) pe_int)) po_none) pa_nil)))
          (pss_cons (ps_fld (pv 0) (pv 4) rfl) (pss_one ps_retN))) pss_nil)
        (pss_one (ps_if (pt_cmpR op_eq (pe_ix ix_list (pe_fld (pv 0) rfl) (pv 6) (fun _ _ => rfl)) (pe_glob (v := .int 0) (by rfl) hun ⟨_, rfl⟩) (nomark _))
          (pss_one (ps_expr (pe_meth (pv 0) T.cl mS GS hr1 bS .nil pass0 (pa_cons (pv 6) (pa_cons (pv 4) pa_nil))))) pss_nil)))), ?_⟩
  intro D x W q d i idx oo n Fc ws st a H t v o hd ho hW wx wa wl k2 k0 k1
  have sb := size_big
  have lw := v.lw
  have lsd := v.ls
  have ll := v.ll
  have lr := v.lr
  have wd := v.watl o d
  have nl := o.nl
  have few := v.few
  obtain ⟨dx, fs, hx, L⟩ := t.at_
  obtain ⟨p, hp, hpw⟩ := t.wat_ (i := d) (by omega)
  refine ⟨_, rfl, x, C, dx, fs, _, rfl, hx, T.cl, T.wt, L.wt, _, rfl, a.wt, _, _, _, rfl, rfl, SqL.of t.l.wt, at_ref hp, tyL hpw, _, rfl, p, _, _, rfl, rfl, hpw, by rw [nI_len]; omega, ?_⟩
  have t1 := t.push (i := idx) hp hpw
  have f1 : Fr x a a H (upd H p (.lst (nI (gL st.wat d) ++ [.int (idx : Nat)]))) := Fr.put (mem_ws hp)
  have hW1 := f1.keep _ _ hW wx wa
  generalize upd H p (.lst (nI (gL st.wat d) ++ [.int (idx : Nat)])) = H1 at *
  obtain ⟨dx, fs, hx, L⟩ := t1.at_
  have t1sd : H1 a.sd = some (.lst (nI st.sides)) := t1.l.sd
  refine ⟨_, rfl, x, C, dx, fs, _, rfl, hx, T.cl, T.sd, L.sd, _, rfl, a.sd, _, _, _, rfl, rfl, SqL.of t1sd, at_nat (by omega), rfl, _, rfl, ?_⟩
  by_cases c2 : gN st.sides oo = 2
  · rw [decide_eq_true (by rw [c2]; rfl)]
    obtain ⟨p', hp', hpw'⟩ := t1.wat_ (i := d) (by show d < (pushW _ _ _).length; rw [push_len]; omega)
    have e1 : ((i : Nat) : Int) + 1 = ((i + 1 : Nat) : Int) := by omega
    refine iteT ⟨_, rfl, x, C, dx, fs, _, rfl, hx, T.cl, T.wt, L.wt, _, rfl, a.wt, _, _, _, rfl, rfl, SqL.of t1.l.wt, at_ref hp', tyL hpw', _, rfl, _, rfl, _, _, rfl, rfl, _, rfl, W, _, rfl, SqL.of hW1, fun z hz => ?_⟩
    rw [e1, cutV_drop, nI_drop]
    have s2 := same_new (o := .lst (nI (ws.drop (i + 1)))) hz
    have t2 := t1.same s2
    have f2 : Fr x a a H1 _ := Fr.same s2
    have hz2 : upd H1 z (.lst (nI (ws.drop (i + 1)))) z = some (.lst (nI (ws.drop (i + 1)))) := upd_same
    have hpw2 := s2 _ _ hpw'
    generalize upd H1 z (.lst (nI (ws.drop (i + 1)))) = H2 at *
    refine ⟨p', z, _, _, rfl, rfl, hpw2, hz2, ?_, ?_⟩
    · rw [nI_len, nI_len, List.length_drop]
      show (gL (pushW st.wat d idx) d).length + _ ≤ _
      rw [push_get (by omega), if_pos rfl, List.length_append, List.length_singleton]
      omega
    rw [← nI_app]
    have t3 := t2.watAt (c := gL (pushW st.wat d idx) d ++ ws.drop (i + 1)) hp' ⟨_, hpw2⟩
    have f3 : Fr x a a H2 (upd H2 p' (.lst (nI (gL (pushW st.wat d idx) d ++ ws.drop (i + 1))))) := Fr.put (mem_ws hp')
    show tSeq _ _ _ _ (upd H2 p' (.lst (nI (gL (pushW st.wat d idx) d ++ ws.drop (i + 1)))))
    generalize upd H2 p' (.lst (nI (gL (pushW st.wat d idx) d ++ ws.drop (i + 1)))) = H3 at *
    obtain ⟨dx, fs, hx, L⟩ := t3.at_
    have fl := L.len
    refine ⟨_, rfl, _, rfl, x, C, dx, fs, rfl, hx, T.cl, T.cz, by omega, ?_⟩
    exact k2 c2 _ (t3.clash (n := some idx) hx) (((f1.trans f2).trans f3).trans Fr.putx)
  · rw [decide_eq_false (fun z => c2 (by injection z with z; omega))]
    refine iteF ⟨_, rfl, x, C, dx, fs, _, rfl, hx, T.cl, T.sd, L.sd, _, rfl, a.sd, _, _, _, rfl, rfl, SqL.of t1sd, at_nat (by omega), rfl, _, rfl, ?_⟩
    by_cases c0 : gN st.sides oo = 0
    · rw [decide_eq_true (by rw [c0]; rfl)]
      refine iteT ⟨_, rfl, x, dx, fs, rfl, hx, L.me _ (by decide +kernel), _, rfl, _, rfl, x, oo, some idx, _, a, rfl, t1, by show oo < st.sides.length; omega, by show flip oo < st.sides.length; have := flip_lt ho; omega, by show oo / 2 < st.layers.length; omega, by show oo / 2 < st.reasons.length; omega, by show st.steps.length ≤ 1000; omega, fun H' t' f' => ?_⟩
      exact k0 c0 H' t' (f1.trans f')
    · rw [decide_eq_false (fun z => c0 (by injection z with z; omega))]
      exact iteF (k1 c2 c0 H1 t1 f1)
/-- a clause is looked at -/
theorem seg_clause (T : TTxt K mg C)
    (GM : FnOk P w K mg base CX0 1 fM fdM ["self", "index"] (spMovedT C)) (mM : Meth K C "has_moved" fM) (bM : L2.Binds K fdM ["self", "index"] [])
    (GS : FnOk P w K mg base CX0 1 fS fdS ["self", "literal", "reason"] (spSetSo C)) (mS : Meth K C "set_so" fS) (bS : L2.Binds K fdS ["self", "literal", "reason"] []) (hr1 : Room 1 (XLk P w K mg base f cdv A outer s0 HH E).A) :
    ∃ tt, PSs (XLk P w K mg base f cdv A outer s0 HH E) (lookFor.drop 2) tt ∧ ∀ (D : Ends) (x W q : Addr) (d i idx n : Nat) (o6 : Option V) (Fc : List (List Nat)) (ws : List Nat) (st0 st : TS) (a : TAd) (H : Hp),
      TrA C x H st a → TInv Fc n st → TOk Fc n → d < 2 * n → idx < Fc.length → 2 ≤ (gL st.held idx).length → a.hs[idx]? = some q → H W = some (.lst (nI ws)) → W ≠ x → W ∉ a.all → ws.length ≤ 500 → turnF st0 d idx = st →
      (∀ H' s2, lookStep d idx (ws.drop (i + 1)) st0 = (s2, true) → TrA C x H' s2 a → Fr x a a H H' → D.rt .non H') →
      (∀ H' s2 o6, lookStep d idx (ws.drop (i + 1)) st0 = (s2, false) → TrA C x H' s2 a → Fr x a a H H' → D.nx [some (.ref x), some (.int (d : Nat)), some (.ref W), some (.int (i : Nat)), some (.int (idx : Nat)), some (.ref q), o6] H' ∧ D.ct [some (.ref x), some (.int (d : Nat)), some (.ref W), some (.int (i : Nat)), some (.int (idx : Nat)), some (.ref q), o6] H') →
      tt D [some (.ref x), some (.int (d : Nat)), some (.ref W), some (.int (i : Nat)), some (.int (idx : Nat)), some (.ref q), o6] H := by
  obtain ⟨to, hso⟩ := T.so
  obtain ⟨tb, pb, kb⟩ := seg_back (P := P) (w := w) (base := base) (f := f) (cdv := cdv) (A := A) (outer := outer) (s0 := s0) (HH := HH) (E := E) T GS mS bS hr1
  refine ⟨_, pss_cons (ps_set (i := 6) scLook.nd rfl (.inl rfl) (pe_ix ix_list (pv 5) pe_int (fun _ _ => rfl)))
        (pss_cons (ps_if (PW.pt (pw_and (pt_cmpR op_ne (pe_ix ix_list (pe_fld (pv 0) rfl) (pv 6) (fun _ _ => rfl)) (pe_glob (v := .int 1) (by rfl) hso ⟨_, rfl⟩) (nomark _)) (pw_and1 (pt_val (pe_meth (pv 0) T.cl mM GM hr1 bM .nil pass0 (pa_cons (pv 4) pa_nil)))))) (pss_one ps_continue) pss_nil) pb), ?_⟩
  intro D x W q d i idx n o6 Fc ws st0 st a H t v o hd hi h2 hq hW wx wa wl est kr kn
  have lsd := v.ls
  have lw := v.lw
  obtain ⟨dx, fs, hx, L⟩ := t.at_
  obtain ⟨q', hq', hqc⟩ := t.held_ (i := idx) (by rw [v.lh]; exact hi)
  obtain rfl : q = q' := Option.some.inj (hq.symm.trans hq')
  have hol := v.hlt o.g hi (gN_mem (i := 0) (by omega))
  have step : lookStep d idx (ws.drop (i + 1)) st0 = (match (if gN st.sides (gN (gL st.held idx) 0) = 1 then none else movedF st idx) with
    | some s2 => (s2, false)
    | none => if gN st.sides (gN (gL st.held idx) 0) = 2 then ({ st with wat := (pushW st.wat d idx).set d (gL (pushW st.wat d idx) d ++ ws.drop (i + 1)), clash := some idx }, true)
      else if gN st.sides (gN (gL st.held idx) 0) = 0 then (setSoF { st with wat := pushW st.wat d idx } (gN (gL st.held idx) 0) (some idx), false)
      else ({ st with wat := pushW st.wat d idx }, false)) := by
    unfold lookStep
    rw [est]
    all_goals rfl
  rw [step] at kr kn
  refine ⟨_, rfl, q, _, 0, _, rfl, rfl, SqL.of hqc, at_nat (i := 0) (by omega), ?_⟩
  refine ⟨_, rfl, x, C, dx, fs, _, rfl, hx, T.cl, T.sd, L.sd, _, rfl, a.sd, _, _, _, rfl, rfl, SqL.of t.l.sd, at_nat (by omega), rfl, _, rfl, ?_⟩
  have put : ∀ Hc, TrA C x Hc st a → Fr x a a H Hc → (if gN st.sides (gN (gL st.held idx) 0) = 1 then none else movedF st idx) = none → tb D [some (.ref x), some (.int (d : Nat)), some (.ref W), some (.int (i : Nat)), some (.int (idx : Nat)), some (.ref q), some (.int (gN (gL st.held idx) 0 : Nat))] Hc := fun Hc tc fc en => by
    rw [en] at kr kn
    refine kb D x W q d i idx (gN (gL st.held idx) 0) n Fc ws st a Hc tc v o hd hol (fc.keep _ _ hW wx wa) wx wa wl (fun c H' t' f' => ?_) (fun c H' t' f' => ?_) (fun c c' H' t' f' => ?_)
    · refine kr H' _ ?_ t' (fc.trans f')
      simp only [if_pos c]
    · refine (kn H' _ _ ?_ t' (fc.trans f')).1
      simp only [if_neg (show gN st.sides (gN (gL st.held idx) 0) ≠ 2 by omega), if_pos c]
    · refine (kn H' _ _ ?_ t' (fc.trans f')).1
      simp only [if_neg c, if_neg c']
  by_cases c1 : gN st.sides (gN (gL st.held idx) 0) = 1
  · rw [decide_eq_true (by rw [c1]; rfl)]
    exact iteF (iteF (put H t Fr.refl (if_pos c1)))
  · rw [decide_eq_false (fun z => c1 (by injection z with z; omega))]
    refine iteT ⟨_, rfl, x, dx, fs, rfl, hx, L.me _ (by decide +kernel), _, rfl, x, idx, st, a, rfl, t, by rw [v.lh]; exact hi, h2, by have := v.heldl o hi; omega, fun l hl => by have := v.hlt o.g hi hl; omega, fun l => by have := v.watl o l; omega, fun em H' t' f' => ⟨_, rfl, iteF (put H' t' f' (by rw [if_neg c1]; exact em))⟩, fun s2 em H' t' f' => ⟨_, rfl, iteT ?_⟩⟩
    refine (kn H' s2 _ ?_ t' f').2
    rw [if_neg c1, em]
end
/-- the heap behind a clause that was put back -/
theorem ok_look (F : Fun K "look_again" "Trail.look_again" sLook f fd) (T : TTxt K mg C)
    (GM : FnOk P w K mg base CX0 1 fM fdM ["self", "index"] (spMovedT C)) (mM : Meth K C "has_moved" fM) (bM : L2.Binds K fdM ["self", "index"] [])
    (GS : FnOk P w K mg base CX0 1 fS fdS ["self", "literal", "reason"] (spSetSo C)) (mS : Meth K C "set_so" fS) (bS : L2.Binds K fdS ["self", "literal", "reason"] []) :
    FnOk P w K mg base CX0 2 f fd ["self", "denied"] (spLook C) := by
  obtain ⟨to, hso⟩ := T.so
  obtain ⟨td, hde⟩ := T.denied
  obtain ⟨tu, hun⟩ := T.unset
  refine F.ok scLook (fun vs H Q E h => ?_) (fun cdv A outer s H vs Q E hr h => ?_)
  · obtain ⟨x, d, k, st, a, F', n, rfl, _⟩ := h
    rfl
  · obtain ⟨x, d, k, st, a, Fc, n, rfl, t, o, hd, LK, kk⟩ := h
    have hr1 : Room 1 _ := hr.mono (by decide)
    obtain ⟨tc, pc, kc⟩ := seg_clause (P := P) (w := w) (base := base) (f := f) (cdv := cdv) (A := A) (outer := outer) (s0 := s) (HH := H) (E := E) T GM mM bM GS mS bS hr1
    refine ⟨_, pss_cons (ps_set (i := 2) scLook.nd rfl (.inl rfl) (pe_callTy call_list_of (by rfl) T.list (by decide +kernel) (pa_cons (pe_ix ix_list (pe_fld (pv 0) rfl) (pv 1) (fun _ _ => rfl)) pa_nil)))
      (pss_cons (ps_asg (pe_lst pa_nil) (pg_sub (pe_fld (pv 0) rfl) (pv 1) set_list))
      (pss_one (ps_for PassesOwn.never rfl (pi_enum (by rfl) T.enum (pa_cons (pv 2) pa_nil)) (pg_tup rfl (pgs_cons (pg_name (i := 3) scLook.nd rfl (.inl rfl)) (pgs_cons (pg_name (i := 4) scLook.nd rfl (.inl rfl)) pgs_nil)))
        (pss_cons (ps_set (i := 5) scLook.nd rfl (.inl rfl) (pe_ix ix_list (pe_fld (pv 0) rfl) (pv 4) (fun _ _ => rfl)))
        (pss_cons (ps_if (pt_cmpR op_eq (pe_ix ix_list (pv 5) pe_int (fun _ _ => rfl)) (pv 1) (nomark _))
          (pss_one (ps_asg (pe_tup (pa_cons (pe_ix ix_list (pv 5) pe_int (fun _ _ => rfl)) (pa_cons (pe_ix ix_list (pv 5) pe_int (fun _ _ => rfl)) pa_nil)))
            (pg_tup (by rfl) (pgs_cons (pg_sub (pv 5) pe_int set_list) (pgs_cons (pg_sub (pv 5) pe_int set_list) pgs_nil))))) pss_nil)
        pc))))), ?_⟩
    have v0 := LK.v
    have lw : st.wat.length = 2 * n := by
      have z := v0.lw
      rwa [show ({ st with wat := st.wat.set d [] } : TS).wat.length = st.wat.length from List.length_set] at z
    have lws : (gL st.wat d).length ≤ 500 := Nat.le_trans (nodup_few Fc.length _ LK.u.nd fun i hi => (LK.u.ok i hi).1) o.fl
    obtain ⟨q0, hq0, hw0⟩ := t.wat_ (i := d) (by omega)
    obtain ⟨dx, fs, hx, L⟩ := t.at_
    refine ⟨_, rfl, x, C, dx, fs, _, rfl, hx, T.cl, T.wt, L.wt, _, rfl, a.wt, _, _, _, rfl, rfl, SqL.of t.l.wt, at_ref hq0, q0, _, rfl, .inl (SqL.of hw0), fun W hW => ?_⟩
    have s1 := same_new (o := .lst (nI (gL st.wat d))) hW
    have t1 := t.same s1
    have hW1 : upd H W (.lst (nI (gL st.wat d))) W = some (.lst (nI (gL st.wat d))) := upd_same
    have Wx : W ≠ x := fun e => by rw [e, hx] at hW; cases hW
    have Wa : W ∉ a.all := fun m => by
      obtain ⟨u, hu⟩ := t.live m
      rw [hu] at hW
      cases hW
    generalize upd H W (.lst (nI (gL st.wat d))) = H1 at *
    refine ⟨Nat.zero_le _, fun p hp => ?_⟩
    have s2 := same_new (o := .lst []) hp
    have t2 := t1.same s2
    have hp2 : upd H1 p (.lst []) p = some (.lst (nI [])) := upd_same
    have hW2 := s2 _ _ hW1
    have pW : p ≠ W := fun e => by rw [e, hW1] at hp; cases hp
    have pa : p ∉ a.all := fun m => by
      obtain ⟨u, hu⟩ := t1.live m
      rw [hu] at hp
      cases hp
    have pH : H p = none := (s1.free hp)
    have s12 := s1.trans s2
    generalize upd H1 p (.lst []) = H2 at *
    obtain ⟨dx, fs, hx2, L⟩ := t2.at_
    refine ⟨_, rfl, x, C, dx, fs, _, rfl, hx2, T.cl, T.wt, L.wt, _, rfl, a.wt, _, _, d, rfl, rfl, t2.l.wt, by rw [List.length_map]; exact ixN_nat (List.getElem?_eq_some_iff.mp hq0).1, ?_⟩
    rw [show (a.ws.map V.ref).set d (.ref p) = (a.ws.set d p).map V.ref from (List.map_set ..).symm]
    have t3 := t2.watNew (i := d) hp2 pa
    have Wwt : W ≠ a.wt := fun e => Wa (e ▸ TAd.mem_top (by unfold TAd.top; simp))
    have hW3 : upd H2 a.wt (.lst ((a.ws.set d p).map V.ref)) W = some (.lst (nI (gL st.wat d))) := (upd_ne Wwt).trans hW2
    have f3 : Fr x a { a with ws := a.ws.set d p } H (upd H2 a.wt (.lst ((a.ws.set d p).map V.ref))) := by
      refine ⟨fun b u e n1 n2 => (upd_ne fun q => n2 (by rw [q]; exact TAd.mem_top (by unfold TAd.top; simp))).trans (s12 b u e), fun b u e => ?_, fun b hb => ?_⟩
      · by_cases q : b = a.wt
        · exact ⟨_, by rw [q]; exact upd_same⟩
        · exact ⟨u, (upd_ne q).trans (s12 b u e)⟩
      · unfold TAd.all at hb ⊢
        rcases List.mem_append.mp hb with hb | hb
        · exact .inl (List.mem_append_left _ hb)
        · rcases List.mem_append.mp hb with hb | hb
          · exact .inl (List.mem_append_right _ (List.mem_append_left _ hb))
          · rcases List.mem_or_eq_of_mem_set hb with hb | hb
            · exact .inl (List.mem_append_right _ (List.mem_append_right _ hb))
            · exact .inr (hb ▸ pH)
    have Wa3 : W ∉ ({ a with ws := a.ws.set d p } : TAd).all := fun m => by
      rcases f3.new W m with h | h
      · exact Wa h
      · unfold TAd.all at m
        rcases List.mem_append.mp m with m | m
        · exact Wa (TAd.mem_top m)
        · rcases List.mem_append.mp m with m | m
          · exact Wa (TAd.mem_hs m)
          · rcases List.mem_or_eq_of_mem_set m with m | m
            · exact Wa (TAd.mem_ws m)
            · exact pW m.symm
    generalize upd H2 a.wt (.lst ((a.ws.set d p).map V.ref)) = H3 at *
    generalize ({ a with ws := a.ws.set d p } : TAd) = a3 at *
    refine ⟨_, rfl, W, _, rfl, SqL.of hW3, for_it (walk_enum (xs := nI (gL st.wat d))) (LkP C x W d k Fc n (gL st.wat d) (lookF st d) a3 H3)
      ⟨_, _, _, _, _, rfl, Nat.zero_le _, t3, LK, rfl, Fr.refl, hW3⟩ (fun i σ H4 _ ⟨_, _, _, _, _, _, _, _, _, _, _, h⟩ => SqL.of h) ?_ ?_⟩
    · rintro i v σ H4 H5 hi ⟨o3, o4, o5, o6, st4, rfl, _, t4, LK4, e4, f4, hW4⟩ ⟨tp, v1, v2, rfl, htp, rfl, hv1, hv2⟩
      obtain rfl := Option.some.inj hv1
      rw [nI_len] at hi
      have hv2 : (nI (gL st.wat d))[i]? = some v2 := hv2
      rw [nI_get (gN_get hi)] at hv2
      obtain rfl := Option.some.inj hv2
      have ed : (gL st.wat d).drop i = gN (gL st.wat d) i :: (gL st.wat d).drop (i + 1) := by rw [List.drop_eq_getElem_cons hi, gN_elem hi]
      rw [ed] at LK4 e4
      have s5 := same_new (o := .tup [.int (i : Nat), .int (gN (gL st.wat d) i : Nat)]) htp
      have t5 := t4.same s5
      have f5 : Fr x a3 a3 H3 _ := f4.trans (Fr.same s5)
      have hW5 := s5 _ _ hW4
      have htp5 : upd H4 tp (.tup [.int (i : Nat), .int (gN (gL st.wat d) i : Nat)]) tp = some (.tup [.int (i : Nat), .int (gN (gL st.wat d) i : Nat)]) := upd_same
      generalize upd H4 tp (.tup [.int (i : Nat), .int (gN (gL st.wat d) i : Nat)]) = H5 at *
      generalize gN (gL st.wat d) i = idx at *
      obtain ⟨hidx, h2, hw, hn⟩ := LK4.u.ok idx List.mem_cons_self
      obtain ⟨v6, W6, S6, U6, O6, K6, _⟩ := turn_spec o.g LK4.v LK4.w LK4.s LK4.u LK4.o
      obtain ⟨q, hq, hqc⟩ := t5.held_ (i := idx) (by rw [LK4.v.lh]; exact hidx)
      obtain ⟨dx, fs, hx5, L⟩ := t5.at_
      have nxt : ∀ Hc, TrA C x Hc (turnF st4 d idx) a3 → Fr x a3 a3 H3 Hc → tc { nx := LkP C x W d k Fc n (gL st.wat d) (lookF st d) a3 H3 (i + 1), rt := Q, bk := fun _ H' => Q .non H', ct := LkP C x W d k Fc n (gL st.wat d) (lookF st d) a3 H3 (i + 1) } [some (.ref x), some (.int (d : Nat)), some (.ref W), some (.int (i : Nat)), some (.int (idx : Nat)), some (.ref q), o6] Hc := fun Hc tcc fc => by
        obtain ⟨h2', hl'⟩ : 2 ≤ (gL (turnF st4 d idx).held idx).length ∧ True := ⟨(U6.ok idx List.mem_cons_self).2.1, trivial⟩
        have LS := look_step o.g d hd k idx ((gL st.wat d).drop (i + 1)) st4 LK4
        refine kc _ x W q d i idx n o6 Fc (gL st.wat d) st4 (turnF st4 d idx) a3 Hc tcc v6 o hd hidx h2' hq (fc.keep _ _ hW3 Wx Wa3) Wx Wa3 lws rfl (fun H' s2 es t' f' => ?_) (fun H' s2 o6 es t' f' => ?_)
        · rw [lookLoop, es, if_pos rfl] at e4
          have e4 : s2 = lookF st d := e4
          rw [e4] at t'
          exact kk H' a3 t' (f3.trans (fc.trans f'))
        · rw [es] at LS
          rw [lookLoop, es, if_neg (fun z => Bool.noConfusion z)] at e4
          have e4 : lookLoop d ((gL st.wat d).drop (i + 1)) s2 = lookF st d := e4
          have fe := fc.trans f'
          have z : LkP C x W d k Fc n (gL st.wat d) (lookF st d) a3 H3 (i + 1) [some (V.ref x), some (.int (d : Nat)), some (.ref W), some (.int (i : Nat)), some (.int (idx : Nat)), some (.ref q), o6] H' := ⟨_, _, _, _, s2, rfl, by omega, t', LS.2.2.1 rfl, e4, fe, fe.keep _ _ hW3 Wx Wa3⟩
          exact ⟨z, z⟩
      refine ⟨tp, _, rfl, SqT.of htp5, rfl, _, _, rfl, _, _, rfl, rfl, ?_⟩
      refine ⟨_, rfl, x, C, dx, fs, _, rfl, hx5, T.cl, T.hd, L.hd, _, rfl, a3.hd, _, _, _, rfl, rfl, SqL.of t5.l.hd, at_ref hq, ?_⟩
      refine ⟨_, rfl, q, _, 0, _, rfl, rfl, SqL.of hqc, at_nat (i := 0) (by omega), _, rfl, rfl, _, rfl, ?_⟩
      by_cases c : gN (gL st4.held idx) 0 = d
      · rw [decide_eq_true (by rw [c])]
        refine iteT ⟨_, rfl, q, _, 1, _, rfl, rfl, SqL.of hqc, at_nat (i := 1) (by omega), _, rfl, q, _, 0, _, rfl, rfl, SqL.of hqc, at_nat (i := 0) (by omega), by show 2 ≤ sizeLine; decide, fun p2 hp2 => ?_⟩
        have s6 := same_new (o := .tup [.int (gN (gL st4.held idx) 1 : Nat), .int (gN (gL st4.held idx) 0 : Nat)]) hp2
        have t6 := t5.same s6
        have f6 : Fr x a3 a3 H3 _ := f5.trans (Fr.same s6)
        have hp6 : upd H5 p2 (.tup [.int (gN (gL st4.held idx) 1 : Nat), .int (gN (gL st4.held idx) 0 : Nat)]) p2 = some (.tup [.int (gN (gL st4.held idx) 1 : Nat), .int (gN (gL st4.held idx) 0 : Nat)]) := upd_same
        have hq6 := s6 _ _ hqc
        generalize upd H5 p2 (.tup [.int (gN (gL st4.held idx) 1 : Nat), .int (gN (gL st4.held idx) 0 : Nat)]) = H6 at *
        refine ⟨p2, _, rfl, SqT.of hp6, rfl, _, _, rfl, _, rfl, q, _, _, 0, rfl, rfl, hq6, by rw [nI_len]; exact ixN_nat (i := 0) (by omega), ?_⟩
        rw [nI_put]
        have t7 := t6.heldAt (c := (gL st4.held idx).set 0 (gN (gL st4.held idx) 1)) hq ⟨_, hq6⟩
        have f7 : Fr x a3 a3 H3 (upd H6 q (.lst (nI ((gL st4.held idx).set 0 (gN (gL st4.held idx) 1))))) := f6.trans (Fr.put (mem_hs hq))
        have hq7 : upd H6 q (.lst (nI ((gL st4.held idx).set 0 (gN (gL st4.held idx) 1)))) q = some (.lst (nI ((gL st4.held idx).set 0 (gN (gL st4.held idx) 1)))) := upd_same
        generalize upd H6 q (.lst (nI ((gL st4.held idx).set 0 (gN (gL st4.held idx) 1)))) = H7 at *
        refine ⟨_, _, rfl, _, rfl, q, _, _, 1, rfl, rfl, hq7, by rw [nI_len]; exact ixN_nat (i := 1) (by rw [List.length_set]; omega), rfl, ?_⟩
        rw [nI_put]
        have t8 := t7.heldAt (c := swapL (gL st4.held idx) 0 1) hq ⟨_, hq7⟩
        have e8 : (st4.held.set idx ((gL st4.held idx).set 0 (gN (gL st4.held idx) 1))).set idx (swapL (gL st4.held idx) 0 1) = st4.held.set idx (swapL (gL st4.held idx) 0 1) := List.set_set ..
        replace t8 : TrA C x (upd H7 q (.lst (nI (swapL (gL st4.held idx) 0 1)))) { st4 with held := st4.held.set idx (swapL (gL st4.held idx) 0 1) } a3 := by rw [← e8]; exact t8
        refine nxt _ ?_ (f7.trans (Fr.put (mem_hs hq)))
        unfold turnF
        rw [if_pos c]
        exact t8
      · rw [decide_eq_false (fun z => c (by injection z with z; omega))]
        refine iteF (nxt H5 ?_ f5)
        unfold turnF
        rw [if_neg c]
        exact t5
    · rintro σ H4 ⟨o3, o4, o5, o6, st4, rfl, _, t4, LK4, e4, f4, hW4⟩
      rw [nI_len, List.drop_length] at e4
      have e4 : st4 = lookF st d := e4
      rw [e4] at t4
      exact kk H4 a3 t4 (f3.trans f4)
end
end K6
namespace K6
open PySem PySem.Spec PyProof.Rows L2 LamX NdefX EV
/-! ### a trail's methods: follow_on, draw_from_nothing, put -/
def spFollow (C : Addr) : Sp := fun vs H Q _ => ∃ (x : Addr) (st : TS) (a : TAd) (F : List (List Nat)) (n : Nat), vs = [.ref x] ∧ TrA C x H st a ∧ TOk F n ∧ TFol F n st ∧
  ∀ H' a', TrA C x H' (followF (n + 1) st) a' → Fr x a a' H H' → Q .non H'
def spNothing (C : Addr) : Sp := fun vs H Q _ => ∃ (x : Addr) (st : TS) (a : TAd) (F : List (List Nat)) (n : Nat), vs = [.ref x] ∧ TrA C x H st a ∧ TOk F n ∧ TInv F n st ∧ TWat F st 0 [] ∧ st.fol = 0 ∧ (∀ i ∈ st.short, i < F.length ∧ (gL F i).length < 2) ∧ st.held = F ∧
  ∀ H' a', TrA C x H' (nothingF n st) a' → Fr x a a' H H' → Q .non H'
def spPutT (C : Addr) : Sp := fun vs H Q _ => ∃ (x : Addr) (l : Nat) (st : TS) (a : TAd) (F : List (List Nat)) (n : Nat), vs = [.ref x, .int (l : Nat)] ∧ TrA C x H st a ∧ TOk F n ∧ Trl F n st ∧ st.clash = none ∧ l < 2 * n ∧ (∀ m ∈ st.chosen, m / 2 ≠ l / 2) ∧ st.chosen.length ≤ 1000 ∧ st.starts.length ≤ 1000 ∧
  ∀ H' a', TrA C x H' (putT n st l) a' → Fr x a a' H H' → Q .non H'
theorem oV1_none (o : Option Nat) : decide (oV1 o = V.non) = decide (o = none) := by cases o <;> rfl
section
variable {P : Program} {w : World} {K : PySem.W.Frag} {mg : Str → Option Value} {base : Heap} {f fL fS fO C : Addr} {fd fdL fdS fdO : FuncData}
theorem scFollow : FnScope ["self"] ["self"] (defScope sFollowOn) := ⟨rfl, rfl, rfl, by decide +kernel, rfl, by decide +kernel, by decide +kernel⟩
theorem ok_follow (F : Fun K "follow_on" "Trail.follow_on" sFollowOn f fd) (T : TTxt K mg C)
    (GL : FnOk P w K mg base CX0 2 fL fdL ["self", "denied"] (spLook C)) (mL : Meth K C "look_again" fL) (bL : L2.Binds K fdL ["self", "denied"] []) :
    FnOk P w K mg base CX0 3 f fd ["self"] (spFollow C) := by
  refine F.ok scFollow (fun vs H Q E h => ?_) (fun cdv A outer s H vs Q E hr h => ?_)
  · obtain ⟨x, st, a, F', n, rfl, _⟩ := h
    rfl
  · obtain ⟨x, st, a, Fc, n, rfl, t, o, fo, kk⟩ := h
    have hr2 : Room 2 _ := hr.mono (by decide)
    refine ⟨_, pss_one (ps_while PassesOwn.never (PW.pt (pw_and (pt_cmpR op_isN (pe_fld (pv 0) rfl) pe_non (nomark _)) (pw_and1 (pt_cmpR op_lt (pe_fld (pv 0) rfl) (pe_callB call_len (by rfl) T.len PySem.boot_len (pa_cons (pe_fld (pv 0) rfl) pa_nil)) (nomark _)))))
        (pss_cons (ps_expr (pe_meth (pv 0) T.cl mL GL hr2 bL .nil pass0 (pa_cons (pe_op op_xor (pe_ix ix_list (pe_fld (pv 0) rfl) (pe_fld (pv 0) rfl) (fun _ _ => rfl)) pe_int) pa_nil)))
        (pss_one (ps_fld (pv 0) (pe_op op_add (pe_fld (pv 0) rfl) pe_int) rfl)))), ?_⟩
    refine ⟨fun m σ H1 => ∃ (s : TS) (a1 : TAd) (j : Nat), σ = [some (.ref x)] ∧ TrA C x H1 s a1 ∧ TFol Fc n s ∧ followF j s = followF (n + 1) st ∧ n < j + s.fol ∧ Fr x a a1 H H1 ∧ m = n + 1 - s.fol, ⟨_, st, a, n + 1, rfl, t, fo, rfl, by omega, Fr.refl, rfl⟩, ?_⟩
    rintro m σ H1 ⟨s, a1, j, rfl, t1, f1, ej, hj, fr1, rfl⟩
    have few := f1.v.few
    have ffl := f1.v.fl
    obtain ⟨dx, fs, hx, L⟩ := t1.at_
    refine ⟨_, rfl, x, C, dx, fs, _, rfl, hx, T.cl, T.cz, L.cz, rfl, _, rfl, ?_⟩
    rw [oV1_none]
    by_cases c1 : s.clash = none
    · rw [decide_eq_true c1]
      refine iteT ⟨_, rfl, x, C, dx, fs, _, rfl, hx, T.cl, T.fo, L.fo, _, rfl, x, C, dx, fs, _, rfl, hx, T.cl, T.sp, L.sp, _, _, rfl, .inl ⟨_, SqL.of t1.l.sp, rfl⟩, _, _, rfl, rfl, _, rfl, ?_⟩
      rw [nI_len]
      by_cases c2 : s.fol < s.steps.length
      · rw [decide_eq_true (by omega)]
        obtain ⟨j', rfl⟩ : ∃ j', j = j' + 1 := ⟨j - 1, by omega⟩
        have ej2 : followF (j' + 1) s = followF j' { lookF s (flip (gN s.steps s.fol)) with fol := s.fol + 1 } := by rw [followF, if_pos ⟨c1, c2⟩]
        obtain ⟨g1, K1, e1⟩ := look_done o.g f1 c1 c2
        have hlt := f1.v.slt _ (gN_mem c2)
        refine iteT ⟨fun σ' H' => ∃ (a2 : TAd), σ' = [some (.ref x)] ∧ TrA C x H' { lookF s (flip (gN s.steps s.fol)) with fol := s.fol + 1 } a2 ∧ Fr x a a2 H H', ?_, ?_⟩
        · rintro σ' H' ⟨a2, rfl, t2, fr2⟩
          exact ⟨_, by show n + 1 - (s.fol + 1) < n + 1 - s.fol; omega, _, a2, j', rfl, t2, g1, ej2.symm.trans ej, by show n < j' + (s.fol + 1); omega, fr2, rfl⟩
        · refine ⟨_, rfl, x, dx, fs, rfl, hx, L.me _ (by decide +kernel), _, rfl, x, C, dx, fs, _, rfl, hx, T.cl, T.sp, L.sp, _, rfl, x, C, dx, fs, _, rfl, hx, T.cl, T.fo, L.fo, a1.sp, _, _, _, rfl, rfl, SqL.of t1.l.sp, at_nat c2, _, _, rfl, rfl, x, flip (gN s.steps s.fol), s.fol, s, a1, Fc, n, by show [V.ref x, V.int (Builtin.bitXor (gN s.steps s.fol : Nat) 1)] = _; rw [xor_one], t1, o, flip_lt hlt, look_start f1 c1 c2, fun H2 a2 t2 fr2 => ?_⟩
          obtain ⟨dx2, fs2, hx2, L2'⟩ := t2.at_
          have fl := L2'.len
          refine ⟨_, rfl, x, C, dx2, fs2, _, rfl, hx2, T.cl, T.fo, L2'.fo, _, _, rfl, rfl, _, rfl, x, C, dx2, fs2, rfl, hx2, T.cl, T.fo, by omega, a2, rfl, ?_, (fr1.trans fr2).trans Fr.putx⟩
          have t3 := t2.fol (n := s.fol + 1) hx2
          show TrA C x (upd H2 x (.ins C dx2 (putF "followed" (V.int (((lookF s (flip (gN s.steps s.fol))).fol : Nat) + 1)) fs2))) _ a2
          rw [show (((lookF s (flip (gN s.steps s.fol))).fol : Nat) : Int) + 1 = ((s.fol + 1 : Nat) : Int) by rw [e1]; omega]
          exact t3
      · rw [decide_eq_false (by omega)]
        refine iteF ?_
        have e : followF j s = s := by
          cases j with
          | zero => rfl
          | succ j => rw [followF, if_neg (fun z => c2 z.2)]
        exact kk H1 a1 (by rw [← ej, e]; exact t1) fr1
    · rw [decide_eq_false c1]
      refine iteF (iteF ?_)
      have e : followF j s = s := by
        cases j with
        | zero => rfl
        | succ j => rw [followF, if_neg (fun z => c1 z.1)]
      exact kk H1 a1 (by rw [← ej, e]; exact t1) fr1
abbrev nNothing : List Str := ["self", "index", "clause"]
theorem scNothing : FnScope nNothing ["self"] (defScope sNothing) := ⟨rfl, rfl, rfl, by decide +kernel, rfl, by decide +kernel, by decide +kernel⟩
theorem nothing_short (st : TS) (xs : List Nat) : (xs.foldl nothingStep st).short = st.short ∧ (xs.foldl nothingStep st).layers.length = st.layers.length := by
  induction xs generalizing st with
  | nil => exact ⟨rfl, rfl⟩
  | cons i xs ih =>
    obtain ⟨e1, e2⟩ := ih (nothingStep st i)
    rw [List.foldl_cons, e1, e2]
    unfold nothingStep setSoF
    split
    · exact ⟨rfl, rfl⟩
    · split
      · exact ⟨rfl, List.length_set⟩
      · exact ⟨rfl, rfl⟩
theorem ok_nothing (F : Fun K "draw_from_nothing" "Trail.draw_from_nothing" sNothing f fd) (T : TTxt K mg C)
    (GS : FnOk P w K mg base CX0 1 fS fdS ["self", "literal", "reason"] (spSetSo C)) (mS : Meth K C "set_so" fS) (bS : L2.Binds K fdS ["self", "literal", "reason"] [])
    (GO : FnOk P w K mg base CX0 3 fO fdO ["self"] (spFollow C)) (mO : Meth K C "follow_on" fO) (bO : L2.Binds K fdO ["self"] []) :
    FnOk P w K mg base CX0 4 f fd ["self"] (spNothing C) := by
  obtain ⟨td, hde⟩ := T.denied
  obtain ⟨tu, hun⟩ := T.unset
  refine F.ok scNothing (fun vs H Q E h => ?_) (fun cdv A outer s H vs Q E hr h => ?_)
  · obtain ⟨x, st, a, F', n, rfl, _⟩ := h
    rfl
  · obtain ⟨x, st, a, Fc, n, rfl, t, o, v, wt, fo, sh, hh, kk⟩ := h
    have hr3 : Room 3 _ := hr.mono (by decide)
    have hr1 : Room 1 _ := hr.mono (by decide)
    refine ⟨_, pss_cons (ps_for PassesOwn.never rfl (pi_list (pe_fld (pv 0) rfl)) (pg_name (i := 1) scNothing.nd rfl (.inl rfl))
        (pss_cons (ps_set (i := 2) scNothing.nd rfl (.inl rfl) (pe_ix ix_list (pe_fld (pv 0) rfl) (pv 1) (fun _ _ => rfl)))
        (pss_one (ps_if (PW.pt (pw_or (pt_not (pt_truth (pv 2) (fun _ => rfl))) (pw_or1 (pt_cmpR op_eq (pe_ix ix_list (pe_fld (pv 0) rfl) (pe_ix ix_list (pv 2) pe_int (fun _ _ => rfl)) (fun _ _ => rfl)) (pe_glob (v := .int 2) (by rfl) hde ⟨_, rfl⟩) (nomark _)))))
          (pss_one (ps_fld (pv 0) (pv 1) rfl))
          (pss_one (ps_if (pt_cmpR op_eq (pe_ix ix_list (pe_fld (pv 0) rfl) (pe_ix ix_list (pv 2) pe_int (fun _ _ => rfl)) (fun _ _ => rfl)) (pe_glob (v := .int 0) (by rfl) hun ⟨_, rfl⟩) (nomark _))
            (pss_one (ps_expr (pe_meth (pv 0) T.cl mS GS hr1 bS .nil pass0 (pa_cons (pe_ix ix_list (pv 2) pe_int (fun _ _ => rfl)) (pa_cons (pv 1) pa_nil))))) pss_nil))))))
      (pss_one (ps_expr (pe_meth0 (pv 0) T.cl mO GO hr3 bO .nil pass0))), ?_⟩
    obtain ⟨dx, fs, hx, L⟩ := t.at_
    have pre : ∀ i, i ≤ st.short.length → ∀ j ∈ st.short.take i, j < Fc.length ∧ (gL Fc j).length < 2 := fun i _ j hj => sh j (List.mem_of_mem_take hj)
    refine ⟨_, rfl, x, C, dx, fs, _, rfl, hx, T.cl, T.sh, L.sh, a.sh, rfl, ⟨_, SqL.of t.l.sh⟩, for_list (K := K) (a := a.sh) (xs := nI st.short) (fun i σ H1 => ∃ o1 o2 : Option V, σ = [some (.ref x), o1, o2] ∧ i ≤ st.short.length ∧ TrA C x H1 ((st.short.take i).foldl nothingStep st) a ∧ Fr x a a H H1)
      ⟨_, _, rfl, Nat.zero_le _, t, Fr.refl⟩ (fun i σ H1 _ ⟨_, _, _, _, t1, _⟩ => SqL.of (by have z := t1.l.sh; rw [(nothing_short st _).1] at z; exact z)) ?_ ?_⟩
    · rintro i v' σ H1 hv ⟨o1, o2, rfl, _, t1, f1⟩
      have hi : i < st.short.length := by
        have := (List.getElem?_eq_some_iff.mp hv).1
        rwa [nI_len] at this
      rw [nI_get (gN_get hi)] at hv
      obtain rfl := Option.some.inj hv
      obtain ⟨q1, q2, q3, q4, q5, q6, q7⟩ := nothing_spec o.g (st.short.take i) st v wt fo (pre i (Nat.le_of_lt hi)) hh
      have es : (st.short.take (i + 1)).foldl nothingStep st = nothingStep ((st.short.take i).foldl nothingStep st) (gN st.short i) := by
        rw [take_succ_gN hi, List.foldl_append]
        rfl
      rw [es]
      obtain ⟨hF, hl2⟩ := sh _ (gN_mem hi)
      generalize (st.short.take i).foldl nothingStep st = s1 at *
      generalize gN st.short i = idx at *
      obtain ⟨dx, fs, hx, L⟩ := t1.at_
      obtain ⟨q, hq, hqc⟩ := t1.held_ (i := idx) (by rw [q1.lh]; exact hF)
      have ls := q1.ls
      have few := q1.few
      have nl := o.nl
      have ll := q1.ll
      have lr := q1.lr
      refine ⟨_, rfl, x, C, dx, fs, _, rfl, hx, T.cl, T.hd, L.hd, _, rfl, a.hd, _, _, _, rfl, rfl, SqL.of t1.l.hd, at_ref hq, ?_⟩
      refine ⟨_, rfl, _, .inl ⟨_, SqL.of hqc, rfl⟩, ?_⟩
      have clash : ∀ (cc : gL s1.held idx = [] ∨ gN s1.sides (gN (gL s1.held idx) 0) = 2), sFld K (tVar 0) (tVar 1) "clash" { nx := fun σ H1 => ∃ o1 o2 : Option V, σ = [some (.ref x), o1, o2] ∧ i + 1 ≤ st.short.length ∧ TrA C x H1 (nothingStep s1 idx) a ∧ Fr x a a H H1, rt := Q } [some (.ref x), some (.int (idx : Nat)), some (.ref q)] H1 := fun cc => by
        have fl := L.len
        refine ⟨_, rfl, _, rfl, x, C, dx, fs, rfl, hx, T.cl, T.cz, by omega, _, _, rfl, by omega, ?_, f1.trans Fr.putx⟩
        unfold nothingStep
        rw [if_pos cc]
        exact t1.clash (n := some idx) hx
      cases hc : gL s1.held idx with
      | nil => exact iteT (clash (.inl hc))
      | cons l0 rest =>
        have h0 : 0 < (gL s1.held idx).length := by rw [hc]; exact Nat.succ_pos _
        have hlt := q1.hlt o.g hF (gN_mem h0)
        refine iteF ⟨_, rfl, x, C, dx, fs, _, rfl, hx, T.cl, T.sd, L.sd, _, rfl, q, _, 0, _, rfl, rfl, SqL.of hqc, at_nat (i := 0) h0, a.sd, _, _, _, rfl, rfl, SqL.of t1.l.sd, at_nat (by omega), rfl, _, rfl, ?_⟩
        by_cases c2 : gN s1.sides (gN (gL s1.held idx) 0) = 2
        · rw [decide_eq_true (by rw [c2]; rfl)]
          exact iteT (clash (.inr c2))
        · rw [decide_eq_false (fun z => c2 (by injection z with z; omega))]
          have ne : ¬ (gL s1.held idx = [] ∨ gN s1.sides (gN (gL s1.held idx) 0) = 2) := fun z => z.elim (fun z => by rw [hc] at z; cases z) c2
          refine iteF ⟨_, rfl, x, C, dx, fs, _, rfl, hx, T.cl, T.sd, L.sd, _, rfl, q, _, 0, _, rfl, rfl, SqL.of hqc, at_nat (i := 0) h0, a.sd, _, _, _, rfl, rfl, SqL.of t1.l.sd, at_nat (by omega), rfl, _, rfl, ?_⟩
          by_cases c0 : gN s1.sides (gN (gL s1.held idx) 0) = 0
          · rw [decide_eq_true (by rw [c0]; rfl)]
            refine iteT ⟨_, rfl, x, dx, fs, rfl, hx, L.me _ (by decide +kernel), _, rfl, q, _, 0, _, rfl, rfl, SqL.of hqc, at_nat (i := 0) h0, _, rfl, x, _, some idx, s1, a, rfl, t1, by omega, by have := flip_lt hlt; omega, by omega, by omega, by omega, fun H' t' f' => ⟨_, _, rfl, by omega, ?_, f1.trans f'⟩⟩
            unfold nothingStep
            rw [if_neg ne, if_pos c0]
            exact t'
          · rw [decide_eq_false (fun z => c0 (by injection z with z; omega))]
            refine iteF ⟨_, _, rfl, by omega, ?_, f1⟩
            unfold nothingStep
            rw [if_neg ne, if_neg c0]
            exact t1
    · rintro σ H1 ⟨o1, o2, rfl, _, t1, f1⟩
      rw [nI_len, List.take_length] at t1
      obtain ⟨q1, q2, q3, q4, q5, q6, q7⟩ := nothing_spec o.g st.short st v wt fo sh hh
      have e : nothingF n st = followF (n + 1) (st.short.foldl nothingStep st) := rfl
      rw [e] at kk
      generalize st.short.foldl nothingStep st = s1 at *
      obtain ⟨dx, fs, hx, L⟩ := t1.at_
      exact ⟨_, rfl, x, dx, fs, rfl, hx, L.me _ (by decide +kernel), x, s1, a, Fc, n, rfl, t1, o, ⟨q1, q2, fun _ i h1 h2 => by
        rw [q3]
        exact ⟨fun z => (nomatch z), fun z => (nomatch z)⟩⟩, fun H' a' t' f' => kk H' a' t' (f1.trans f')⟩
theorem scPut : FnScope ["self", "literal"] ["self", "literal"] (defScope sPut) := ⟨rfl, rfl, rfl, by decide +kernel, rfl, by decide +kernel, by decide +kernel⟩
theorem ok_put (F : Fun K "put" "Trail.put" sPut f fd) (T : TTxt K mg C)
    (GS : FnOk P w K mg base CX0 1 fS fdS ["self", "literal", "reason"] (spSetSo C)) (mS : Meth K C "set_so" fS) (bS : L2.Binds K fdS ["self", "literal", "reason"] [])
    (GO : FnOk P w K mg base CX0 3 fO fdO ["self"] (spFollow C)) (mO : Meth K C "follow_on" fO) (bO : L2.Binds K fdO ["self"] []) :
    FnOk P w K mg base CX0 4 f fd ["self", "literal"] (spPutT C) := by
  obtain ⟨td, hde⟩ := T.denied
  obtain ⟨tu, hun⟩ := T.unset
  refine F.ok scPut (fun vs H Q E h => ?_) (fun cdv A outer s H vs Q E hr h => ?_)
  · obtain ⟨x, l, st, a, F', n, rfl, _⟩ := h
    rfl
  · obtain ⟨x, l, st, a, Fc, n, rfl, t, o, tr, hc, hl, new, lch, lst, kk⟩ := h
    have hr3 : Room 3 _ := hr.mono (by decide)
    have hr1 : Room 1 _ := hr.mono (by decide)
    refine ⟨_, pss_cons (ps_expr (pe_bm PySem.F.plainAttrs_list PySem.F.slot_list_append PySem.F.type_list_append mt_append (pe_fld (pv 0) rfl) (pa_cons (pv 1) pa_nil)))
      (pss_cons (ps_expr (pe_bm PySem.F.plainAttrs_list PySem.F.slot_list_append PySem.F.type_list_append mt_append (pe_fld (pv 0) rfl) (pa_cons (pe_callB call_len (by rfl) T.len PySem.boot_len (pa_cons (pe_fld (pv 0) rfl) pa_nil)) pa_nil)))
      (pss_one (ps_if (pt_cmpR op_eq (pe_ix ix_list (pe_fld (pv 0) rfl) (pv 1) (fun _ _ => rfl)) (pe_glob (v := .int 2) (by rfl) hde ⟨_, rfl⟩) (nomark _))
        (pss_one (ps_fld (pv 0) (pe_ix ix_list (pe_fld (pv 0) rfl) (pe_op op_fdiv (pv 1) pe_int) (fun _ _ => rfl)) rfl))
        (pss_one (ps_if (pt_cmpR op_eq (pe_ix ix_list (pe_fld (pv 0) rfl) (pv 1) (fun _ _ => rfl)) (pe_glob (v := .int 0) (by rfl) hun ⟨_, rfl⟩) (nomark _))
          (pss_cons (ps_expr (pe_meth (pv 0) T.cl mS GS hr1 bS .nil pass0 (pa_cons (pv 1) (pa_cons pe_non pa_nil)))) (pss_one (ps_expr (pe_meth0 (pv 0) T.cl mO GO hr3 bO .nil pass0)))) pss_nil))))), ?_⟩
    have v := tr.f.v
    have ls := v.ls
    have ll := v.ll
    have lr := v.lr
    have few := v.few
    have nl := o.nl
    have sb := size_big
    obtain ⟨dx, fs, hx, L⟩ := t.at_
    refine ⟨_, rfl, x, C, dx, fs, _, rfl, hx, T.cl, T.ch, L.ch, tyL t.l.ch, _, rfl, a.ch, _, _, rfl, rfl, t.l.ch, by rw [nI_len]; omega, ?_⟩
    rw [nI_snoc]
    have t1 := t.chosen (v := st.chosen ++ [l])
    have f1 : Fr x a a H (upd H a.ch (.lst (nI (st.chosen ++ [l])))) := Fr.put (TAd.mem_top (by unfold TAd.top; simp))
    generalize upd H a.ch (.lst (nI (st.chosen ++ [l]))) = H1 at *
    obtain ⟨dx, fs, hx, L⟩ := t1.at_
    refine ⟨_, rfl, x, C, dx, fs, _, rfl, hx, T.cl, T.sta, L.sta, tyL t1.l.sta, _, rfl, x, C, dx, fs, _, rfl, hx, T.cl, T.sp, L.sp, _, _, rfl, .inl ⟨_, SqL.of t1.l.sp, rfl⟩, a.sta, _, _, rfl, rfl, t1.l.sta, by rw [nI_len]; show st.starts.length < _; omega, ?_⟩
    rw [nI_len, nI_snoc]
    have t2 := t1.starts (v := st.starts ++ [st.steps.length])
    have f2 : Fr x a a H (upd H1 a.sta (.lst (nI (st.starts ++ [st.steps.length])))) := f1.trans (Fr.put (TAd.mem_top (by unfold TAd.top; simp)))
    generalize upd H1 a.sta (.lst (nI (st.starts ++ [st.steps.length]))) = H2 at *
    obtain ⟨dx, fs, hx, L⟩ := t2.at_
    have half : ((l : Nat) : Int) / 2 = ((l / 2 : Nat) : Int) := by omega
    unfold putT at kk
    refine ⟨_, rfl, x, C, dx, fs, _, rfl, hx, T.cl, T.sd, L.sd, _, rfl, a.sd, _, _, _, rfl, rfl, SqL.of t2.l.sd, at_nat (by show l < st.sides.length; omega), rfl, _, rfl, ?_⟩
    by_cases c2 : gN st.sides l = 2
    · rw [decide_eq_true (by show V.int (gN st.sides l : Nat) = _; rw [c2]; rfl)]
      simp only [if_pos c2] at kk
      have fl := L.len
      refine iteT ⟨_, rfl, x, C, dx, fs, _, rfl, hx, T.cl, T.rs, L.rs, _, rfl, _, _, rfl, rfl, by unfold CDiv; decide, a.rs, _, _, _, rfl, rfl, SqL.of t2.l.rs, by rw [half]; exact at_opt (by show l / 2 < st.reasons.length; omega), _, rfl, x, C, dx, fs, rfl, hx, T.cl, T.cz, by omega, ?_⟩
      exact kk _ a (t2.clash (n := gO st.reasons (l / 2)) hx) (f2.trans Fr.putx)
    · rw [decide_eq_false (fun z => c2 (by have z : V.int (gN st.sides l : Nat) = V.int 2 := z; injection z with z; omega))]
      simp only [if_neg c2] at kk
      refine iteF ⟨_, rfl, x, C, dx, fs, _, rfl, hx, T.cl, T.sd, L.sd, _, rfl, a.sd, _, _, _, rfl, rfl, SqL.of t2.l.sd, at_nat (by show l < st.sides.length; omega), rfl, _, rfl, ?_⟩
      by_cases c0 : gN st.sides l = 0
      · rw [decide_eq_true (by show V.int (gN st.sides l : Nat) = _; rw [c0]; rfl)]
        simp only [if_pos c0] at kk
        refine iteT ⟨_, rfl, x, dx, fs, rfl, hx, L.me _ (by decide +kernel), _, rfl, x, l, none, _, a, rfl, t2, by show l < st.sides.length; omega, by show flip l < st.sides.length; have := flip_lt hl; omega, by show l / 2 < st.layers.length; omega, by show l / 2 < st.reasons.length; omega, by show st.steps.length ≤ 1000; omega, fun H3 t3 f3 => ?_⟩
        obtain ⟨dx, fs, hx, L⟩ := t3.at_
        refine ⟨_, rfl, x, dx, fs, rfl, hx, L.me _ (by decide +kernel), x, _, a, Fc, n, rfl, t3, o, putT_fol tr hc hl c0, fun H4 a4 t4 f4 => kk H4 a4 t4 ((f2.trans f3).trans f4)⟩
      · rw [decide_eq_false (fun z => c0 (by have z : V.int (gN st.sides l : Nat) = V.int 0 := z; injection z with z; omega))]
        simp only [if_neg c0] at kk
        exact iteF (kk H2 a t2 f2)
end
end K6
namespace K6
open PySem PySem.Spec PyProof.Rows L2 LamX NdefX EV
/-! ### a trail's methods: go_back (nothing was put), lead, pairs -/
def spBack0 (C : Addr) : Sp := fun vs H Q _ => ∃ (x : Addr) (k : Nat) (st : TS) (a : TAd), vs = [.ref x, .int (k : Nat)] ∧ TrA C x H st a ∧ st.starts.length ≤ k ∧ Q .non H
def spLead (C : Addr) : Sp := fun vs H Q _ => ∃ (x g : Addr) (given : List Nat) (st : TS) (a : TAd) (F : List (List Nat)) (n : Nat), vs = [.ref x, .ref g] ∧ H g = some (.lst (nI given)) ∧ TrA C x H st a ∧ TOk F n ∧ Trl F n st ∧ st.chosen = [] ∧ st.starts = [] ∧ (∀ l ∈ given, l < 2 * n) ∧ (given.map (· / 2)).Nodup ∧ given.length ≤ 500 ∧
  ∀ H' a', TrA C x H' (leadT n given st) a' → Fr x a a' H H' → Q (.bl (decide ((leadT n given st).clash = none))) H'
abbrev PairsAt (H : Hp) : List Addr → List (Option Nat × Option Nat) → Prop := Paired (fun t p => H t = some (.tup [oV1 p.1, oV1 p.2]))
def spPairs (C : Addr) : Sp := fun vs H Q _ => ∃ (x g : Addr) (given : List Nat) (st : TS) (a : TAd) (F : List (List Nat)) (n : Nat), vs = [.ref x, .ref g] ∧ H g = some (.lst (nI given)) ∧ TrA C x H st a ∧ TOk F n ∧ TInv F n st ∧ given.Nodup ∧ given.length ≤ 500 ∧
  ∀ p ts H', H p = none → Same H H' → H' p = some (.lst (ts.map V.ref)) → PairsAt H' ts (pairsF st given) → Q (.ref p) H'
theorem paired_app {α β : Type} {R : α → β → Prop} : ∀ {a c : List α} {b d : List β}, Paired R a b → Paired R c d → Paired R (a ++ c) (b ++ d)
  | _, _, _, _, .nil, h => h
  | _, _, _, _, .cons x t, h => .cons x (paired_app t h)
def seenI (n : Nat) : Key × V := (Sum.inl (n : Int), .bl true)
theorem seenI_none {n : Nat} : ∀ ns : List Nat, n ∉ ns → valV (ns.map seenI) (Sum.inl (n : Int)) = none
  | [], _ => rfl
  | m :: r, h => by
    have ne : ¬ (seenI m).1 = Sum.inl (n : Int) := fun q => by
      have q : (Sum.inl (m : Int) : Key) = Sum.inl (n : Int) := q
      injection q with q
      exact h ((Int.ofNat.inj q) ▸ List.mem_cons_self)
    rw [List.map_cons, valV_neg ne]
    exact seenI_none r fun q => h (List.mem_cons_of_mem _ q)
theorem seenI_some {n : Nat} : ∀ ns : List Nat, n ∈ ns → valV (ns.map seenI) (Sum.inl (n : Int)) = some (.bl true)
  | [], h => nomatch h
  | m :: r, h => by
    by_cases e : m = n
    · subst e
      exact valV_pos rfl
    · have ne : ¬ (seenI m).1 = Sum.inl (n : Int) := fun q => by
        have q : (Sum.inl (m : Int) : Key) = Sum.inl (n : Int) := q
        injection q with q
        exact e (Int.ofNat.inj q)
      rw [List.map_cons, valV_neg ne]
      exact seenI_some r ((List.mem_cons.mp h).resolve_left fun q => e q.symm)
section
variable {P : Program} {w : World} {K : PySem.W.Frag} {mg : Str → Option Value} {base : Heap} {f fB fP C : Addr} {fd fdB fdP : FuncData}
abbrev nBack : List Str := ["self", "layer", "start", "literal"]
theorem scBack : FnScope nBack ["self", "layer"] (defScope sGoBack) := ⟨rfl, rfl, rfl, by decide +kernel, rfl, by decide +kernel, by decide +kernel⟩
theorem ok_back0 (F : Fun K "go_back" "Trail.go_back" sGoBack f fd) (T : TTxt K mg C) : FnOk P w K mg base CX0 1 f fd ["self", "layer"] (spBack0 C) := by
  refine F.ok scBack (fun vs H Q E h => ?_) (fun cdv A outer s H vs Q E hr h => ?_)
  · obtain ⟨x, k, st, a, rfl, _⟩ := h
    rfl
  · obtain ⟨x, k, st, a, rfl, t, hk, kk⟩ := h
    refine ⟨_, pss_cons (ps_if (pt_cmpR op_le (pe_callB call_len (by rfl) T.len PySem.boot_len (pa_cons (pe_fld (pv 0) rfl) pa_nil)) (pv 1) (nomark _)) (pss_one ps_retN) pss_nil)
      (pss_cons ps_none (pss_cons ps_none (pss_cons ps_none (pss_cons ps_none (pss_cons ps_none (pss_cons ps_none (pss_one ps_none))))))), ?_⟩
    obtain ⟨dx, fs, hx, L⟩ := t.at_
    refine ⟨_, rfl, x, C, dx, fs, _, rfl, hx, T.cl, T.sta, L.sta, _, _, rfl, .inl ⟨_, SqL.of t.l.sta, rfl⟩, _, rfl, _, _, rfl, rfl, _, rfl, ?_⟩
    rw [nI_len, decide_eq_true (by omega)]
    exact iteT kk
abbrev nLead : List Str := ["self", "given", "same", "literal"]
theorem scLead : FnScope nLead ["self", "given"] (defScope sLead) := ⟨rfl, rfl, rfl, by decide +kernel, rfl, by decide +kernel, by decide +kernel⟩
theorem lead_snoc (n : Nat) (xs : List Nat) (l : Nat) (st : TS) : leadT n (xs ++ [l]) st = if (leadT n xs st).clash = none then putT n (leadT n xs st) l else leadT n xs st := by
  unfold leadT
  rw [List.foldl_append]
  rfl
abbrev XLd (P : Program) (w : World) (K : PySem.W.Frag) (mg : Str → Option Value) (base : Heap) (f : Addr) (cdv : Value) (A : Around) (outer : List Env) (s0 : Shared) (HH : Hp) (E : XK) : Cx := (cxOf CX0 P w K mg base nLead "Trail.lead" (defScope sLead) f cdv A outer s0 HH E).nox
theorem seg_lead {cdv : Value} {A : Around} {outer : List Env} {s0 : Shared} {HH : Hp} {E : XK} (T : TTxt K mg C)
    (GB : FnOk P w K mg base CX0 1 fB fdB ["self", "layer"] (spBack0 C)) (mB : Meth K C "go_back" fB) (bB : L2.Binds K fdB ["self", "layer"] [])
    (GP : FnOk P w K mg base CX0 4 fP fdP ["self", "literal"] (spPutT C)) (mP : Meth K C "put" fP) (bP : L2.Binds K fdP ["self", "literal"] []) (hr : Room 4 (XLd P w K mg base f cdv A outer s0 HH E).A) :
    ∃ tt, PSs (XLd P w K mg base f cdv A outer s0 HH E) ((defBody sLead).drop 2) tt ∧ ∀ (D : Ends) (x g : Addr) (given : List Nat) (st : TS) (a : TAd) (Fc : List (List Nat)) (n : Nat) (H : Hp), H g = some (.lst (nI given)) → TrA C x H st a → TOk Fc n → Trl Fc n st → st.chosen = [] → st.starts = [] → (∀ l ∈ given, l < 2 * n) → (given.map (· / 2)).Nodup → given.length ≤ 500 →
      (∀ H' a', TrA C x H' (leadT n given st) a' → Fr x a a' H H' → D.rt (.bl (decide ((leadT n given st).clash = none))) H') →
      tt D [some (.ref x), some (.ref g), some (.int 0), none] H := by
  have hr1 : Room 1 _ := hr.mono (by decide)
  refine ⟨_, (pss_cons (ps_expr (pe_meth (pv 0) T.cl mB GB hr1 bB .nil pass0 (pa_cons (pv 2) pa_nil)))
      (pss_cons (ps_for PassesOwn.never rfl (pi_list (pe_slice sl_list (pv 1) (po_some (pv 2)) po_none)) (pg_name (i := 3) scLead.nd rfl (.inl rfl))
        (pss_one (ps_if (pt_cmpR op_isN (pe_fld (pv 0) rfl) pe_non (nomark _)) (pss_one (ps_expr (pe_meth (pv 0) T.cl mP GP hr bP .nil pass0 (pa_cons (pv 3) pa_nil)))) pss_nil)))
      (pss_one (ps_ret (pe_cmpR op_isN (pe_fld (pv 0) rfl) pe_non (nomark _)))))), ?_⟩
  intro D x g given st a Fc n H hg t o tr hch hst hl nd len kk
  obtain ⟨dx, fs, hx, L⟩ := t.at_
  refine ⟨_, rfl, x, dx, fs, rfl, hx, L.me _ (by decide +kernel), _, rfl, x, 0, st, a, rfl, t, by rw [hst]; exact Nat.le_refl _, ?_⟩
  refine ⟨_, rfl, _, rfl, _, rfl, g, _, rfl, SqL.of hg, fun z hz => ?_⟩
  rw [show (0 : Int) = ((0 : Nat) : Int) from rfl, cutV_drop, List.drop_zero]
  have s1 := same_new (o := .lst (nI given)) hz
  have t1 := t.same s1
  have hz1 : upd H z (.lst (nI given)) z = some (.lst (nI given)) := upd_same
  have zx : z ≠ x := fun e => by rw [e, hx] at hz; cases hz
  have za : z ∉ a.all := fun m => by
    obtain ⟨u, hu⟩ := t.live m
    rw [hu] at hz
    cases hz
  have f1 : Fr x a a H (upd H z (.lst (nI given))) := Fr.same s1
  generalize upd H z (.lst (nI given)) = H1 at *
  have nd0 : ((st.chosen ++ given).map (· / 2)).Nodup := by rw [hch]; exact nd
  have sub : ∀ i, i ≤ given.length → (∀ l ∈ given.take i, l < 2 * n) ∧ ((st.chosen ++ given.take i).map (· / 2)).Nodup := fun i _ => ⟨fun l hl' => hl l (List.mem_of_mem_take hl'), by
    rw [hch, List.nil_append, List.map_take]
    exact nd.sublist (List.take_sublist _ _)⟩
  have none0 : st.clash = none → ∀ l ∈ st.chosen, l ∈ st.steps := fun _ l h => by rw [hch] at h; cases h
  refine ⟨z, rfl, ⟨_, SqL.of hz1⟩, for_list (K := K) (a := z) (xs := nI given) (fun i σ H2 => ∃ (o3 : Option V) (a2 : TAd), σ = [some (.ref x), some (.ref g), some (.int 0), o3] ∧ i ≤ given.length ∧ TrA C x H2 (leadT n (given.take i) st) a2 ∧ Fr x a a2 H1 H2)
    ⟨_, a, rfl, Nat.zero_le _, t1, Fr.refl⟩ (fun i σ H2 _ ⟨_, _, _, _, _, f2⟩ => SqL.of (f2.keep _ _ hz1 zx za)) ?_ ?_⟩
  · rintro i v σ H2 hv ⟨o3, a2, rfl, _, t2, f2⟩
    have hi : i < given.length := by
      have := (List.getElem?_eq_some_iff.mp hv).1
      rwa [nI_len] at this
    rw [nI_get (gN_get hi)] at hv
    obtain rfl := Option.some.inj hv
    obtain ⟨q1, q2, q3, q4⟩ := lead_spec o.g (given.take i) st tr (sub i (Nat.le_of_lt hi)).1 (sub i (Nat.le_of_lt hi)).2 none0
    obtain ⟨l1, l2⟩ := lead_len o.g (given.take i) st tr (sub i (Nat.le_of_lt hi)).1 (sub i (Nat.le_of_lt hi)).2 none0
    have es : leadT n (given.take (i + 1)) st = if (leadT n (given.take i) st).clash = none then putT n (leadT n (given.take i) st) (gN given i) else leadT n (given.take i) st := by
      rw [take_succ_gN hi, lead_snoc]
    rw [hch, List.length_nil, List.length_take] at l1
    rw [hst, List.length_nil, List.length_take] at l2
    have new : ∀ m ∈ (leadT n (given.take i) st).chosen, m / 2 ≠ gN given i / 2 := fun m hm e => by
      rcases q2 m hm with h | h
      · rw [hch] at h; cases h
      · obtain ⟨j, hj, ej⟩ := mem_gN h
        rw [List.length_take] at hj
        have hj2 : j < given.length := by omega
        have : gN (given.take i) j = gN given j := by
          unfold gN
          rw [List.getD_eq_getElem?_getD, List.getD_eq_getElem?_getD, List.getElem?_take, if_pos (by omega)]
        have := gN_inj nd hj2 hi (by rw [← this, ej, e])
        omega
    rw [es]
    generalize leadT n (given.take i) st = s1 at *
    obtain ⟨dx, fs, hx, L⟩ := t2.at_
    refine ⟨_, rfl, x, C, dx, fs, _, rfl, hx, T.cl, T.cz, L.cz, rfl, _, rfl, ?_⟩
    rw [oV1_none]
    by_cases c : s1.clash = none
    · rw [decide_eq_true c]
      rw [if_pos c]
      exact iteT ⟨_, rfl, x, dx, fs, rfl, hx, L.me _ (by decide +kernel), _, rfl, x, _, s1, a2, Fc, n, rfl, t2, o, q1, c, hl _ (gN_mem hi), new, by omega, by omega, fun H' a' t' f' => ⟨_, a', rfl, by omega, t', f2.trans f'⟩⟩
    · rw [decide_eq_false c]
      rw [if_neg c]
      exact iteF ⟨_, a2, rfl, by omega, t2, f2⟩
  · rintro σ H2 ⟨o3, a2, rfl, _, t2, f2⟩
    rw [nI_len, List.take_length] at t2
    obtain ⟨dx, fs, hx, L⟩ := t2.at_
    refine ⟨_, rfl, x, C, dx, fs, _, rfl, hx, T.cl, T.cz, L.cz, rfl, ?_⟩
    rw [oV1_none]
    exact kk H2 a2 t2 (f1.trans f2)
theorem ok_lead (F : Fun K "lead" "Trail.lead" sLead f fd) (T : TTxt K mg C)
    (GB : FnOk P w K mg base CX0 1 fB fdB ["self", "layer"] (spBack0 C)) (mB : Meth K C "go_back" fB) (bB : L2.Binds K fdB ["self", "layer"] [])
    (GP : FnOk P w K mg base CX0 4 fP fdP ["self", "literal"] (spPutT C)) (mP : Meth K C "put" fP) (bP : L2.Binds K fdP ["self", "literal"] []) :
    FnOk P w K mg base CX0 5 f fd ["self", "given"] (spLead C) := by
  refine F.ok scLead (fun vs H Q E h => ?_) (fun cdv A outer s H vs Q E hr h => ?_)
  · obtain ⟨x, g, given, st, a, F', n, rfl, _⟩ := h
    rfl
  · obtain ⟨x, g, given, st, a, Fc, n, rfl, hg, t, o, tr, hch, hst, hl, nd, len, kk⟩ := h
    have hr1 : Room 1 _ := hr.mono (by decide)
    have hr4 : Room 4 _ := hr.mono (by decide)
    obtain ⟨tl, pl, kl⟩ := seg_lead (P := P) (w := w) (base := base) (f := f) (cdv := cdv) (A := A) (outer := outer) (s0 := s) (HH := H) (E := E) T GB mB bB GP mP bP hr4
    refine ⟨_, pss_cons (ps_set (i := 2) scLead.nd rfl (.inl rfl) pe_int)
      (pss_cons (ps_while PassesOwn.never (PW.pt (pw_and (pt_cmpR op_lt (pv 2) (pe_callB call_len (by rfl) T.len PySem.boot_len (pa_cons (pv 1) pa_nil)) (nomark _)) (pw_and (pt_cmpR op_lt (pv 2) (pe_callB call_len (by rfl) T.len PySem.boot_len (pa_cons (pe_fld (pv 0) rfl) pa_nil)) (nomark _)) (pw_and1 (pt_cmpR op_eq (pe_ix ix_list (pv 1) (pv 2) (fun _ _ => rfl)) (pe_ix ix_list (pe_fld (pv 0) rfl) (pv 2) (fun _ _ => rfl)) (nomark _)))))) (pss_one ps_none)) pl), ?_⟩
    obtain ⟨dx, fs, hx, L⟩ := t.at_
    refine ⟨fun m σ H1 => σ = [some (.ref x), some (.ref g), some (.int 0), none] ∧ H1 = H, ⟨0, rfl, rfl⟩, ?_⟩
    rintro m σ H1 ⟨rfl, rfl⟩
    have go := kl { nx := fun _ H' => Q .non H', rt := Q } x g given st a Fc n H1 hg t o tr hch hst hl nd len kk
    refine ⟨_, rfl, _, rfl, _, _, rfl, .inl ⟨_, SqL.of hg, rfl⟩, _, _, rfl, rfl, _, rfl, ?_⟩
    by_cases c : 0 < given.length
    · rw [nI_len, decide_eq_true (by omega)]
      refine iteT ⟨_, rfl, _, rfl, x, C, dx, fs, _, rfl, hx, T.cl, T.ch, L.ch, _, _, rfl, .inl ⟨_, SqL.of t.l.ch, rfl⟩, _, _, rfl, rfl, _, rfl, ?_⟩
      rw [nI_len, hch, decide_eq_false (by decide)]
      exact iteF (iteF go)
    · rw [nI_len, decide_eq_false (by omega)]
      exact iteF (iteF go)
abbrev nPairs : List Str := ["self", "given", "found", "literal", "put"]
theorem scPairs : FnScope nPairs ["self", "given"] (defScope sPairs) := ⟨rfl, rfl, rfl, by decide +kernel, rfl, by decide +kernel, by decide +kernel⟩
theorem ok_pairs (F : Fun K "pairs" "Trail.pairs" sPairs f fd) (T : TTxt K mg C) : FnOk P w K mg base CX0 1 f fd ["self", "given"] (spPairs C) := by
  refine F.ok scPairs (fun vs H Q E h => ?_) (fun cdv A outer s H vs Q E hr h => ?_)
  · obtain ⟨x, g, given, st, a, F', n, rfl, _⟩ := h
    rfl
  · obtain ⟨x, g, given, st, a, Fc, n, rfl, hg, t, o, v, nd, len, kk⟩ := h
    have hu := hu_of hr
    refine ⟨_, pss_cons (ps_set (i := 2) scPairs.nd rfl (.inl rfl) (pe_lst pa_nil))
      (pss_cons (ps_setDc (i := 4) (own := [("literal", 3)]) .k rfl hu scPairs.nd rfl rfl (sw_trueD rfl rfl rfl (by decide +kernel)) (pi_list (pv 1)) (blkOk_by (N := nPairs) (sc := defScope sPairs) (by decide +kernel)) (fun _ _ _ _ _ => pg_name (i := 3) scPairs.nd rfl (.inl rfl)) (fun _ _ _ _ _ => pts_nil) (fun _ _ _ _ _ => pv 3) (fun _ _ _ _ _ => pe_bl))
      (pss_cons (ps_for PassesOwn.never rfl (pi_list (pe_fld (pv 0) rfl)) (pg_name (i := 3) scPairs.nd rfl (.inl rfl))
        (pss_cons (ps_if (pt_cmp (pc_din hu (pe_op op_xor (pv 3) pe_int) (pv 4)))
          (pss_one (ps_ret (pe_lst (show PA _ _ (StX.tStar K _ _) from StX.pa_star (pv 2) (pa_cons (pe_tup (pa_cons (pe_ix ix_list (pe_fld (pv 0) rfl) (pe_op op_fdiv (pv 3) pe_int) (fun _ _ => rfl)) (pa_cons pe_non pa_nil))) pa_nil))))) pss_nil)
        (pss_one (ps_if (pt_cmp (pc_dnotin hu (pv 3) (pv 4)))
          (pss_one (ps_expr (pe_bm PySem.F.plainAttrs_list PySem.F.slot_list_append PySem.F.type_list_append mt_append (pv 2) (pa_cons (pe_tup (pa_cons (pe_ix ix_list (pe_fld (pv 0) rfl) (pe_op op_fdiv (pv 3) pe_int) (fun _ _ => rfl)) (pa_cons (pv 3) pa_nil))) pa_nil)))) pss_nil))))
      (pss_cons (ps_if (pt_cmpR op_notN (pe_fld (pv 0) rfl) pe_non (nomark _))
        (pss_one (ps_expr (pe_bm PySem.F.plainAttrs_list PySem.F.slot_list_append PySem.F.type_list_append mt_append (pv 2) (pa_cons (pe_tup (pa_cons (pe_fld (pv 0) rfl) (pa_cons pe_non pa_nil))) pa_nil)))) pss_nil)
      (pss_one (ps_ret (pv 2)))))), ?_⟩
    have sb := size_big
    have few := v.few
    have nl := o.nl
    refine ⟨Nat.zero_le _, fun p hp => ?_⟩
    have s1 := same_new (o := .lst []) hp
    have t1 := t.same s1
    have hp1 : upd H p (.lst []) p = some (.lst ([] : List V)) := upd_same
    have hg1 := s1 _ _ hg
    refine ⟨_, rfl, g, rfl, ⟨_, SqL.of hg1⟩, fun D hD => dc_it (walk_list (xs := nI given)) (fun i H5 => Same (upd H p (.lst [])) H5 ∧ H5 D = some (.dK ((given.take i).map seenI))) ⟨same_new hD, upd_same⟩ (fun i H5 _ hh => SqL.of (hh.1 _ _ hg1)) ?_ ?_⟩
    · rintro i y H5 H6 hi ⟨sm5, hD5⟩ ⟨rfl, hy⟩
      rw [nI_len] at hi
      rw [nI_get (gN_get hi)] at hy
      obtain rfl := Option.some.inj hy
      have nb : gN given i ∉ given.take i := not_before nd (gN_get hi)
      refine ⟨rfl, _, rfl, _, DPut.k (k := Sum.inl (gN given i : Int)) hD5 (by rw [List.length_map, List.length_take]; omega), fun c o h => (upd_ne (ne_of_none h hD)).trans (sm5 c o h), ?_⟩
      rw [upd_same, putK_new (seenI_none _ nb), take_succ_gN hi, List.map_append]
      rfl
    · rintro H5 ⟨sm5, hD5⟩
      rw [nI_len, List.take_length] at hD5
      have hp5 := sm5 _ _ hp1
      have sm05 : Same H H5 := s1.trans sm5
      have t5 := t.same sm05
      have Dp : D ≠ p := fun e => by rw [e, hp1] at hD; cases hD
      have DH : H D = none := s1.free hD
      obtain ⟨dx, fs, hx, L⟩ := t5.at_
      refine ⟨_, rfl, x, C, dx, fs, _, rfl, hx, T.cl, T.sp, L.sp, a.sp, rfl, ⟨_, SqL.of t5.l.sp⟩, for_list (K := K) (a := a.sp) (xs := nI st.steps) (fun i σ H6 => ∃ (o3 : Option V) (ts : List Addr) (found : List (Option Nat × Option Nat)), σ = [some (.ref x), some (.ref g), some (.ref p), o3, some (.ref D)] ∧ i ≤ st.steps.length ∧ found.length ≤ i ∧ Same H H6 ∧ H6 p = some (.lst (ts.map V.ref)) ∧ PairsAt H6 ts found ∧ H6 D = some (.dK (given.map seenI)) ∧ pairsGo st given found (st.steps.drop i) = pairsF st given)
        ⟨_, [], [], rfl, Nat.zero_le _, Nat.zero_le _, sm05, hp5, .nil, hD5, rfl⟩ (fun i σ H6 _ ⟨_, _, _, _, _, _, sm, _⟩ => SqL.of (sm _ _ t.l.sp)) ?_ ?_⟩
      · rintro i y σ H6 hv ⟨o3, ts, found, rfl, _, lf, sm6, hp6, pa6, hD6, eg⟩
        have hi : i < st.steps.length := by
          have := (List.getElem?_eq_some_iff.mp hv).1
          rwa [nI_len] at this
        rw [nI_get (gN_get hi)] at hv
        obtain rfl := Option.some.inj hv
        have ed : st.steps.drop i = gN st.steps i :: st.steps.drop (i + 1) := by rw [List.drop_eq_getElem_cons hi, gN_elem hi]
        rw [ed, pairsGo] at eg
        have hlt := v.slt _ (gN_mem hi)
        have lr := v.lr
        generalize gN st.steps i = l at *
        have t6 := t.same sm6
        obtain ⟨dx, fs, hx, L⟩ := t6.at_
        have half : ((l : Nat) : Int) / 2 = ((l / 2 : Nat) : Int) := by omega
        have g1 : ∀ m : Nat, DGet H6 D (.int (m : Nat)) (valV (given.map seenI) (Sum.inl (m : Int))) := fun m => DGet.k (k := Sum.inl (m : Int)) hD6
        have lts : ts.length = found.length := Paired.length pa6
        refine ⟨_, rfl, _, _, rfl, rfl, _, rfl, D, _, rfl, (show DGet H6 D (V.int (Builtin.bitXor (l : Nat) 1)) (valV (given.map seenI) (Sum.inl (flip l : Int))) by rw [xor_one]; exact g1 (flip l)), _, rfl, ?_⟩
        by_cases c1 : flip l ∈ given
        · rw [seenI_some _ c1]
          rw [if_pos c1] at eg
          refine iteT ⟨_, rfl, p, _, rfl, .inr (SqL.of hp6), _, rfl, x, C, dx, fs, _, rfl, hx, T.cl, T.rs, L.rs, _, rfl, _, _, rfl, rfl, by unfold CDiv; decide, a.rs, _, _, _, rfl, rfl, SqL.of t6.l.rs, by rw [half]; exact at_opt (by omega), by show 2 ≤ sizeLine; decide, fun q hq => ⟨?_, fun r hr => ?_⟩⟩
          · rw [List.length_append, List.length_map, lts]
            show found.length + 1 ≤ _
            omega
          have s7 := same_new (o := .tup [oV1 (gO st.reasons (l / 2)), .non]) hq
          have s8 := same_new (o := .lst (ts.map V.ref ++ [V.ref q])) hr
          refine kk r (ts ++ [q]) _ ?_ ((sm6.trans s7).trans s8) ?_ ?_
          · exact (sm6.trans s7).free hr
          · rw [List.map_append]
            exact upd_same
          · rw [← eg]
            exact paired_app (Paired.mapP pa6 fun t' p' z => s8 _ _ (s7 _ _ z)) (.cons (s8 _ _ upd_same) .nil)
        · rw [seenI_none _ c1]
          rw [if_neg c1] at eg
          refine iteF ⟨_, rfl, _, rfl, D, _, rfl, g1 l, _, rfl, ?_⟩
          by_cases c2 : l ∈ given
          · rw [seenI_some _ c2]
            rw [if_pos c2] at eg
            exact iteF ⟨_, ts, found, rfl, by omega, by omega, sm6, hp6, pa6, hD6, eg⟩
          · rw [seenI_none _ c2]
            rw [if_neg c2] at eg
            refine iteT ⟨_, rfl, tyL hp6, _, rfl, x, C, dx, fs, _, rfl, hx, T.cl, T.rs, L.rs, _, rfl, _, _, rfl, rfl, by unfold CDiv; decide, a.rs, _, _, _, rfl, rfl, SqL.of t6.l.rs, by rw [half]; exact at_opt (by omega), _, rfl, by show 2 ≤ sizeLine; decide, fun q hq => ?_⟩
            have s7 := same_new (o := .tup [oV1 (gO st.reasons (l / 2)), .int (l : Nat)]) hq
            have hp7 := s7 _ _ hp6
            have hq7 : upd H6 q (.tup [oV1 (gO st.reasons (l / 2)), .int (l : Nat)]) q = some (.tup [oV1 (gO st.reasons (l / 2)), .int (l : Nat)]) := upd_same
            have hD7 := s7 _ _ hD6
            have pa7 : PairsAt _ ts found := Paired.mapP pa6 fun t' p' z => s7 _ _ z
            have sm7 := sm6.trans s7
            generalize upd H6 q (.tup [oV1 (gO st.reasons (l / 2)), .int (l : Nat)]) = H7 at *
            have pk : ∀ {b : Addr} {u : HO}, H7 b = some u → (∀ xs, u ≠ .lst xs) → upd H7 p (.lst (ts.map V.ref ++ [V.ref q])) b = some u := fun {b u} e ne => (upd_ne fun q' => by rw [q', hp7] at e; exact ne _ (Option.some.inj e).symm).trans e
            refine ⟨p, _, _, rfl, rfl, hp7, by rw [List.length_map, lts]; omega, ?_⟩
            refine ⟨_, ts ++ [q], found ++ [(gO st.reasons (l / 2), some l)], rfl, by omega, by rw [List.length_append]; show found.length + 1 ≤ _; omega, fun c u h => (upd_ne (ne_of_none h hp)).trans (sm7 c u h), ?_, ?_, pk hD7 (fun _ z => nomatch z), eg⟩
            · rw [List.map_append]
              exact upd_same
            · exact paired_app (Paired.mapP pa7 fun t' p' z => pk z (fun _ z => nomatch z)) (.cons (pk hq7 (fun _ z => nomatch z)) .nil)
      · rintro σ H6 ⟨o3, ts, found, rfl, _, lf, sm6, hp6, pa6, hD6, eg⟩
        rw [nI_len] at lf eg
        rw [List.drop_length, pairsGo] at eg
        have t6 := t.same sm6
        have lts : ts.length = found.length := Paired.length pa6
        obtain ⟨dx, fs, hx, L⟩ := t6.at_
        refine ⟨_, rfl, x, C, dx, fs, _, rfl, hx, T.cl, T.cz, L.cz, rfl, _, rfl, ?_⟩
        rw [oV1_none]
        by_cases c : st.clash = none
        · rw [if_pos c] at eg
          rw [decide_eq_true c]
          exact iteF ⟨_, rfl, kk p ts H6 hp sm6 hp6 (by rw [← eg]; exact pa6)⟩
        · rw [if_neg c] at eg
          rw [decide_eq_false c]
          refine iteT ⟨_, rfl, tyL hp6, _, rfl, x, C, dx, fs, _, rfl, hx, T.cl, T.cz, L.cz, by show 2 ≤ sizeLine; decide, fun q hq => ?_⟩
          have s7 := same_new (o := .tup [oV1 st.clash, .non]) hq
          have hp7 := s7 _ _ hp6
          have hq7 : upd H6 q (.tup [oV1 st.clash, .non]) q = some (.tup [oV1 st.clash, .non]) := upd_same
          have pa7 : PairsAt _ ts found := Paired.mapP pa6 fun t' p' z => s7 _ _ z
          have sm7 := sm6.trans s7
          generalize upd H6 q (.tup [oV1 st.clash, .non]) = H7 at *
          have pk : ∀ {b : Addr} {u : HO}, H7 b = some u → (∀ xs, u ≠ .lst xs) → upd H7 p (.lst (ts.map V.ref ++ [V.ref q])) b = some u := fun {b u} e ne => (upd_ne fun q' => by rw [q', hp7] at e; exact ne _ (Option.some.inj e).symm).trans e
          refine ⟨p, _, _, rfl, rfl, hp7, by rw [List.length_map, lts]; omega, ?_⟩
          refine ⟨_, rfl, kk p (ts ++ [q]) _ hp (fun c u h => (upd_ne (ne_of_none h hp)).trans (sm7 c u h)) ?_ ?_⟩
          · rw [List.map_append]
            exact upd_same
          · rw [← eg]
            exact paired_app (Paired.mapP pa7 fun t' p' z => pk z (fun _ z => nomatch z)) (.cons (pk hq7 (fun _ z => nomatch z)) .nil)
end
end K6
namespace K6
open PySem PySem.Spec PyProof.Rows L2 LamX NdefX EV
/-! ### a trail is made -/
/-- addresses that were free, each once -/
structure Used (H0 H : Hp) (L : List Addr) : Prop where
  nd : L.Nodup
  lv : ∀ b ∈ L, ∃ o, H b = some o
  nw : ∀ b ∈ L, H0 b = none
  li : ∀ b o, H0 b = some o → ∃ o', H b = some o'
theorem Used.nil {H : Hp} : Used H H [] := ⟨List.nodup_nil, (fun _ h => nomatch h), (fun _ h => nomatch h), fun _ o h => ⟨o, h⟩⟩
theorem Used.put {H0 H : Hp} {L : List Addr} {p : Addr} {o : HO} (u : Used H0 H L) : Used H0 (upd H p o) L := by
  have k : ∀ b, (∃ o, H b = some o) → ∃ o', upd H p o b = some o' := fun b ⟨o1, h⟩ => by
    by_cases e : b = p
    · exact ⟨o, by rw [e]; exact upd_same⟩
    · exact ⟨o1, (upd_ne e).trans h⟩
  exact ⟨u.nd, fun b hb => k b (u.lv b hb), u.nw, fun b o1 h => k b (u.li b o1 h)⟩
theorem Used.add {H0 H : Hp} {L : List Addr} {p : Addr} {o : HO} (u : Used H0 H L) (hp : H p = none) : Used H0 (upd H p o) (p :: L) := by
  have v := u.put (p := p) (o := o)
  refine ⟨List.nodup_cons.mpr ⟨fun m => ?_, u.nd⟩, fun b hb => ?_, fun b hb => ?_, v.li⟩
  · obtain ⟨o1, h⟩ := u.lv p m
    rw [hp] at h
    cases h
  · rcases List.mem_cons.mp hb with e | hb
    · exact ⟨o, by rw [e]; exact upd_same⟩
    · exact v.lv b hb
  · rcases List.mem_cons.mp hb with e | hb
    · rw [e]
      cases h : H0 p with
      | none => rfl
      | some o1 =>
        obtain ⟨o2, h2⟩ := u.li p o1 h
        rw [hp] at h2
        cases h2
    · exact u.nw b hb
theorem Used.perm {H0 H : Hp} {L L' : List Addr} (u : Used H0 H L) (p : L'.Perm L) : Used H0 H L' :=
  ⟨p.nodup_iff.mpr u.nd, fun b hb => u.lv b (p.mem_iff.mp hb), fun b hb => u.nw b (p.mem_iff.mp hb), u.li⟩
theorem Used.sub {H0 H : Hp} {L L' : List Addr} (u : Used H0 H L) (p : L'.Sublist L) : Used H0 H L' :=
  ⟨u.nd.sublist p, fun b hb => u.lv b (p.subset hb), fun b hb => u.nw b (p.subset hb), u.li⟩
theorem NsAt.grow {x : Addr} {H H' : Hp} (g : Grow x H H') : ∀ {ps : List Addr} {cs : List (List Nat)}, NsAt H ps cs → x ∉ ps → NsAt H' ps cs
  | _, _, .nil, _ => .nil
  | _, _, .cons a r, n => .cons (g _ _ (fun e => n (e ▸ List.mem_cons_self)) a) (NsAt.grow g r fun m => n (List.mem_cons_of_mem _ m))
theorem NsAt.snoc {H : Hp} {ps : List Addr} {cs : List (List Nat)} {p : Addr} {c : List Nat} (h : NsAt H ps cs) (e : H p = some (.lst (nI c))) : NsAt H (ps ++ [p]) (cs ++ [c]) := paired_app h (.cons e .nil)
theorem Grow.new {x p : Addr} {H : Hp} {o : HO} (hp : H p = none) : Grow x H (upd H p o) := Grow.of (same_new hp)
def rListOf (K : PySem.W.Frag) : List V → Hp → VK → Prop := fun xs H Q => ∃ p ys, xs = [V.ref p] ∧ (SqL K H p ys ∨ SqT K H p ys) ∧ ∀ l : Addr, H l = none → Q (.ref l) (upd H l (.lst ys))
abbrev nTInit : List Str := ["self", "many", "clauses", "clause", "index", "literal"]
theorem scTInit : FnScope nTInit ["self", "many", "clauses"] (defScope sTInit) := ⟨rfl, rfl, rfl, by decide +kernel, rfl, by decide +kernel, by decide +kernel⟩
abbrev XTi (P : Program) (w : World) (K : PySem.W.Frag) (mg : Str → Option Value) (base : Heap) (f : Addr) (cdv : Value) (A : Around) (outer : List Env) (s0 : Shared) (HH : Hp) (E : XK) : Cx := (cxOf CX0 P w K mg base nTInit "Trail.__init__" (defScope sTInit) f cdv A outer s0 HH E).nox
/-- what stands behind the first three fields -/
structure Ti3 (C x dx : Addr) (F : List (List Nat)) (n : Nat) (H0 H : Hp) (sd hd wt : Addr) (hs ws : List Addr) : Prop where
  hx : H x = some (.ins C dx (L2.putF "watchers" (.ref wt) (L2.putF "held" (.ref hd) (L2.putF "sides" (.ref sd) []))))
  esd : H sd = some (.lst (nI (List.replicate (2 * n) 0)))
  ehd : H hd = some (.lst (hs.map V.ref))
  ehs : NsAt H hs F
  ewt : H wt = some (.lst (ws.map V.ref))
  ews : NsAt H ws (List.replicate (2 * n) [])
  us : Used H0 H (ws.reverse ++ wt :: (hs.reverse ++ [hd, sd]))
  gr : Grow x H0 H
theorem flat_rep (k : Nat) (v : V) : (List.replicate k [v]).flatten = List.replicate k v := by
  induction k with
  | zero => rfl
  | succ k ih => rw [List.replicate_succ, List.flatten_cons, ih]; rfl
theorem nI_rep (k : Nat) : nI (List.replicate k 0) = List.replicate k (.int 0) := List.map_replicate
theorem oI_rep (k : Nat) : oI (List.replicate k none) = List.replicate k .non := List.map_replicate
section
variable {P : Program} {w : World} {K : PySem.W.Frag} {mg : Str → Option Value} {base : Heap} {f fW fD C : Addr} {fd fdW fdD : FuncData}
variable {cdv : Value} {A : Around} {outer : List Env} {s0 : Shared} {HH : Hp} {E : XK}
theorem seg_ti1 (T : TTxt K mg C) {tR : L2.TS} (pR : PSs (XTi P w K mg base f cdv A outer s0 HH E) ((defBody sTInit).drop 3) tR) :
    ∃ tt, PSs (XTi P w K mg base f cdv A outer s0 HH E) (defBody sTInit) tt ∧ ∀ (D : Ends) (x dx cl : Addr) (n : Nat) (F : List (List Nat)) (cs : List Addr) (H : Hp), H x = some (.ins C dx []) → H cl = some (.lst (cs.map V.ref)) → NsAt H cs F → TOk F n → cl ≠ x → x ∉ cs →
      (∀ sd hd wt hs ws H', Ti3 C x dx F n H H' sd hd wt hs ws → tR D [some (.ref x), some (.int (n : Nat)), some (.ref cl), none, none, none] H') →
      tt D [some (.ref x), some (.int (n : Nat)), some (.ref cl), none, none, none] H := by
  obtain ⟨tu, hun⟩ := T.unset
  refine ⟨_, pss_cons (ps_fld (pv 0) (pe_op op_rep (pe_lst (pa_cons (pe_glob (v := .int 0) (by rfl) hun ⟨_, rfl⟩) pa_nil)) (pe_op op_mul pe_int (pv 1))) rfl)
    (pss_cons (ps_fld (pv 0) (pe_lc (own := [("clause", 3)]) (g := gName 3) (tt := tYes) rfl scTInit.nd (pi_list (pv 2)) (blkOk_by (N := nTInit) (sc := defScope sTInit) (by decide +kernel)) (fun _ _ _ _ _ => pg_name (i := 3) scTInit.nd rfl (.inl rfl)) (fun _ _ _ _ _ => pts_nil)
        (fun _ _ _ _ _ => show PE _ _ (tCB (rListOf K) (tCons (tVar 3) tNil)) from pe_callTy call_list_of (by rfl) T.list (by decide +kernel) (pa_cons (pv 3) pa_nil))) rfl)
    (pss_cons (ps_fld (pv 0) (pe_lc (own := [("literal", 5)]) (g := gName 5) (tt := tYes) rfl scTInit.nd (pi_range1 (by rfl) T.range (pa_cons (pe_op op_mul pe_int (pv 1)) pa_nil)) (blkOk_by (N := nTInit) (sc := defScope sTInit) (by decide +kernel)) (fun _ _ _ _ _ => pg_name (i := 5) scTInit.nd rfl (.inl rfl)) (fun _ _ _ _ _ => pts_nil)
        (fun _ _ _ _ _ => pe_lst pa_nil)) rfl) pR)), ?_⟩
  intro D x dx cl n F cs H hx hcl hcs o clx xcs k
  have sb := size_big
  have nl := o.nl
  have fl := o.fl
  have two : (2 : Int) * ((n : Nat) : Int) = ((2 * n : Nat) : Int) := by omega
  refine ⟨size1, fun p0 hp0 => ⟨_, rfl, _, _, rfl, rfl, .inl ⟨by decide, by decide⟩, p0, ((2 * n : Nat) : Int), [.int 0], rfl, by show V.int (2 * (n : Int)) = _; rw [two], upd_same, by omega, by omega, ?_, fun sd hsd => ?_⟩⟩
  · show 1 * (2 * n) ≤ _
    omega
  rw [show (List.replicate ((2 * n : Nat) : Int).toNat [V.int 0]).flatten = nI (List.replicate (2 * n) 0) by rw [nI_rep, flat_rep]; rfl]
  have g0 := same_new (o := .lst [.int 0]) hp0
  have g1 := same_new (o := .lst (nI (List.replicate (2 * n) 0))) hsd
  have sm1 := g0.trans g1
  have u1 : Used H _ [sd] := ((Used.nil (H := H)).put (p := p0) (o := .lst [.int 0])).add (o := .lst (nI (List.replicate (2 * n) 0))) hsd
  have sd1 : upd (upd H p0 (.lst [.int 0])) sd (.lst (nI (List.replicate (2 * n) 0))) sd = some (.lst (nI (List.replicate (2 * n) 0))) := upd_same
  have nx : ∀ {b : Addr} {L : List Addr} {H' : Hp}, Used H H' L → b ∈ L → b ≠ x := fun u m e => by
    have := u.nw _ m
    rw [e, hx] at this
    cases this
  generalize upd (upd H p0 (.lst [.int 0])) sd (.lst (nI (List.replicate (2 * n) 0))) = H1 at *
  refine ⟨_, rfl, x, C, dx, [], rfl, sm1 _ _ hx, T.cl, T.sd, by decide, ?_⟩
  have gr2 : Grow x H (upd H1 x (.ins C dx (L2.putF "sides" (.ref sd) []))) := (Grow.of sm1).trans Grow.put
  have hx2 : upd H1 x (.ins C dx (L2.putF "sides" (.ref sd) [])) x = some (.ins C dx (L2.putF "sides" (.ref sd) [])) := upd_same
  have u2 := u1.put (p := x) (o := .ins C dx (L2.putF "sides" (.ref sd) []))
  have sd2 := Grow.put (x := x) (o := .ins C dx (L2.putF "sides" (.ref sd) [])) sd _ (nx u1 List.mem_cons_self) sd1
  generalize upd H1 x (.ins C dx (L2.putF "sides" (.ref sd) [])) = H2 at *
  have hcl2 := gr2 _ _ clx hcl
  have hcs2 := hcs.grow gr2 xcs
  refine ⟨_, rfl, cl, rfl, ⟨_, SqL.of hcl2⟩, fun hd hhd => lc_list (K := K) (a := cl) (xs := cs.map V.ref) (fun i H3 => ∃ hs : List Addr, H3 hd = some (.lst (hs.map V.ref)) ∧ NsAt H3 hs (F.take i) ∧ Used H H3 (hs.reverse ++ [hd, sd]) ∧ Same H2 H3) ⟨[], upd_same, .nil, u2.add hhd, same_new hhd⟩ (fun i H3 _ ⟨_, _, _, _, sm⟩ => SqL.of (sm _ _ hcl2)) ?_ ?_⟩
  · rintro i v H3 hv ⟨hs, hhd3, hns3, u3, sm3⟩
    obtain ⟨c, hc, rfl⟩ := get_map hv
    have hcl' : cs.length = F.length := Paired.length hcs
    have hi : i < F.length := by
      have := (List.getElem?_eq_some_iff.mp hc).1
      omega
    obtain ⟨c', hc', hcc⟩ := hcs2.get (i := i) (c := gL F i) (by unfold gL; rw [List.getD_eq_getElem?_getD, List.getElem?_eq_getElem hi]; rfl)
    obtain rfl : c = c' := Option.some.inj (hc.symm.trans hc')
    refine ⟨rfl, _, rfl, c, _, rfl, .inl (SqL.of (sm3 _ _ hcc)), fun q hq => ?_⟩
    have s4 := same_new (o := .lst (nI (gL F i))) hq
    have u4 := u3.add (o := .lst (nI (gL F i))) hq
    have hhd4 := s4 _ _ hhd3
    have hq4 : upd H3 q (.lst (nI (gL F i))) q = some (.lst (nI (gL F i))) := upd_same
    have sm4 := sm3.trans s4
    have hns4 := hns3.same s4
    have lhs : hs.length = i := by rw [Paired.length hns3, List.length_take]; omega
    generalize upd H3 q (.lst (nI (gL F i))) = H4 at *
    have nd4 := u4.nd
    have qhd : q ≠ hd := fun e => (List.nodup_cons.mp nd4).1 (by rw [e]; simp)
    have hdn : hd ∉ hs := fun m => by
      have z := (List.nodup_cons.mp nd4).2
      exact (List.nodup_append.mp z).2.2 hd (List.mem_reverse.mpr m) hd (by simp) rfl
    refine ⟨_, hhd4, by rw [List.length_map, lhs]; omega, hs ++ [q], ?_, ?_, ?_, fun b u e => (upd_ne (ne_of_none e hhd)).trans (sm4 b u e)⟩
    · rw [List.map_append]
      exact upd_same
    · rw [show F.take (i + 1) = F.take i ++ [gL F i] by
        rw [List.take_succ, List.getElem?_eq_getElem hi]
        unfold gL
        rw [List.getD_eq_getElem?_getD, List.getElem?_eq_getElem hi]
        rfl]
      exact (hns4.put hdn).snoc ((upd_ne qhd).trans hq4)
    · rw [List.reverse_append]
      exact u4.put
  rintro H3 ⟨hs, hhd3, hns3, u3, sm3⟩
  rw [List.length_map, show cs.length = F.length from Paired.length hcs, List.take_length] at hns3
  have hx3 := sm3 _ _ hx2
  refine ⟨_, rfl, x, C, dx, _, rfl, hx3, T.cl, T.hd, by show 1 < 1000; decide, ?_⟩
  have gr4 : Grow x H (upd H3 x (.ins C dx (L2.putF "held" (.ref hd) (L2.putF "sides" (.ref sd) [])))) := (gr2.trans (Grow.of sm3)).trans Grow.put
  have gp : Grow x H3 (upd H3 x (.ins C dx (L2.putF "held" (.ref hd) (L2.putF "sides" (.ref sd) [])))) := Grow.put
  have hx4 : upd H3 x (.ins C dx (L2.putF "held" (.ref hd) (L2.putF "sides" (.ref sd) []))) x = some (.ins C dx (L2.putF "held" (.ref hd) (L2.putF "sides" (.ref sd) []))) := upd_same
  have u4 := u3.put (p := x) (o := .ins C dx (L2.putF "held" (.ref hd) (L2.putF "sides" (.ref sd) [])))
  have xhs : x ∉ hs := fun m => nx u3 (by simp; exact .inl m) rfl
  have sd4 := gp sd _ (nx u3 (by simp)) (sm3 _ _ sd2)
  have hd4 := gp hd _ (nx u3 (by simp)) hhd3
  have hns4 := hns3.grow gp xhs
  generalize upd H3 x (.ins C dx (L2.putF "held" (.ref hd) (L2.putF "sides" (.ref sd) []))) = H4 at *
  refine ⟨_, rfl, _, _, rfl, rfl, .inl ⟨by decide, by decide⟩, ((2 * n : Nat) : Int), by show [V.int (2 * (n : Int))] = _; rw [two], by omega, by omega, fun wt hwt => lc_range (lo := 0) (n := 2 * n) (fun i H5 => ∃ ws : List Addr, H5 wt = some (.lst (ws.map V.ref)) ∧ NsAt H5 ws (List.replicate i []) ∧ Used H H5 (ws.reverse ++ wt :: (hs.reverse ++ [hd, sd])) ∧ Same H4 H5) ⟨[], upd_same, .nil, u4.add hwt, same_new hwt⟩ ?_ ?_⟩
  · rintro i H5 hi ⟨ws, hwt5, hns5, u5, sm5⟩
    refine ⟨rfl, Nat.zero_le _, fun q hq => ?_⟩
    have s6 := same_new (o := .lst (nI [])) hq
    have u6 := u5.add (o := .lst (nI [])) hq
    have hwt6 := s6 _ _ hwt5
    have hq6 : upd H5 q (.lst (nI [])) q = some (.lst (nI [])) := upd_same
    have sm6 := sm5.trans s6
    have hns6 := hns5.same s6
    have lws : ws.length = i := by rw [Paired.length hns5, List.length_replicate]
    show ∃ acc, upd H5 q (.lst (nI [])) wt = some (.lst acc) ∧ acc.length < sizeLine ∧ ∃ ws' : List Addr, upd (upd H5 q (.lst (nI []))) wt (.lst (acc ++ [.ref q])) wt = some (.lst (ws'.map V.ref)) ∧ NsAt (upd (upd H5 q (.lst (nI []))) wt (.lst (acc ++ [.ref q]))) ws' (List.replicate (i + 1) []) ∧ Used H (upd (upd H5 q (.lst (nI []))) wt (.lst (acc ++ [.ref q]))) (ws'.reverse ++ wt :: (hs.reverse ++ [hd, sd])) ∧ Same H4 (upd (upd H5 q (.lst (nI []))) wt (.lst (acc ++ [.ref q])))
    generalize upd H5 q (.lst (nI [])) = H6 at *
    have nd6 := u6.nd
    have qwt : q ≠ wt := fun e => (List.nodup_cons.mp nd6).1 (by rw [e]; simp)
    have wtn : wt ∉ ws := fun m => by
      have z := (List.nodup_cons.mp nd6).2
      exact (List.nodup_append.mp z).2.2 wt (List.mem_reverse.mpr m) wt (by simp) rfl
    refine ⟨_, hwt6, by rw [List.length_map, lws]; omega, ws ++ [q], ?_, ?_, ?_, fun b u e => (upd_ne (ne_of_none e hwt)).trans (sm6 b u e)⟩
    · rw [List.map_append]
      exact upd_same
    · rw [List.replicate_succ']
      exact (hns6.put wtn).snoc ((upd_ne qwt).trans hq6)
    · rw [List.reverse_append]
      exact u6.put
  rintro H5 ⟨ws, hwt5, hns5, u5, sm5⟩
  have hx5 := sm5 _ _ hx4
  refine ⟨_, rfl, x, C, dx, _, rfl, hx5, T.cl, T.wt, by show 2 < 1000; decide, ?_⟩
  have gp2 : Grow x H5 (upd H5 x (.ins C dx (L2.putF "watchers" (.ref wt) (L2.putF "held" (.ref hd) (L2.putF "sides" (.ref sd) []))))) := Grow.put
  have mws : ∀ b ∈ ws, b ∈ ws.reverse ++ wt :: (hs.reverse ++ [hd, sd]) := fun b m => List.mem_append_left _ (List.mem_reverse.mpr m)
  refine k sd hd wt hs ws _ ⟨upd_same, gp2 _ _ (nx u5 (by simp)) (sm5 _ _ sd4), gp2 _ _ (nx u5 (by simp)) (sm5 _ _ hd4), (hns4.same sm5).grow gp2 xhs, gp2 _ _ (nx u5 (by simp)) hwt5, hns5.grow gp2 (fun m => nx u5 (mws _ m) rfl), u5.put, (gr4.trans (Grow.of sm5)).trans gp2⟩
end
end K6
namespace K6
open PySem PySem.Spec PyProof.Rows L2 LamX NdefX EV
def fs3 (sd hd wt : Addr) : List (Str × V) := L2.putF "watchers" (.ref wt) (L2.putF "held" (.ref hd) (L2.putF "sides" (.ref sd) []))
def fs11 (a : TAd) : List (Str × V) := L2.putF "clash" .non (L2.putF "reasons" (.ref a.rs) (L2.putF "layers" (.ref a.ly) (L2.putF "starts" (.ref a.sta) (L2.putF "chosen" (.ref a.ch) (L2.putF "followed" (.int 0) (L2.putF "steps" (.ref a.sp) (L2.putF "short" (.ref a.sh) (fs3 a.sd a.hd a.wt))))))))
theorem fs11_eq (a : TAd) : fs11 a = ([("sides", V.ref a.sd), ("held", V.ref a.hd), ("watchers", V.ref a.wt), ("short", V.ref a.sh), ("steps", V.ref a.sp), ("followed", V.int 0), ("chosen", V.ref a.ch), ("starts", V.ref a.sta), ("layers", V.ref a.ly), ("reasons", V.ref a.rs), ("clash", V.non)] : List (Str × V)) := by
  unfold fs11 fs3 L2.putF
  rfl
theorem lookup_none {m : Str} : ∀ {fs : List (Str × V)}, (∀ p ∈ fs, m ≠ p.1) → fs.lookup m = none
  | [], _ => rfl
  | (k, v) :: r, h => by
    have hb : (m == k) = false := beq_eq_false_iff_ne.mpr (h _ List.mem_cons_self)
    simp only [List.lookup, hb]
    exact lookup_none fun p hp => h p (List.mem_cons_of_mem _ hp)
theorem fs11_no (a : TAd) (m : Str) (hm : (["watch", "set_so", "put", "lead", "follow_on", "look_again", "has_moved", "go_back", "pairs", "draw_from_nothing"] : List Str).contains m = true) : (fs11 a).lookup m = none := by
  rw [fs11_eq]
  refine lookup_none fun p hp e => ?_
  simp only [List.mem_cons, List.not_mem_nil, or_false] at hp
  rcases hp with rfl | rfl | rfl | rfl | rfl | rfl | rfl | rfl | rfl | rfl | rfl <;> (dsimp only at e; rw [e] at hm; revert hm; decide +kernel)
def rLenOf (K : PySem.W.Frag) : List V → Hp → VK → Prop := fun xs H Q => ∃ x n, xs = [x] ∧ LenV K x H n ∧ Q (.int n) H
def shortI (F : List (List Nat)) (i : Nat) : List Nat := (List.range i).filter fun j => decide ((gL F j).length < 2)
theorem shortI_succ (F : List (List Nat)) (i : Nat) : shortI F (i + 1) = shortI F i ++ (if (gL F i).length < 2 then [i] else []) := by
  unfold shortI
  rw [List.range_succ, List.filter_append]
  congr 1
  by_cases c : (gL F i).length < 2
  · rw [if_pos c, List.filter_cons_of_pos (by simpa using c)]
    rfl
  · rw [if_neg c, List.filter_cons_of_neg (by simpa using c)]
    rfl
theorem shortI_len (F : List (List Nat)) (i : Nat) : (shortI F i).length ≤ i := by
  unfold shortI
  exact Nat.le_trans (List.length_filter_le _ _) (by rw [List.length_range]; exact Nat.le_refl _)
section
variable {P : Program} {w : World} {K : PySem.W.Frag} {mg : Str → Option Value} {base : Heap} {f fW fD C : Addr} {fd fdW fdD : FuncData}
variable {cdv : Value} {A : Around} {outer : List Env} {s0 : Shared} {HH : Hp} {E : XK}
theorem seg_ti2 (T : TTxt K mg C) {tR : L2.TS} (pR : PSs (XTi P w K mg base f cdv A outer s0 HH E) ((defBody sTInit).drop 11) tR) :
    ∃ tt, PSs (XTi P w K mg base f cdv A outer s0 HH E) ((defBody sTInit).drop 3) tt ∧ ∀ (D : Ends) (x dx cl : Addr) (n : Nat) (F : List (List Nat)) (H0 H : Hp) (sd hd wt : Addr) (hs ws : List Addr), Ti3 C x dx F n H0 H sd hd wt hs ws → H0 x ≠ none → TOk F n →
      (∀ a H', TrA C x H' (blankF n F) a → Used H0 H' a.all → Grow x H0 H' → tR D [some (.ref x), some (.int (n : Nat)), some (.ref cl), none, none, none] H') →
      tt D [some (.ref x), some (.int (n : Nat)), some (.ref cl), none, none, none] H := by
  refine ⟨_, pss_cons (ps_fld (pv 0) (pe_lc (own := [("index", 4), ("clause", 3)]) rfl scTInit.nd (pi_enum (by rfl) T.enum (pa_cons (pe_fld (pv 0) rfl) pa_nil)) (blkOk_by (N := nTInit) (sc := defScope sTInit) (by decide +kernel))
        (fun _ _ _ _ _ => show PG _ _ (gTup K 2 _) from pg_tup rfl (pgs_cons (pg_name (i := 4) scTInit.nd rfl (.inl rfl)) (pgs_cons (pg_name (i := 3) scTInit.nd rfl (.inl rfl)) pgs_nil)))
        (fun _ _ _ _ _ => pts_one (show PT _ _ (tTest (tOp _ (tCB (rLenOf K) (tCons (tVar 3) tNil)) (tC (.int 2)))) from pt_cmpR op_lt (pe_callB call_len (by rfl) T.len PySem.boot_len (pa_cons (pv 3) pa_nil)) pe_int (nomark _))) (fun _ _ _ _ _ => pv 4)) rfl)
    (pss_cons (ps_fld (pv 0) (pe_lst pa_nil) rfl)
    (pss_cons (ps_fld (pv 0) pe_int rfl)
    (pss_cons (ps_fld (pv 0) (pe_lst pa_nil) rfl)
    (pss_cons (ps_fld (pv 0) (pe_lst pa_nil) rfl)
    (pss_cons (ps_fld (pv 0) (pe_op op_rep (pe_lst (pa_cons pe_int pa_nil)) (pv 1)) rfl)
    (pss_cons (ps_fld (pv 0) (pe_op op_rep (pe_lst (pa_cons pe_non pa_nil)) (pv 1)) rfl)
    (pss_cons (ps_fld (pv 0) pe_non rfl) pR))))))), ?_⟩
  intro D x dx cl n F H0 H sd hd wt hs ws S x0 o k
  have sb := size_big
  have nl := o.nl
  have fl := o.fl
  have lhs : hs.length = F.length := Paired.length S.ehs
  have nx : ∀ {b : Addr} {L : List Addr} {H' : Hp}, Used H0 H' L → b ∈ L → b ≠ x := fun u m e => x0 (e ▸ u.nw _ m)
  refine ⟨_, rfl, x, C, dx, fs3 sd hd wt, _, rfl, S.hx, T.cl, T.hd, rfl, hd, _, rfl, SqL.of S.ehd, fun sh hsh => lc_it (walk_enum (xs := hs.map V.ref)) (fun i H2 => i ≤ F.length ∧ Grow x H H2 ∧ Used H0 H2 (sh :: (ws.reverse ++ wt :: (hs.reverse ++ [hd, sd]))) ∧ H2 sh = some (.lst (nI (shortI F i))) ∧ Same H H2) ⟨Nat.zero_le _, Grow.new hsh, S.us.add hsh, upd_same, same_new hsh⟩ (fun i H2 _ h => SqL.of (h.2.2.2.2 _ _ S.ehd)) ?_ ?_⟩
  · rintro i y H2 H3 hi ⟨_, g2, u2, hsh2, sm2⟩ ⟨t, v1, v2, rfl, ht, rfl, hv1, hv2⟩
    obtain rfl := Option.some.inj hv1
    replace hv2 : (hs.map V.ref)[i]? = some v2 := hv2
    obtain ⟨q, hq, rfl⟩ := get_map hv2
    rw [List.length_map] at hi
    have hiF : i < F.length := by omega
    obtain ⟨q', hq', hqc⟩ := (S.ehs.same sm2).get (i := i) (c := gL F i) (by unfold gL; rw [List.getD_eq_getElem?_getD, List.getElem?_eq_getElem hiF]; rfl)
    obtain rfl : q = q' := Option.some.inj (hq.symm.trans hq')
    have st := same_new (o := .tup [.int (i : Nat), .ref q]) ht
    have u3 := u2.put (p := t) (o := .tup [.int (i : Nat), .ref q])
    have hqc3 := st _ _ hqc
    have hsh3 := st _ _ hsh2
    have ht3 : upd H2 t (.tup [.int (i : Nat), .ref q]) t = some (.tup [.int (i : Nat), .ref q]) := upd_same
    have sm3 := sm2.trans st
    generalize upd H2 t (.tup [.int (i : Nat), .ref q]) = H3 at *
    refine ⟨t, _, rfl, SqT.of ht3, rfl, _, _, rfl, _, _, rfl, rfl, rfl, _, rfl, _, _, rfl, .inl ⟨_, SqL.of hqc3, rfl⟩, _, _, rfl, rfl, _, rfl, ?_⟩
    rw [nI_len, shortI_succ]
    by_cases c : (gL F i).length < 2
    · rw [decide_eq_true (by omega), if_pos c]
      have := shortI_len F i
      have sm4 : Same H (upd H3 sh (.lst (nI (shortI F i) ++ [.int (i : Nat)]))) := fun b u e => (upd_ne (ne_of_none e hsh)).trans (sm3 b u e)
      refine iteT ⟨_, rfl, _, hsh3, by rw [nI_len]; omega, by omega, Grow.of sm4, u3.put, ?_, sm4⟩
      rw [upd_same, nI_snoc]
    · rw [decide_eq_false (by omega), if_neg c, List.append_nil]
      exact iteF ⟨by omega, Grow.of sm3, u3, hsh3, sm3⟩
  rintro Hs ⟨_, gs, us, hsh2, sms⟩
  rw [List.length_map, lhs] at hsh2
  refine ⟨_, rfl, x, C, dx, _, rfl, sms _ _ S.hx, T.cl, T.sh, by show 3 < 1000; decide, ?_⟩
  have ga : Grow x H (upd Hs x (.ins C dx (L2.putF "short" (.ref sh) (fs3 sd hd wt)))) := gs.trans Grow.put
  have ua := us.put (p := x) (o := .ins C dx (L2.putF "short" (.ref sh) (fs3 sd hd wt)))
  have xa : upd Hs x (.ins C dx (L2.putF "short" (.ref sh) (fs3 sd hd wt))) x = some (.ins C dx (L2.putF "short" (.ref sh) (fs3 sd hd wt))) := upd_same
  have esh : upd Hs x (.ins C dx (L2.putF "short" (.ref sh) (fs3 sd hd wt))) sh = some (.lst (nI (shortI F F.length))) := (upd_ne (nx us List.mem_cons_self)).trans hsh2
  change tSeq _ _ D _ (upd Hs x (.ins C dx (L2.putF "short" (.ref sh) (fs3 sd hd wt))))
  generalize upd Hs x (.ins C dx (L2.putF "short" (.ref sh) (fs3 sd hd wt))) = Ha at *
  refine ⟨Nat.zero_le _, fun sp hsp => ?_⟩
  have sm_b := same_new (o := .lst ([] : List V)) hsp
  have ub := ua.add (o := .lst ([] : List V)) hsp
  have esp : upd Ha sp (.lst ([] : List V)) sp = some (.lst (nI [])) := upd_same
  replace esh := sm_b _ _ esh
  replace xa := sm_b _ _ xa
  have gb0 := ga.trans (Grow.of sm_b)
  generalize upd Ha sp (.lst ([] : List V)) = Hb0 at *
  refine ⟨_, rfl, x, C, dx, _, rfl, xa, T.cl, T.sp, by show 4 < 1000; decide, ?_⟩
  have gb : Grow x H (upd Hb0 x (.ins C dx (L2.putF "steps" (.ref sp) (L2.putF "short" (.ref sh) (fs3 sd hd wt))))) := gb0.trans Grow.put
  have vb := ub.put (p := x) (o := .ins C dx (L2.putF "steps" (.ref sp) (L2.putF "short" (.ref sh) (fs3 sd hd wt))))
  replace esh := Grow.put (o := .ins C dx (L2.putF "steps" (.ref sp) (L2.putF "short" (.ref sh) (fs3 sd hd wt)))) _ _ (nx ub (by simp)) esh
  replace esp := Grow.put (o := .ins C dx (L2.putF "steps" (.ref sp) (L2.putF "short" (.ref sh) (fs3 sd hd wt)))) _ _ (nx ub (by simp)) esp
  replace xa : upd Hb0 x (.ins C dx (L2.putF "steps" (.ref sp) (L2.putF "short" (.ref sh) (fs3 sd hd wt)))) x = some (.ins C dx (L2.putF "steps" (.ref sp) (L2.putF "short" (.ref sh) (fs3 sd hd wt)))) := upd_same
  generalize upd Hb0 x (.ins C dx (L2.putF "steps" (.ref sp) (L2.putF "short" (.ref sh) (fs3 sd hd wt)))) = Hb at *
  have ub_ := vb
  replace ub := ub_
  refine ⟨_, rfl, x, C, dx, _, rfl, xa, T.cl, T.fo, by show 5 < 1000; decide, ?_⟩
  have gc : Grow x H (upd Hb x (.ins C dx (L2.putF "followed" (.int 0) (L2.putF "steps" (.ref sp) (L2.putF "short" (.ref sh) (fs3 sd hd wt)))))) := gb.trans Grow.put
  have vc := ub.put (p := x) (o := .ins C dx (L2.putF "followed" (.int 0) (L2.putF "steps" (.ref sp) (L2.putF "short" (.ref sh) (fs3 sd hd wt)))))
  replace esh := Grow.put (o := .ins C dx (L2.putF "followed" (.int 0) (L2.putF "steps" (.ref sp) (L2.putF "short" (.ref sh) (fs3 sd hd wt))))) _ _ (nx ub (by simp)) esh
  replace esp := Grow.put (o := .ins C dx (L2.putF "followed" (.int 0) (L2.putF "steps" (.ref sp) (L2.putF "short" (.ref sh) (fs3 sd hd wt))))) _ _ (nx ub (by simp)) esp
  replace xa : upd Hb x (.ins C dx (L2.putF "followed" (.int 0) (L2.putF "steps" (.ref sp) (L2.putF "short" (.ref sh) (fs3 sd hd wt))))) x = some (.ins C dx (L2.putF "followed" (.int 0) (L2.putF "steps" (.ref sp) (L2.putF "short" (.ref sh) (fs3 sd hd wt))))) := upd_same
  generalize upd Hb x (.ins C dx (L2.putF "followed" (.int 0) (L2.putF "steps" (.ref sp) (L2.putF "short" (.ref sh) (fs3 sd hd wt))))) = Hc at *
  have uc_ := vc
  have uc := uc_
  refine ⟨Nat.zero_le _, fun ch hch => ?_⟩
  have sm_d := same_new (o := .lst ([] : List V)) hch
  have ud := uc.add (o := .lst ([] : List V)) hch
  have ech : upd Hc ch (.lst ([] : List V)) ch = some (.lst (nI [])) := upd_same
  replace esh := sm_d _ _ esh
  replace esp := sm_d _ _ esp
  replace xa := sm_d _ _ xa
  have gd0 := gc.trans (Grow.of sm_d)
  generalize upd Hc ch (.lst ([] : List V)) = Hd0 at *
  refine ⟨_, rfl, x, C, dx, _, rfl, xa, T.cl, T.ch, by show 6 < 1000; decide, ?_⟩
  have gd : Grow x H (upd Hd0 x (.ins C dx (L2.putF "chosen" (.ref ch) (L2.putF "followed" (.int 0) (L2.putF "steps" (.ref sp) (L2.putF "short" (.ref sh) (fs3 sd hd wt))))))) := gd0.trans Grow.put
  have vd := ud.put (p := x) (o := .ins C dx (L2.putF "chosen" (.ref ch) (L2.putF "followed" (.int 0) (L2.putF "steps" (.ref sp) (L2.putF "short" (.ref sh) (fs3 sd hd wt))))))
  replace esh := Grow.put (o := .ins C dx (L2.putF "chosen" (.ref ch) (L2.putF "followed" (.int 0) (L2.putF "steps" (.ref sp) (L2.putF "short" (.ref sh) (fs3 sd hd wt)))))) _ _ (nx ud (by simp)) esh
  replace esp := Grow.put (o := .ins C dx (L2.putF "chosen" (.ref ch) (L2.putF "followed" (.int 0) (L2.putF "steps" (.ref sp) (L2.putF "short" (.ref sh) (fs3 sd hd wt)))))) _ _ (nx ud (by simp)) esp
  replace ech := Grow.put (o := .ins C dx (L2.putF "chosen" (.ref ch) (L2.putF "followed" (.int 0) (L2.putF "steps" (.ref sp) (L2.putF "short" (.ref sh) (fs3 sd hd wt)))))) _ _ (nx ud (by simp)) ech
  replace xa : upd Hd0 x (.ins C dx (L2.putF "chosen" (.ref ch) (L2.putF "followed" (.int 0) (L2.putF "steps" (.ref sp) (L2.putF "short" (.ref sh) (fs3 sd hd wt)))))) x = some (.ins C dx (L2.putF "chosen" (.ref ch) (L2.putF "followed" (.int 0) (L2.putF "steps" (.ref sp) (L2.putF "short" (.ref sh) (fs3 sd hd wt)))))) := upd_same
  generalize upd Hd0 x (.ins C dx (L2.putF "chosen" (.ref ch) (L2.putF "followed" (.int 0) (L2.putF "steps" (.ref sp) (L2.putF "short" (.ref sh) (fs3 sd hd wt)))))) = Hd at *
  have ud_ := vd
  replace ud := ud_
  refine ⟨Nat.zero_le _, fun sta hsta => ?_⟩
  have sm_e := same_new (o := .lst ([] : List V)) hsta
  have ue := ud.add (o := .lst ([] : List V)) hsta
  have esta : upd Hd sta (.lst ([] : List V)) sta = some (.lst (nI [])) := upd_same
  replace esh := sm_e _ _ esh
  replace esp := sm_e _ _ esp
  replace ech := sm_e _ _ ech
  replace xa := sm_e _ _ xa
  have ge0 := gd.trans (Grow.of sm_e)
  generalize upd Hd sta (.lst ([] : List V)) = He0 at *
  refine ⟨_, rfl, x, C, dx, _, rfl, xa, T.cl, T.sta, by show 7 < 1000; decide, ?_⟩
  have ge : Grow x H (upd He0 x (.ins C dx (L2.putF "starts" (.ref sta) (L2.putF "chosen" (.ref ch) (L2.putF "followed" (.int 0) (L2.putF "steps" (.ref sp) (L2.putF "short" (.ref sh) (fs3 sd hd wt)))))))) := ge0.trans Grow.put
  have ve := ue.put (p := x) (o := .ins C dx (L2.putF "starts" (.ref sta) (L2.putF "chosen" (.ref ch) (L2.putF "followed" (.int 0) (L2.putF "steps" (.ref sp) (L2.putF "short" (.ref sh) (fs3 sd hd wt)))))))
  replace esh := Grow.put (o := .ins C dx (L2.putF "starts" (.ref sta) (L2.putF "chosen" (.ref ch) (L2.putF "followed" (.int 0) (L2.putF "steps" (.ref sp) (L2.putF "short" (.ref sh) (fs3 sd hd wt))))))) _ _ (nx ue (by simp)) esh
  replace esp := Grow.put (o := .ins C dx (L2.putF "starts" (.ref sta) (L2.putF "chosen" (.ref ch) (L2.putF "followed" (.int 0) (L2.putF "steps" (.ref sp) (L2.putF "short" (.ref sh) (fs3 sd hd wt))))))) _ _ (nx ue (by simp)) esp
  replace ech := Grow.put (o := .ins C dx (L2.putF "starts" (.ref sta) (L2.putF "chosen" (.ref ch) (L2.putF "followed" (.int 0) (L2.putF "steps" (.ref sp) (L2.putF "short" (.ref sh) (fs3 sd hd wt))))))) _ _ (nx ue (by simp)) ech
  replace esta := Grow.put (o := .ins C dx (L2.putF "starts" (.ref sta) (L2.putF "chosen" (.ref ch) (L2.putF "followed" (.int 0) (L2.putF "steps" (.ref sp) (L2.putF "short" (.ref sh) (fs3 sd hd wt))))))) _ _ (nx ue (by simp)) esta
  replace xa : upd He0 x (.ins C dx (L2.putF "starts" (.ref sta) (L2.putF "chosen" (.ref ch) (L2.putF "followed" (.int 0) (L2.putF "steps" (.ref sp) (L2.putF "short" (.ref sh) (fs3 sd hd wt))))))) x = some (.ins C dx (L2.putF "starts" (.ref sta) (L2.putF "chosen" (.ref ch) (L2.putF "followed" (.int 0) (L2.putF "steps" (.ref sp) (L2.putF "short" (.ref sh) (fs3 sd hd wt))))))) := upd_same
  generalize upd He0 x (.ins C dx (L2.putF "starts" (.ref sta) (L2.putF "chosen" (.ref ch) (L2.putF "followed" (.int 0) (L2.putF "steps" (.ref sp) (L2.putF "short" (.ref sh) (fs3 sd hd wt))))))) = He at *
  have ue_ := ve
  replace ue := ue_
  refine ⟨size1, fun tf htf => ⟨_, rfl, tf, ((n : Nat) : Int), [.int 0], rfl, rfl, upd_same, by omega, by omega, by show 1 * n ≤ _; omega, fun ly hly => ?_⟩⟩
  rw [show (List.replicate ((n : Nat) : Int).toNat [V.int 0]).flatten = (nI (List.replicate n 0)) by rw [nI_rep, flat_rep]; rfl]
  have sm_f := (same_new (o := .lst [.int 0]) htf).trans (same_new (o := .lst (nI (List.replicate n 0))) hly)
  have uf := (ue.put (p := tf) (o := .lst [.int 0])).add (o := .lst (nI (List.replicate n 0))) hly
  have ely : upd (upd He tf (.lst [.int 0])) ly (.lst (nI (List.replicate n 0))) ly = some (.lst (nI (List.replicate n 0))) := upd_same
  replace esh := sm_f _ _ esh
  replace esp := sm_f _ _ esp
  replace ech := sm_f _ _ ech
  replace esta := sm_f _ _ esta
  replace xa := sm_f _ _ xa
  have gf0 := ge.trans (Grow.of sm_f)
  generalize upd (upd He tf (.lst [.int 0])) ly (.lst (nI (List.replicate n 0))) = Hf0 at *
  refine ⟨_, rfl, x, C, dx, _, rfl, xa, T.cl, T.ly, by show 8 < 1000; decide, ?_⟩
  have gf : Grow x H (upd Hf0 x (.ins C dx (L2.putF "layers" (.ref ly) (L2.putF "starts" (.ref sta) (L2.putF "chosen" (.ref ch) (L2.putF "followed" (.int 0) (L2.putF "steps" (.ref sp) (L2.putF "short" (.ref sh) (fs3 sd hd wt))))))))) := gf0.trans Grow.put
  have vf := uf.put (p := x) (o := .ins C dx (L2.putF "layers" (.ref ly) (L2.putF "starts" (.ref sta) (L2.putF "chosen" (.ref ch) (L2.putF "followed" (.int 0) (L2.putF "steps" (.ref sp) (L2.putF "short" (.ref sh) (fs3 sd hd wt))))))))
  replace esh := Grow.put (o := .ins C dx (L2.putF "layers" (.ref ly) (L2.putF "starts" (.ref sta) (L2.putF "chosen" (.ref ch) (L2.putF "followed" (.int 0) (L2.putF "steps" (.ref sp) (L2.putF "short" (.ref sh) (fs3 sd hd wt)))))))) _ _ (nx uf (by simp)) esh
  replace esp := Grow.put (o := .ins C dx (L2.putF "layers" (.ref ly) (L2.putF "starts" (.ref sta) (L2.putF "chosen" (.ref ch) (L2.putF "followed" (.int 0) (L2.putF "steps" (.ref sp) (L2.putF "short" (.ref sh) (fs3 sd hd wt)))))))) _ _ (nx uf (by simp)) esp
  replace ech := Grow.put (o := .ins C dx (L2.putF "layers" (.ref ly) (L2.putF "starts" (.ref sta) (L2.putF "chosen" (.ref ch) (L2.putF "followed" (.int 0) (L2.putF "steps" (.ref sp) (L2.putF "short" (.ref sh) (fs3 sd hd wt)))))))) _ _ (nx uf (by simp)) ech
  replace esta := Grow.put (o := .ins C dx (L2.putF "layers" (.ref ly) (L2.putF "starts" (.ref sta) (L2.putF "chosen" (.ref ch) (L2.putF "followed" (.int 0) (L2.putF "steps" (.ref sp) (L2.putF "short" (.ref sh) (fs3 sd hd wt)))))))) _ _ (nx uf (by simp)) esta
  replace ely := Grow.put (o := .ins C dx (L2.putF "layers" (.ref ly) (L2.putF "starts" (.ref sta) (L2.putF "chosen" (.ref ch) (L2.putF "followed" (.int 0) (L2.putF "steps" (.ref sp) (L2.putF "short" (.ref sh) (fs3 sd hd wt)))))))) _ _ (nx uf (by simp)) ely
  replace xa : upd Hf0 x (.ins C dx (L2.putF "layers" (.ref ly) (L2.putF "starts" (.ref sta) (L2.putF "chosen" (.ref ch) (L2.putF "followed" (.int 0) (L2.putF "steps" (.ref sp) (L2.putF "short" (.ref sh) (fs3 sd hd wt)))))))) x = some (.ins C dx (L2.putF "layers" (.ref ly) (L2.putF "starts" (.ref sta) (L2.putF "chosen" (.ref ch) (L2.putF "followed" (.int 0) (L2.putF "steps" (.ref sp) (L2.putF "short" (.ref sh) (fs3 sd hd wt)))))))) := upd_same
  generalize upd Hf0 x (.ins C dx (L2.putF "layers" (.ref ly) (L2.putF "starts" (.ref sta) (L2.putF "chosen" (.ref ch) (L2.putF "followed" (.int 0) (L2.putF "steps" (.ref sp) (L2.putF "short" (.ref sh) (fs3 sd hd wt)))))))) = Hf at *
  have uf_ := vf
  replace uf := uf_
  refine ⟨size1, fun tg htg => ⟨_, rfl, tg, ((n : Nat) : Int), [.non], rfl, rfl, upd_same, by omega, by omega, by show 1 * n ≤ _; omega, fun rs hrs => ?_⟩⟩
  rw [show (List.replicate ((n : Nat) : Int).toNat [V.non]).flatten = (oI (List.replicate n none)) by rw [oI_rep, flat_rep]; rfl]
  have sm_g := (same_new (o := .lst [.non]) htg).trans (same_new (o := .lst (oI (List.replicate n none))) hrs)
  have ug := (uf.put (p := tg) (o := .lst [.non])).add (o := .lst (oI (List.replicate n none))) hrs
  have ers : upd (upd Hf tg (.lst [.non])) rs (.lst (oI (List.replicate n none))) rs = some (.lst (oI (List.replicate n none))) := upd_same
  replace esh := sm_g _ _ esh
  replace esp := sm_g _ _ esp
  replace ech := sm_g _ _ ech
  replace esta := sm_g _ _ esta
  replace ely := sm_g _ _ ely
  replace xa := sm_g _ _ xa
  have gg0 := gf.trans (Grow.of sm_g)
  generalize upd (upd Hf tg (.lst [.non])) rs (.lst (oI (List.replicate n none))) = Hg0 at *
  refine ⟨_, rfl, x, C, dx, _, rfl, xa, T.cl, T.rs, by show 9 < 1000; decide, ?_⟩
  have gg : Grow x H (upd Hg0 x (.ins C dx (L2.putF "reasons" (.ref rs) (L2.putF "layers" (.ref ly) (L2.putF "starts" (.ref sta) (L2.putF "chosen" (.ref ch) (L2.putF "followed" (.int 0) (L2.putF "steps" (.ref sp) (L2.putF "short" (.ref sh) (fs3 sd hd wt)))))))))) := gg0.trans Grow.put
  have vg := ug.put (p := x) (o := .ins C dx (L2.putF "reasons" (.ref rs) (L2.putF "layers" (.ref ly) (L2.putF "starts" (.ref sta) (L2.putF "chosen" (.ref ch) (L2.putF "followed" (.int 0) (L2.putF "steps" (.ref sp) (L2.putF "short" (.ref sh) (fs3 sd hd wt)))))))))
  replace esh := Grow.put (o := .ins C dx (L2.putF "reasons" (.ref rs) (L2.putF "layers" (.ref ly) (L2.putF "starts" (.ref sta) (L2.putF "chosen" (.ref ch) (L2.putF "followed" (.int 0) (L2.putF "steps" (.ref sp) (L2.putF "short" (.ref sh) (fs3 sd hd wt))))))))) _ _ (nx ug (by simp)) esh
  replace esp := Grow.put (o := .ins C dx (L2.putF "reasons" (.ref rs) (L2.putF "layers" (.ref ly) (L2.putF "starts" (.ref sta) (L2.putF "chosen" (.ref ch) (L2.putF "followed" (.int 0) (L2.putF "steps" (.ref sp) (L2.putF "short" (.ref sh) (fs3 sd hd wt))))))))) _ _ (nx ug (by simp)) esp
  replace ech := Grow.put (o := .ins C dx (L2.putF "reasons" (.ref rs) (L2.putF "layers" (.ref ly) (L2.putF "starts" (.ref sta) (L2.putF "chosen" (.ref ch) (L2.putF "followed" (.int 0) (L2.putF "steps" (.ref sp) (L2.putF "short" (.ref sh) (fs3 sd hd wt))))))))) _ _ (nx ug (by simp)) ech
  replace esta := Grow.put (o := .ins C dx (L2.putF "reasons" (.ref rs) (L2.putF "layers" (.ref ly) (L2.putF "starts" (.ref sta) (L2.putF "chosen" (.ref ch) (L2.putF "followed" (.int 0) (L2.putF "steps" (.ref sp) (L2.putF "short" (.ref sh) (fs3 sd hd wt))))))))) _ _ (nx ug (by simp)) esta
  replace ely := Grow.put (o := .ins C dx (L2.putF "reasons" (.ref rs) (L2.putF "layers" (.ref ly) (L2.putF "starts" (.ref sta) (L2.putF "chosen" (.ref ch) (L2.putF "followed" (.int 0) (L2.putF "steps" (.ref sp) (L2.putF "short" (.ref sh) (fs3 sd hd wt))))))))) _ _ (nx ug (by simp)) ely
  replace ers := Grow.put (o := .ins C dx (L2.putF "reasons" (.ref rs) (L2.putF "layers" (.ref ly) (L2.putF "starts" (.ref sta) (L2.putF "chosen" (.ref ch) (L2.putF "followed" (.int 0) (L2.putF "steps" (.ref sp) (L2.putF "short" (.ref sh) (fs3 sd hd wt))))))))) _ _ (nx ug (by simp)) ers
  replace xa : upd Hg0 x (.ins C dx (L2.putF "reasons" (.ref rs) (L2.putF "layers" (.ref ly) (L2.putF "starts" (.ref sta) (L2.putF "chosen" (.ref ch) (L2.putF "followed" (.int 0) (L2.putF "steps" (.ref sp) (L2.putF "short" (.ref sh) (fs3 sd hd wt))))))))) x = some (.ins C dx (L2.putF "reasons" (.ref rs) (L2.putF "layers" (.ref ly) (L2.putF "starts" (.ref sta) (L2.putF "chosen" (.ref ch) (L2.putF "followed" (.int 0) (L2.putF "steps" (.ref sp) (L2.putF "short" (.ref sh) (fs3 sd hd wt))))))))) := upd_same
  generalize upd Hg0 x (.ins C dx (L2.putF "reasons" (.ref rs) (L2.putF "layers" (.ref ly) (L2.putF "starts" (.ref sta) (L2.putF "chosen" (.ref ch) (L2.putF "followed" (.int 0) (L2.putF "steps" (.ref sp) (L2.putF "short" (.ref sh) (fs3 sd hd wt))))))))) = Hg at *
  have ug_ := vg
  replace ug := ug_
  refine ⟨_, rfl, x, C, dx, _, rfl, xa, T.cl, T.cz, by show 10 < 1000; decide, ?_⟩
  have gh : Grow x H (upd Hg x (.ins C dx (L2.putF "clash" .non (L2.putF "reasons" (.ref rs) (L2.putF "layers" (.ref ly) (L2.putF "starts" (.ref sta) (L2.putF "chosen" (.ref ch) (L2.putF "followed" (.int 0) (L2.putF "steps" (.ref sp) (L2.putF "short" (.ref sh) (fs3 sd hd wt))))))))))) := gg.trans Grow.put
  have vh := ug.put (p := x) (o := .ins C dx (L2.putF "clash" .non (L2.putF "reasons" (.ref rs) (L2.putF "layers" (.ref ly) (L2.putF "starts" (.ref sta) (L2.putF "chosen" (.ref ch) (L2.putF "followed" (.int 0) (L2.putF "steps" (.ref sp) (L2.putF "short" (.ref sh) (fs3 sd hd wt))))))))))
  replace esh := Grow.put (o := .ins C dx (L2.putF "clash" .non (L2.putF "reasons" (.ref rs) (L2.putF "layers" (.ref ly) (L2.putF "starts" (.ref sta) (L2.putF "chosen" (.ref ch) (L2.putF "followed" (.int 0) (L2.putF "steps" (.ref sp) (L2.putF "short" (.ref sh) (fs3 sd hd wt)))))))))) _ _ (nx ug (by simp)) esh
  replace esp := Grow.put (o := .ins C dx (L2.putF "clash" .non (L2.putF "reasons" (.ref rs) (L2.putF "layers" (.ref ly) (L2.putF "starts" (.ref sta) (L2.putF "chosen" (.ref ch) (L2.putF "followed" (.int 0) (L2.putF "steps" (.ref sp) (L2.putF "short" (.ref sh) (fs3 sd hd wt)))))))))) _ _ (nx ug (by simp)) esp
  replace ech := Grow.put (o := .ins C dx (L2.putF "clash" .non (L2.putF "reasons" (.ref rs) (L2.putF "layers" (.ref ly) (L2.putF "starts" (.ref sta) (L2.putF "chosen" (.ref ch) (L2.putF "followed" (.int 0) (L2.putF "steps" (.ref sp) (L2.putF "short" (.ref sh) (fs3 sd hd wt)))))))))) _ _ (nx ug (by simp)) ech
  replace esta := Grow.put (o := .ins C dx (L2.putF "clash" .non (L2.putF "reasons" (.ref rs) (L2.putF "layers" (.ref ly) (L2.putF "starts" (.ref sta) (L2.putF "chosen" (.ref ch) (L2.putF "followed" (.int 0) (L2.putF "steps" (.ref sp) (L2.putF "short" (.ref sh) (fs3 sd hd wt)))))))))) _ _ (nx ug (by simp)) esta
  replace ely := Grow.put (o := .ins C dx (L2.putF "clash" .non (L2.putF "reasons" (.ref rs) (L2.putF "layers" (.ref ly) (L2.putF "starts" (.ref sta) (L2.putF "chosen" (.ref ch) (L2.putF "followed" (.int 0) (L2.putF "steps" (.ref sp) (L2.putF "short" (.ref sh) (fs3 sd hd wt)))))))))) _ _ (nx ug (by simp)) ely
  replace ers := Grow.put (o := .ins C dx (L2.putF "clash" .non (L2.putF "reasons" (.ref rs) (L2.putF "layers" (.ref ly) (L2.putF "starts" (.ref sta) (L2.putF "chosen" (.ref ch) (L2.putF "followed" (.int 0) (L2.putF "steps" (.ref sp) (L2.putF "short" (.ref sh) (fs3 sd hd wt)))))))))) _ _ (nx ug (by simp)) ers
  replace xa : upd Hg x (.ins C dx (L2.putF "clash" .non (L2.putF "reasons" (.ref rs) (L2.putF "layers" (.ref ly) (L2.putF "starts" (.ref sta) (L2.putF "chosen" (.ref ch) (L2.putF "followed" (.int 0) (L2.putF "steps" (.ref sp) (L2.putF "short" (.ref sh) (fs3 sd hd wt)))))))))) x = some (.ins C dx (L2.putF "clash" .non (L2.putF "reasons" (.ref rs) (L2.putF "layers" (.ref ly) (L2.putF "starts" (.ref sta) (L2.putF "chosen" (.ref ch) (L2.putF "followed" (.int 0) (L2.putF "steps" (.ref sp) (L2.putF "short" (.ref sh) (fs3 sd hd wt)))))))))) := upd_same
  generalize upd Hg x (.ins C dx (L2.putF "clash" .non (L2.putF "reasons" (.ref rs) (L2.putF "layers" (.ref ly) (L2.putF "starts" (.ref sta) (L2.putF "chosen" (.ref ch) (L2.putF "followed" (.int 0) (L2.putF "steps" (.ref sp) (L2.putF "short" (.ref sh) (fs3 sd hd wt)))))))))) = Hh at *
  have uh_ := vh
  have uh := uh_
  let a : TAd := ⟨sd, hd, wt, sh, sp, ch, sta, ly, rs, hs, ws⟩
  have xhs : x ∉ hs := fun m => nx uh (by simp [m]) rfl
  have xws : x ∉ ws := fun m => nx uh (by simp [m]) rfl
  have perm : a.all.Perm (rs :: ly :: sta :: ch :: sp :: sh :: (ws.reverse ++ wt :: (hs.reverse ++ [hd, sd]))) := by
    show ([sd, hd, wt, sh, sp, ch, sta, ly, rs] ++ (hs ++ ws)).Perm _
    rw [List.perm_iff_count]
    intro b
    simp only [List.count_append, List.count_cons, List.count_nil, List.count_reverse]
    omega
  have ua' : Used H0 Hh a.all := uh.perm perm
  refine k a Hh ⟨⟨dx, fs11 a, xa, by rw [fs11_eq]; show 11 ≤ 20; decide, ?_⟩, ?_⟩ ua' (S.gr.trans gh)
  · rw [fs11_eq]
    exact ⟨rfl, rfl, rfl, rfl, rfl, rfl, rfl, rfl, rfl, rfl, rfl, fun m hm => by rw [← fs11_eq]; exact fs11_no a m hm⟩
  · have nn : ∀ {b : Addr}, b ∈ a.all → b ≠ x := fun m => nx ua' m
    exact ⟨gh _ _ (nn (by show sd ∈ [sd, hd, wt, sh, sp, ch, sta, ly, rs] ++ (hs ++ ws); simp)) S.esd, gh _ _ (nn (by show hd ∈ [sd, hd, wt, sh, sp, ch, sta, ly, rs] ++ (hs ++ ws); simp)) S.ehd, gh _ _ (nn (by show wt ∈ [sd, hd, wt, sh, sp, ch, sta, ly, rs] ++ (hs ++ ws); simp)) S.ewt, esh, esp, ech, esta, ely, ers, S.ehs.grow gh xhs, S.ews.grow gh xws, ua'.nd⟩
end
end K6
namespace K6
open PySem PySem.Spec PyProof.Rows L2 LamX NdefX EV
def longI (F : List (List Nat)) (i : Nat) : List Nat := (List.range i).filter fun j => decide (1 < (gL F j).length)
theorem longI_succ (F : List (List Nat)) (i : Nat) : longI F (i + 1) = longI F i ++ (if 1 < (gL F i).length then [i] else []) := by
  unfold longI
  rw [List.range_succ, List.filter_append]
  congr 1
  by_cases c : 1 < (gL F i).length
  · rw [if_pos c, List.filter_cons_of_pos (by simpa using c)]
    rfl
  · rw [if_neg c, List.filter_cons_of_neg (by simpa using c)]
    rfl
theorem long_spec {F : List (List Nat)} {n : Nat} (g : TGood F n) (i : Nat) (hi : i ≤ F.length) :
    let s' := (longI F i).foldl watchF (blankF n F)
    TInv F n s' ∧ s'.held = F := by
  obtain ⟨r1, r2, _⟩ := watch_spec g (longI F i) (blankF n F) (blank_inv F n) (List.nodup_range.filter _) (fun j hj => by
    obtain ⟨a, b⟩ := List.mem_filter.mp hj
    have := List.mem_range.mp a
    refine ⟨by omega, by simpa using b, fun l => ?_⟩
    rw [show gL (blankF n F).wat l = [] from gL_rep _ _]
    exact fun z => nomatch z) rfl
  exact ⟨r1, r2⟩
def spTInit (C : Addr) : Sp := fun vs H Q _ => ∃ (x dx cl : Addr) (n : Nat) (F : List (List Nat)) (cs : List Addr), vs = [.ref x, .int (n : Nat), .ref cl] ∧ H x = some (.ins C dx []) ∧ H cl = some (.lst (cs.map V.ref)) ∧ NsAt H cs F ∧ TOk F n ∧ cl ≠ x ∧ x ∉ cs ∧
  ∀ a H', TrA C x H' (initF n F) a → (∀ b ∈ a.all, H b = none) → Grow x H H' → Q .non H'
section
variable {P : Program} {w : World} {K : PySem.W.Frag} {mg : Str → Option Value} {base : Heap} {f fW fD C : Addr} {fd fdW fdD : FuncData}
theorem ok_tinit (F : Fun K "__init__" "Trail.__init__" sTInit f fd) (T : TTxt K mg C)
    (GW : FnOk P w K mg base CX0 1 fW fdW ["self", "index"] (spWatch C)) (mW : Meth K C "watch" fW) (bW : L2.Binds K fdW ["self", "index"] [])
    (GD : FnOk P w K mg base CX0 4 fD fdD ["self"] (spNothing C)) (mD : Meth K C "draw_from_nothing" fD) (bD : L2.Binds K fdD ["self"] []) :
    FnOk P w K mg base CX0 5 f fd ["self", "many", "clauses"] (spTInit C) := by
  refine F.ok scTInit (fun vs H Q E h => ?_) (fun cdv A outer s H vs Q E hr h => ?_)
  · obtain ⟨x, dx, cl, n, F', cs, rfl, _⟩ := h
    rfl
  · obtain ⟨x, dx, cl, n, Fc, cs, rfl, hx, hcl, hcs, o, clx, xcs, kk⟩ := h
    have hr1 : Room 1 _ := hr.mono (by decide)
    have hr4 : Room 4 _ := hr.mono (by decide)
    have p3 := show PSs (XTi P w K mg base f cdv A outer s H E) ((defBody sTInit).drop 11) _ from
      (pss_cons (ps_for PassesOwn.never rfl (pi_enum (by rfl) T.enum (pa_cons (pe_fld (pv 0) rfl) pa_nil)) (pg_tup rfl (pgs_cons (pg_name (i := 4) scTInit.nd rfl (.inl rfl)) (pgs_cons (pg_name (i := 3) scTInit.nd rfl (.inl rfl)) pgs_nil)))
        (pss_one (ps_if (pt_cmpR op_gt (pe_callB call_len (by rfl) T.len PySem.boot_len (pa_cons (pv 3) pa_nil)) pe_int (nomark _)) (pss_one (ps_expr (pe_meth (pv 0) T.cl mW GW hr1 bW .nil pass0 (pa_cons (pv 4) pa_nil)))) pss_nil)))
      (pss_one (ps_expr (pe_meth0 (pv 0) T.cl mD GD hr4 bD .nil pass0))))
    obtain ⟨t2, p2, k2⟩ := seg_ti2 T p3
    obtain ⟨t1, p1, k1⟩ := seg_ti1 T p2
    refine ⟨_, p1, ?_⟩
    refine k1 _ x dx cl n Fc cs H hx hcl hcs o clx xcs fun sd hd wt hs ws H1 S1 => ?_
    refine k2 _ x dx cl n Fc H H1 sd hd wt hs ws S1 (by rw [hx]; exact fun z => nomatch z) o fun a H2 ta ua ga => ?_
    have fl := o.fl
    have nl := o.nl
    obtain ⟨dx2, fs, hx2, L⟩ := ta.at_
    have lhs : a.hs.length = Fc.length := Paired.length ta.l.hs
    refine ⟨_, rfl, x, C, dx2, fs, _, rfl, hx2, T.cl, T.hd, L.hd, a.hd, _, rfl, SqL.of ta.l.hd, for_it (walk_enum (xs := a.hs.map V.ref)) (fun i σ H3 => ∃ o3 o4 : Option V, σ = [some (.ref x), some (.int (n : Nat)), some (.ref cl), o3, o4, none] ∧ i ≤ Fc.length ∧ TrA C x H3 ((longI Fc i).foldl watchF (blankF n Fc)) a ∧ Fr x a a H2 H3) ⟨_, _, rfl, Nat.zero_le _, ta, Fr.refl⟩ (fun i σ H3 _ ⟨_, _, _, _, t3, _⟩ => SqL.of t3.l.hd) ?_ ?_⟩
    · rintro i v σ H3 H4 hi ⟨o3, o4, rfl, _, t3, f3⟩ ⟨tp, v1, v2, rfl, htp, rfl, hv1, hv2⟩
      obtain rfl := Option.some.inj hv1
      replace hv2 : (a.hs.map V.ref)[i]? = some v2 := hv2
      obtain ⟨q, hq, rfl⟩ := get_map hv2
      rw [List.length_map] at hi
      have hiF : i < Fc.length := by omega
      obtain ⟨v3, h3⟩ := long_spec (n := n) o.g i (Nat.le_of_lt hiF)
      have e3 : (longI Fc (i + 1)).foldl watchF (blankF n Fc) = if 1 < (gL Fc i).length then watchF ((longI Fc i).foldl watchF (blankF n Fc)) i else (longI Fc i).foldl watchF (blankF n Fc) := by
        rw [longI_succ, List.foldl_append]
        split <;> rfl
      rw [e3]
      generalize (longI Fc i).foldl watchF (blankF n Fc) = s3 at *
      have st := same_new (o := .tup [.int (i : Nat), .ref q]) htp
      have t4 := t3.same st
      have f4 : Fr x a a H2 _ := f3.trans (Fr.same st)
      have htp4 : upd H3 tp (.tup [.int (i : Nat), .ref q]) tp = some (.tup [.int (i : Nat), .ref q]) := upd_same
      generalize upd H3 tp (.tup [.int (i : Nat), .ref q]) = H4 at *
      obtain ⟨q', hq', hqc⟩ := t4.held_ (i := i) (by rw [h3]; exact hiF)
      obtain rfl : q = q' := Option.some.inj (hq.symm.trans hq')
      rw [h3] at hqc
      refine ⟨tp, _, rfl, SqT.of htp4, rfl, _, _, rfl, _, _, rfl, rfl, _, rfl, _, _, rfl, .inl ⟨_, SqL.of hqc, rfl⟩, _, _, rfl, rfl, _, rfl, ?_⟩
      rw [nI_len]
      by_cases c : 1 < (gL Fc i).length
      · rw [decide_eq_true (by omega)]
        rw [if_pos c]
        obtain ⟨dx4, fs4, hx4, L4⟩ := t4.at_
        have lw := v3.lw
        have h0 := v3.hlt o.g hiF (l := gN (gL s3.held i) 0) (gN_mem (by rw [h3]; omega))
        have h1 := v3.hlt o.g hiF (l := gN (gL s3.held i) 1) (gN_mem (by rw [h3]; omega))
        refine iteT ⟨_, rfl, x, dx4, fs4, rfl, hx4, L4.me _ (by decide +kernel), _, rfl, x, i, s3, a, rfl, t4, by rw [h3]; exact hiF, by rw [h3]; exact c, by omega, by omega, fun l => by have := v3.watl o l; omega, fun H' t' f' => ⟨_, _, rfl, by omega, t', f4.trans f'⟩⟩
      · rw [decide_eq_false (by omega)]
        rw [if_neg c]
        exact iteF ⟨_, _, rfl, by omega, t4, f4⟩
    · rintro σ H3 ⟨o3, o4, rfl, _, t3, f3⟩
      rw [List.length_map, lhs] at t3
      have e3 : longI Fc Fc.length = (List.range Fc.length).filter fun i => 1 < (gL Fc i).length := rfl
      rw [e3] at t3
      obtain ⟨q1, q2, q3, q4, q5, _⟩ := init_pre (n := n) o.g
      have ei : initF n Fc = nothingF n (((List.range Fc.length).filter fun i => 1 < (gL Fc i).length).foldl watchF (blankF n Fc)) := rfl
      rw [ei] at kk
      generalize ((List.range Fc.length).filter fun i => 1 < (gL Fc i).length).foldl watchF (blankF n Fc) = s3 at *
      obtain ⟨dx3, fs3', hx3, L3⟩ := t3.at_
      refine ⟨_, rfl, x, dx3, fs3', rfl, hx3, L3.me _ (by decide +kernel), x, s3, a, Fc, n, rfl, t3, o, q1, q2, q3, q4, q5, fun H4 a4 t4 f4 => ?_⟩
      have ff := f3.trans f4
      refine kk a4 H4 t4 (fun b hb => ?_) fun b u ne e => ?_
      · rcases ff.new b hb with h | h
        · exact ua.nw b h
        · cases e : H b with
          | none => rfl
          | some u =>
            obtain ⟨u', e'⟩ := ua.li b u e
            rw [e'] at h
            cases h
      · refine ff.keep b u (ga b u ne e) ne fun m => ?_
        have := ua.nw b m
        rw [e] at this
        cases this
end
end K6
namespace K6
open PySem PySem.Spec PyProof.Rows L2 LamX NdefX EV
/-! ### literals and their numbers -/
/-- the place of a literal -/
def litN (ns : List Str) (z : Str) : Nat := (lits ns).idxOf z
theorem lits_at (ns : List Str) (k : Nat) : (lits ns)[2 * k]? = ns[k]? ∧ (lits ns)[2 * k + 1]? = ns[k]?.map neg := by
  induction ns generalizing k with
  | nil => exact ⟨rfl, rfl⟩
  | cons n r ih =>
    show (n :: neg n :: lits r)[2 * k]? = _ ∧ (n :: neg n :: lits r)[2 * k + 1]? = _
    cases k with
    | zero => exact ⟨rfl, rfl⟩
    | succ k =>
      obtain ⟨h1, h2⟩ := ih k
      rw [show 2 * (k + 1) = 2 * k + 1 + 1 by omega]
      exact ⟨h1, h2⟩
theorem litN_at {ns : List Str} (nd : (lits ns).Nodup) {z : Str} {j : Nat} (h : (lits ns)[j]? = some z) : litN ns z = j := by
  obtain ⟨hj, e⟩ := List.getElem?_eq_some_iff.mp h
  have hz : z ∈ lits ns := e ▸ List.getElem_mem hj
  have hi : (lits ns).idxOf z < (lits ns).length := List.idxOf_lt_length_iff.mpr hz
  have e2 : (lits ns)[(lits ns).idxOf z] = z := List.getElem_idxOf hi
  have pw := List.pairwise_iff_getElem.mp nd
  unfold litN
  rcases Nat.lt_trichotomy ((lits ns).idxOf z) j with q | q | q
  · exact absurd (e2.trans e.symm) (pw _ _ hi hj q)
  · exact q
  · exact absurd (e.trans e2.symm) (pw _ _ hj hi q)
theorem litN_get {ns : List Str} {z : Str} (h : z ∈ lits ns) : (lits ns)[litN ns z]? = some z := by
  have hi : (lits ns).idxOf z < (lits ns).length := List.idxOf_lt_length_iff.mpr h
  unfold litN
  rw [List.getElem?_eq_getElem hi, List.getElem_idxOf hi]
theorem litN_lt {ns : List Str} {z : Str} (h : z ∈ lits ns) : litN ns z < 2 * ns.length := by
  have hi : (lits ns).idxOf z < (lits ns).length := List.idxOf_lt_length_iff.mpr h
  rw [lits_len] at hi
  exact hi
theorem litN_inj {ns : List Str} {y z : Str} (hy : y ∈ lits ns) (hz : z ∈ lits ns) (h : litN ns y = litN ns z) : y = z := by
  have a := litN_get hy
  rw [h, litN_get hz] at a
  exact (Option.some.inj a).symm
theorem litN_q {ns : List Str} (nd : (lits ns).Nodup) {b : Bool} {n : Str} {k : Nat} (h : ns[k]? = some n) : litN ns (lit (b, n)) = 2 * k + (if b then 1 else 0) := by
  obtain ⟨h1, h2⟩ := lits_at ns k
  cases b with
  | false => exact litN_at nd (h1.trans h)
  | true => exact litN_at nd (h2.trans (by rw [h]; rfl))
theorem litN_flip {ns : List Str} (nd : ns.Nodup) (good : ∀ z ∈ ns, Name1 z) {q : Bool × Str} (hq : q.2 ∈ ns) : litN ns (lit (opp q)) = flip (litN ns (lit q)) := by
  obtain ⟨b, n⟩ := q
  obtain ⟨k, hk, e⟩ := List.getElem_of_mem hq
  have hk2 : ns[k]? = some n := by rw [List.getElem?_eq_getElem hk, e]
  have ndl := lits_nodup ns nd good
  show litN ns (lit (!b, n)) = _
  rw [litN_q ndl hk2, litN_q ndl hk2]
  unfold flip
  cases b
  · simp
  · simp
theorem litN_half {ns : List Str} (nd : ns.Nodup) (good : ∀ z ∈ ns, Name1 z) {q : Bool × Str} {k : Nat} (h : ns[k]? = some q.2) : litN ns (lit q) / 2 = k := by
  obtain ⟨b, n⟩ := q
  rw [litN_q (lits_nodup ns nd good) h]
  cases b
  · simp
  · simp
    omega
theorem litN_name {ns : List Str} (nd : ns.Nodup) (good : ∀ z ∈ ns, Name1 z) {p q : Bool × Str} (hp : p.2 ∈ ns) (hq : q.2 ∈ ns) (h : litN ns (lit p) / 2 = litN ns (lit q) / 2) : p.2 = q.2 := by
  obtain ⟨i, hi, ei⟩ := List.getElem_of_mem hp
  obtain ⟨j, hj, ej⟩ := List.getElem_of_mem hq
  have a : ns[i]? = some p.2 := by rw [List.getElem?_eq_getElem hi, ei]
  have b : ns[j]? = some q.2 := by rw [List.getElem?_eq_getElem hj, ej]
  rw [litN_half nd good a, litN_half nd good b] at h
  subst h
  rw [a] at b
  exact Option.some.inj b
theorem half_nodup {ns : List Str} (nd : ns.Nodup) (good : ∀ z ∈ ns, Name1 z) : ∀ {qs : List (Bool × Str)}, (qs.map Prod.snd).Nodup → (∀ q ∈ qs, q.2 ∈ ns) → (((qs.map lit).map (litN ns)).map (· / 2)).Nodup
  | [], _, _ => List.nodup_nil
  | q :: qs, h, sub => by
    obtain ⟨h1, h2⟩ := List.nodup_cons.mp h
    refine List.nodup_cons.mpr ⟨fun m => ?_, half_nodup nd good h2 fun p hp => sub p (List.mem_cons_of_mem _ hp)⟩
    obtain ⟨x, hx, e⟩ := List.mem_map.mp m
    obtain ⟨y, hy, rfl⟩ := List.mem_map.mp hx
    obtain ⟨p, hp, rfl⟩ := List.mem_map.mp hy
    have z := litN_name nd good (sub p (List.mem_cons_of_mem _ hp)) (sub q List.mem_cons_self) e
    exact h1 (z ▸ List.mem_map_of_mem hp)
/-- the clauses of a code, in numbers -/
def numF (ns : List Str) (rs : List (List Str)) : List (List Nat) := rs.map fun r => r.map (litN ns)
theorem numF_at (ns : List Str) (rs : List (List Str)) {i : Nat} (hi : i < rs.length) : gL (numF ns rs) i = (rs.getD i []).map (litN ns) := by
  unfold gL numF
  rw [List.getD_eq_getElem?_getD, List.getD_eq_getElem?_getD, List.getElem?_map, List.getElem?_eq_getElem hi]
  rfl
theorem getD_mem {rs : List (List Str)} {i : Nat} (hi : i < rs.length) : rs.getD i [] ∈ rs := by
  rw [List.getD_eq_getElem?_getD, List.getElem?_eq_getElem hi]
  exact List.getElem_mem hi
theorem numF_ok {sg hp : List Str} {rs : List (List Str)} (ok : OkC sg hp rs) (few : rs.length ≤ 500) : TOk (numF (sg ++ hp) rs) (sg ++ hp).length := by
  have len : (numF (sg ++ hp) rs).length = rs.length := by unfold numF; rw [List.length_map]
  refine ⟨⟨fun i hi l hl => ?_, fun i hi => ?_⟩, by omega, by have := ok.n60; omega⟩
  · rw [len] at hi
    rw [numF_at _ _ hi] at hl
    obtain ⟨z, hz, rfl⟩ := List.mem_map.mp hl
    obtain ⟨qs, hq, e⟩ := (ok.row _ (getD_mem hi)).lits ok.nd ok.good
    rw [e] at hz
    obtain ⟨q, hq', rfl⟩ := List.mem_map.mp hz
    exact litN_lt (lit_mem (hq.sub q hq'))
  · rw [len] at hi
    rw [numF_at _ _ hi]
    obtain ⟨qs, hq, e⟩ := (ok.row _ (getD_mem hi)).lits ok.nd ok.good
    rw [e]
    exact half_nodup ok.nd ok.good hq.nd hq.sub
/-! ### numbered, places_in -/
theorem lookup_relabel_cf {env : Env} : ∀ {names : List (Str × NameKind)} {x : Str}, (names.lookup x = some .cell ∨ names.lookup x = some .free) →
    ((names.map fun (n, k) => if (k == NameKind.free && env.scope.kind == .function && env.kindOf n == some .cell) then (n, NameKind.cell) else (n, k)).lookup x = some .cell ∨
     (names.map fun (n, k) => if (k == NameKind.free && env.scope.kind == .function && env.kindOf n == some .cell) then (n, NameKind.cell) else (n, k)).lookup x = some .free)
  | [], _, h => by rcases h with h | h <;> cases h
  | (n, k) :: r, x, h => by
    have ih := @lookup_relabel_cf env r x
    show (List.lookup x ((if (k == NameKind.free && env.scope.kind == .function && env.kindOf n == some .cell) = true then (n, NameKind.cell) else (n, k)) :: _) = _ ∨ List.lookup x ((if (k == NameKind.free && env.scope.kind == .function && env.kindOf n == some .cell) = true then (n, NameKind.cell) else (n, k)) :: _) = _)
    by_cases hc : (k == NameKind.free && env.scope.kind == .function && env.kindOf n == some .cell) = true
    · rw [if_pos hc]
      cases hx : x == n with
      | true =>
        left
        simp [List.lookup_cons, hx]
      | false =>
        simp only [List.lookup_cons, hx] at h ⊢
        exact ih h
    · rw [if_neg hc]
      cases hx : x == n with
      | true =>
        simp only [List.lookup_cons, hx] at h ⊢
        exact h
      | false =>
        simp only [List.lookup_cons, hx] at h ⊢
        exact ih h
theorem blk_in {N : List Str} {sc scope : Scope} {own : List (Str × Nat)} {env : Env} (h : BlkOk N sc scope own) : BlkOk N (relabel sc env) scope own :=
  ⟨h.kind, h.uniq, h.ix, fun y hy e => lookup_relabel_cf (h.free y hy e), h.own⟩
theorem plc_litN {ns : List Str} {z : Str} (nd : ns.Nodup) (good : ∀ z ∈ ns, Name1 z) (h : z ∈ lits ns) : valV (plc ns) (Sum.inr z) = some (.int (litN ns z : Nat)) := by
  have e := plcF_at (lits ns) 0 (litN ns z) (lits_nodup ns nd good) (litN_get h)
  rw [Nat.zero_add] at e
  exact e
def spNumbered (K : PySem.W.Frag) (C : Addr) : Sp := fun vs H Q _ => ∃ (x r : Addr) (sg hp : List Str) (rs : List (List Str)), vs = [.ref x] ∧ CodeR K C H x sg hp rs r ∧ OkC sg hp rs ∧
  ∀ cl cs H', Same H H' → H cl = none → H' cl = some (.lst (cs.map V.ref)) → NsAt H' cs (numF (sg ++ hp) rs) → (∀ c ∈ cs, H c = none) → Q (.ref cl) H'
def spPlacesIn (K : PySem.W.Frag) (C : Addr) : Sp := fun vs H Q _ => ∃ (x A r : Addr) (b : Bool) (sg hp : List Str) (rs : List (List Str)) (qs : List (Bool × Str)), vs = [.ref x, .ref A] ∧ CodeR K C H x sg hp rs r ∧ OkC sg hp rs ∧ HS H A b ((qs.map lit).map V.str) ∧ Lits (sg ++ hp) qs ∧
  ∀ p H', Same H H' → H p = none → H' p = some (.lst (nI ((qs.map lit).map (litN (sg ++ hp))))) → Q (.ref p) H'
section
variable {P : Program} {w : World} {K : PySem.W.Frag} {mg : Str → Option Value} {base : Heap} {f C : Addr} {fd : FuncData}
abbrev nNumbered : List Str := ["code", "clause", "literal"]
theorem scNumbered : FnScope nNumbered ["code"] (defScope sNumbered) := ⟨rfl, rfl, rfl, by decide +kernel, rfl, by decide +kernel, by decide +kernel⟩
abbrev scRowIn : Scope := { kind := .function, names := [(".0", .local), ("clause", .local), ("code", .free)], isGenerator := false, isCoroutine := false }
theorem ok_numbered (F : Fun K "numbered" "numbered" sNumbered f fd) (T : CTxt K mg C) : FnOk P w K mg base CX0 1 f fd ["code"] (spNumbered K C) := by
  refine F.ok scNumbered (fun vs H Q E h => ?_) (fun cdv A outer s H vs Q E hr h => ?_)
  · obtain ⟨x, r, sg, hp, rs, rfl, _⟩ := h
    rfl
  · obtain ⟨x, r, sg, hp, rs, rfl, cx, ok, k⟩ := h
    have hu := hu_of hr
    obtain ⟨dx, a, b, pl, hx, ha, hb, hpl, hr4⟩ := cx.at_
    refine ⟨_, pss_one (ps_ret (pe_lock (pe_lc (own := [("clause", 1)]) (g := gName 1) (tt := tYes) rfl scNumbered.nd (pi_keys (pe_fld (pv 0) rfl)) (blkOk_by (N := nNumbered) (sc := defScope sNumbered) (by decide +kernel))
        (fun _ _ _ _ _ => pg_name (i := 1) scNumbered.nd rfl (.inl rfl)) (fun _ _ _ _ _ => pts_nil)
        (fun _ _ _ _ _ => show PE _ _ (tLc (iSeq K _) _ _ (tDGet (tFld K (tVar 0) "places") (tVar 2)) _) from pe_lc (own := [("literal", 2)]) (g := gName 2) (tt := tYes) rfl scNumbered.nd (pi_seq (pv 1)) (blk_in (sc := scRowIn) (blkOk_by (N := nNumbered) (sc := scRowIn) (by decide +kernel)))
            (fun _ _ _ _ _ => pg_name (i := 2) scNumbered.nd rfl (.inl rfl)) (fun _ _ _ _ _ => pts_nil) (fun _ _ _ _ _ => show PE _ _ (tDGet (tFld K (tVar 0) "places") (tVar 2)) from pe_dget hu (pe_fld (pv 0) rfl) (pv 2) (fun _ _ => rfl)))))), ?_⟩
    have sb := size_big
    have few := ok.few
    have n60 := ok.n60
    have nxr : x ≠ r := ne_of hx hr4 fun z => nomatch z
    have plr : pl ≠ r := ne_of hpl hr4 fun z => nomatch z
    refine ⟨r, _, hr4, trivial, fun od => ?_⟩
    have g0 : Grow r H (upd H r (.frz od (.dT (rs.map rowKv)))) := Grow.put
    have hr0 : upd H r (.frz od (.dT (rs.map rowKv))) r = some (.frz od (.dT (rs.map rowKv))) := upd_same
    have li0 : ∀ b o, H b = some o → ∃ o', upd H r (.frz od (.dT (rs.map rowKv))) b = some o' := fun b o e => by
      by_cases q : b = r
      · exact ⟨_, by rw [q]; exact upd_same⟩
      · exact ⟨o, (upd_ne q).trans e⟩
    generalize upd H r (.frz od (.dT (rs.map rowKv))) = H1 at *
    refine ⟨_, rfl, x, C, dx, _, _, rfl, g0 _ _ nxr hx, T.cl, T.n4, fl4 .., r, od, rfl, .inr ⟨_, hr0, fun L hL => lc_it walk_keysT (fun i H2 => H2 r = some (.frz od (.dT (rs.map rowKv))) ∧ Grow r H H2 ∧ ∃ cs : List Addr, H2 L = some (.lst (cs.map V.ref)) ∧ NsAt H2 cs (numF (sg ++ hp) (rs.take i)) ∧ Used H H2 (L :: cs)) ?_ (fun i H2 _ h => h.1) ?_ ?_⟩⟩
    · have nrL : r ≠ L := ne_of_none hr0 hL
      refine ⟨(upd_ne nrL).trans hr0, fun c o nc e => (same_new hL) _ _ (g0 c o nc e), [], upd_same, .nil, ?_⟩
      exact (⟨List.nodup_nil, (fun _ h => nomatch h), (fun _ h => nomatch h), li0⟩ : Used H H1 []).add hL
    · rintro i v H2 H3 hi ⟨hr2, g2, cs, hL2, ns2, us2⟩ ⟨rfl, kk, vv, q, hkv, rfl, hq⟩
      obtain ⟨row, hrow, ekv⟩ := get_map hkv
      injection ekv with ek ev
      rw [ek, kV_strs] at hq
      obtain ⟨qs, hqs, rfl⟩ := (ok.row row (List.mem_of_getElem? hrow)).lits ok.nd ok.good
      have er : rs.take (i + 1) = rs.take i ++ [qs.map lit] := by rw [List.take_succ, hrow]; rfl
      have lcs : cs.length = (rs.take i).length := by rw [Paired.length ns2]; unfold numF; rw [List.length_map]
      have hlt := List.length_take_le' i rs
      have hx2 := g2 _ _ nxr hx
      have hpl2 := g2 _ _ plr hpl
      have lq : qs.length ≤ 60 := by
        have z := nodup_le (qs.map Prod.snd) (sg ++ hp) hqs.nd fun n hn => by
          obtain ⟨q, hq', rfl⟩ := List.mem_map.mp hn
          exact hqs.sub q hq'
        rw [List.length_map] at z
        omega
      refine ⟨rfl, _, rfl, false, q, _, rfl, Sq.tup hq, fun M hM => lc_it walk_sq (fun j H4 => Same H3 H4 ∧ H4 M = some (.lst (nI (((qs.map lit).take j).map (litN (sg ++ hp)))))) ⟨same_new hM, upd_same⟩ (fun j H4 _ h => Sq.tup (h.1 _ _ hq)) ?_ ?_⟩
      · rintro j v2 H4 H5 hj ⟨sm4, hM4⟩ ⟨rfl, hv2⟩
        obtain ⟨l, hl, rfl⟩ := get_map hv2
        obtain ⟨p, hp', rfl⟩ := get_map hl
        have mem : lit p ∈ lits (sg ++ hp) := lit_mem (hqs.sub p (List.mem_of_getElem? hp'))
        have gt := DGet.k (k := Sum.inr (lit p)) (sm4 _ _ hpl2)
        rw [plc_litN ok.nd ok.good mem] at gt
        refine ⟨rfl, _, rfl, x, C, dx, _, _, rfl, sm4 _ _ hx2, T.cl, T.n3, fl3 .., _, rfl, pl, _, rfl, gt, _, hM4, ?_, fun b o e => (upd_ne (ne_of_none e hM)).trans (sm4 b o e), ?_⟩
        · rw [nI_len, List.length_map, List.length_take, List.length_map]
          omega
        · rw [upd_same, List.take_succ, List.getElem?_map, hp', List.map_append, nI_app]
          rfl
      · rintro H4 ⟨sm4, hM4⟩
        rw [List.length_map, List.take_length] at hM4
        have us3 : Used H H4 (M :: L :: cs) := by
          have z := us2.add (o := .lst []) hM
          exact ⟨z.nd, fun b hb => by
            rcases List.mem_cons.mp hb with e | hb
            · exact ⟨_, by rw [e]; exact hM4⟩
            · obtain ⟨o, h⟩ := us2.lv b hb
              exact ⟨o, sm4 _ _ h⟩, z.nw, fun b o e => by
            obtain ⟨o', h⟩ := us2.li b o e
            exact ⟨o', sm4 _ _ h⟩⟩
        have nd3 := us3.nd
        have ML : M ≠ L := fun e => (List.nodup_cons.mp nd3).1 (by rw [e]; exact List.mem_cons_self)
        have Lcs : L ∉ cs := (List.nodup_cons.mp (List.nodup_cons.mp nd3).2).1
        have rL : r ≠ L := fun e => by
          have := us3.nw L (List.mem_cons_of_mem _ List.mem_cons_self)
          rw [← e, hr4] at this
          cases this
        refine ⟨_, sm4 _ _ hL2, by rw [List.length_map, lcs]; omega, (upd_ne rL).trans (sm4 _ _ hr2), fun c o nc e => (upd_ne fun q' => by
          have := us3.nw L (List.mem_cons_of_mem _ List.mem_cons_self)
          rw [← q', e] at this
          cases this).trans (sm4 _ _ (g2 c o nc e)), cs ++ [M], ?_, ?_, ?_⟩
        · rw [List.map_append]
          exact upd_same
        · rw [er]
          unfold numF
          rw [List.map_append]
          exact ((ns2.same sm4).put Lcs).snoc ((upd_ne ML).trans hM4)
        · refine (us3.put (p := L)).perm ?_
          rw [List.perm_iff_count]
          intro b
          simp only [List.count_cons, List.count_append, List.count_nil]
          omega
    · rintro H2 ⟨hr2, g2, cs, hL2, ns2, us2⟩
      rw [List.length_map, List.take_length] at ns2
      have rin : r ∉ L :: cs := fun m => by
        have := us2.nw r m
        rw [hr4] at this
        cases this
      refine ⟨hr2, k L cs _ ?_ (us2.nw L List.mem_cons_self) ?_ ?_ fun c hc => us2.nw c (List.mem_cons_of_mem _ hc)⟩
      · intro c o e
        by_cases q : c = r
        · rw [q, hr4] at e
          rw [q, upd_same, e]
        · exact (upd_ne q).trans (g2 c o q e)
      · exact (upd_ne fun e => rin (by rw [← e]; exact List.mem_cons_self)).trans hL2
      · exact ns2.put fun m => rin (List.mem_cons_of_mem _ m)
abbrev nPlacesIn : List Str := ["code", "setting", "literal"]
theorem scPlacesIn : FnScope nPlacesIn ["code", "setting"] (defScope sPlacesIn) := ⟨rfl, rfl, rfl, by decide +kernel, rfl, by decide +kernel, by decide +kernel⟩
theorem ok_placesIn (F : Fun K "places_in" "places_in" sPlacesIn f fd) (T : CTxt K mg C) : FnOk P w K mg base CX0 1 f fd ["code", "setting"] (spPlacesIn K C) := by
  refine F.ok scPlacesIn (fun vs H Q E h => ?_) (fun cdv A' outer s H vs Q E hr h => ?_)
  · obtain ⟨x, A, r, b, sg, hp, rs, qs, rfl, _⟩ := h
    rfl
  · obtain ⟨x, A, r, b, sg, hp, rs, qs, rfl, cx, ok, hA, hq, k⟩ := h
    have hu := hu_of hr
    obtain ⟨dx, a, b', pl, hx, ha, hb, hpl, hr4⟩ := cx.at_
    refine ⟨_, pss_one (ps_ret (pe_lc (own := [("literal", 2)]) (g := gName 2) (tt := tYes) rfl scPlacesIn.nd (pi_seq (pv 1)) (blkOk_by (N := nPlacesIn) (sc := defScope sPlacesIn) (by decide +kernel))
        (fun _ _ _ _ _ => pg_name (i := 2) scPlacesIn.nd rfl (.inl rfl)) (fun _ _ _ _ _ => pts_nil) (fun _ _ _ _ _ => show PE _ _ (tDGet (tFld K (tVar 0) "places") (tVar 2)) from pe_dget hu (pe_fld (pv 0) rfl) (pv 2) (fun _ _ => rfl)))), ?_⟩
    have sb := size_big
    have n60 := ok.n60
    have few := hq.few
    refine ⟨_, rfl, b, A, _, rfl, hA.sq, fun M hM => lc_it walk_sq (fun j H4 => Same H H4 ∧ H4 M = some (.lst (nI (((qs.map lit).take j).map (litN (sg ++ hp)))))) ⟨same_new hM, upd_same⟩ (fun j H4 _ h => (hA.same h.1).sq) ?_ ?_⟩
    · rintro j v2 H4 H5 hj ⟨sm4, hM4⟩ ⟨rfl, hv2⟩
      obtain ⟨l, hl, rfl⟩ := get_map hv2
      obtain ⟨p, hp', rfl⟩ := get_map hl
      have mem : lit p ∈ lits (sg ++ hp) := lit_mem (hq.sub p (List.mem_of_getElem? hp'))
      have gt := DGet.k (k := Sum.inr (lit p)) (sm4 _ _ hpl)
      rw [plc_litN ok.nd ok.good mem] at gt
      refine ⟨rfl, _, rfl, x, C, dx, _, _, rfl, sm4 _ _ hx, T.cl, T.n3, fl3 .., _, rfl, pl, _, rfl, gt, _, hM4, ?_, fun b o e => (upd_ne (ne_of_none e hM)).trans (sm4 b o e), ?_⟩
      · rw [nI_len, List.length_map, List.length_take, List.length_map]
        omega
      · rw [upd_same, List.take_succ, List.getElem?_map, hp', List.map_append, nI_app]
        rfl
    · rintro H4 ⟨sm4, hM4⟩
      rw [List.length_map, List.take_length] at hM4
      exact k M H4 sm4 hM hM4
end
end K6
namespace K6
open PySem PySem.Spec PyProof.Rows L2 LamX NdefX EV
/-! ### trail_of, drawings_on, drawings -/
theorem plcF_keys : ∀ (xs : List Str) (k : Nat), ((plcF k xs).map fun kv => kV kv.1) = xs.map V.str
  | [], _ => rfl
  | x :: r, k => by
    show kV (Sum.inr x) :: _ = _
    rw [plcF_keys r (k + 1)]
    rfl
theorem plc_len (ns : List Str) : (plc ns).length = 2 * ns.length := by
  unfold plc
  rw [plcF_len, lits_len]
def litS (ns : List Str) (l : Nat) : Str := (lits ns).getD l (Str.ofString "")
theorem litS_at {ns : List Str} {l : Nat} (h : l < 2 * ns.length) : (lits ns)[l]? = some (litS ns l) := by
  have h2 : l < (lits ns).length := by rw [lits_len]; exact h
  unfold litS
  rw [List.getD_eq_getElem?_getD, List.getElem?_eq_getElem h2]
  rfl
theorem litS_mem {ns : List Str} {l : Nat} (h : l < 2 * ns.length) : litS ns l ∈ lits ns := List.mem_of_getElem? (litS_at h)
theorem litN_litS {ns : List Str} (nd : ns.Nodup) (good : ∀ z ∈ ns, Name1 z) {l : Nat} (h : l < 2 * ns.length) : litN ns (litS ns l) = l := litN_at (lits_nodup ns nd good) (litS_at h)
theorem litS_litN {ns : List Str} {z : Str} (h : z ∈ lits ns) : litS ns (litN ns z) = z := by
  have a := litN_get h
  rw [litS_at (litN_lt h)] at a
  exact Option.some.inj a
def strV (ns : List Str) : Option Nat → V
  | none => .non
  | some l => .str (litS ns l)
abbrev DrawAt (ns : List Str) (H : Hp) : List Addr → List (Option Nat × Option Nat) → Prop := Paired (fun t p => H t = some (.tup [oV1 p.1, strV ns p.2]))
def spTrailOf (K : PySem.W.Frag) (C CT : Addr) : Sp := fun vs H Q _ => ∃ (x r : Addr) (sg hp : List Str) (rs : List (List Str)), vs = [.ref x] ∧ CodeR K C H x sg hp rs r ∧ OkC sg hp rs ∧ rs.length ≤ 500 ∧
  ∀ y a H', Same H H' → H y = none → TrA CT y H' (initF (sg ++ hp).length (numF (sg ++ hp) rs)) a → (∀ b ∈ a.all, H b = none) → Q (.ref y) H'
def spDrawOn (K : PySem.W.Frag) (C CT : Addr) : Sp := fun vs H Q _ => ∃ (x y g r : Addr) (sg hp : List Str) (rs : List (List Str)) (st : TS) (a : TAd) (F : List (List Nat)) (given : List Nat), vs = [.ref x, .ref y, .ref g] ∧ CodeR K C H x sg hp rs r ∧ OkC sg hp rs ∧
  TrA CT y H st a ∧ TOk F (sg ++ hp).length ∧ TInv F (sg ++ hp).length st ∧ H g = some (.lst (nI given)) ∧ given.Nodup ∧ given.length ≤ 500 ∧
  ∀ p ts H', Same H H' → H p = none → (∀ t ∈ ts, H t = none) → H' p = some (.lst (ts.map V.ref)) → DrawAt (sg ++ hp) H' ts (pairsF st given) → Q (.ref p) H'
/-- what is told of a code and a setting -/
def drawP (ns : List Str) (rs : List (List Str)) (qs : List (Bool × Str)) : List (Option Nat × Option Nat) := pairsF (leadT ns.length ((qs.map lit).map (litN ns)) (initF ns.length (numF ns rs))) ((qs.map lit).map (litN ns))
def spDrawings (K : PySem.W.Frag) (C : Addr) : Sp := fun vs H Q _ => ∃ (x A r : Addr) (b : Bool) (sg hp : List Str) (rs : List (List Str)) (qs : List (Bool × Str)), vs = [.ref x, .ref A] ∧ CodeR K C H x sg hp rs r ∧ OkC sg hp rs ∧ rs.length ≤ 500 ∧ HS H A b ((qs.map lit).map V.str) ∧ Lits (sg ++ hp) qs ∧
  ∀ p ts H', Same H H' → H p = none → (∀ t ∈ ts, H t = none) → H' p = some (.lst (ts.map V.ref)) → DrawAt (sg ++ hp) H' ts (drawP (sg ++ hp) rs qs) → Q (.ref p) H'
section
variable {P : Program} {w : World} {K : PySem.W.Frag} {mg : Str → Option Value} {base : Heap} {f fI fN fP fS fL fT fD C CT : Addr} {fd fdI fdN fdP fdS fdL fdT fdD : FuncData}
theorem scTrailOf : FnScope ["code"] ["code"] (defScope sTrailOf) := ⟨rfl, rfl, rfl, by decide +kernel, rfl, by decide +kernel, by decide +kernel⟩
theorem ok_trailOf (F : Fun K "trail_of" "trail_of" sTrailOf f fd) (T : CTxt K mg C) (M : Mk K CT fI) (mT : mg "Trail" = some (.ref CT)) (GI : FnOk P w K mg base CX0 5 fI fdI ["self", "many", "clauses"] (spTInit CT)) (bI : L2.Binds K fdI ["self", "many", "clauses"] [])
    (GN : FnOk P w K mg base CX0 1 fN fdN ["code"] (spNumbered K C)) (mN : mg "numbered" = some (.ref fN)) (kN : PySem.W.keepIn K (.ref fN) = true) (bN : L2.Binds K fdN ["code"] []) :
    FnOk P w K mg base CX0 7 f fd ["code"] (spTrailOf K C CT) := by
  refine F.ok scTrailOf (fun vs H Q E h => ?_) (fun cdv A outer s H vs Q E hr h => ?_)
  · obtain ⟨x, r, sg, hp, rs, rfl, _⟩ := h
    rfl
  · obtain ⟨x, r, sg, hp, rs, rfl, cx, ok, few, k⟩ := h
    have hr1 : Room 1 _ := hr.mono (by decide)
    obtain ⟨dx, a, b, pl, hx, ha, hb, hpl, hr4⟩ := cx.at_
    refine ⟨_, pss_one (ps_ret (pe_make M GI hr (by rfl) mT bI .nil pass0 (pa_cons (pe_op op_fdiv (pe_callB call_lenD (by rfl) T.len PySem.boot_len (pa_cons (pe_fld (pv 0) rfl) pa_nil)) pe_int) (pa_cons (pe_call GN hr1 (by rfl) mN kN bN .nil pass0 (pa_cons (pv 0) pa_nil)) pa_nil)))), ?_⟩
    have e2 : (((plc (sg ++ hp)).length : Nat) : Int) / 2 = (((sg ++ hp).length : Nat) : Int) := by rw [plc_len]; omega
    refine ⟨_, rfl, x, C, dx, _, _, rfl, hx, T.cl, T.n3, fl3 .., _, _, rfl, hpl, _, _, rfl, rfl, by unfold CDiv; decide, _, rfl, x, r, sg, hp, rs, rfl, cx, ok, fun cl cs H1 sm1 hcl hcl1 ns1 new => ?_⟩
    intro y dy hy hdy ydy
    have sy := same_new (o := .own y) hdy
    have hy1 : upd H1 dy (.own y) y = none := by rw [upd_ne (fun e => ydy e.symm)]; exact hy
    have sy2 := same_new (o := .ins CT dy []) hy1
    have clH := sy2 _ _ (sy _ _ hcl1)
    refine ⟨y, dy, cl, (sg ++ hp).length, numF (sg ++ hp) rs, cs, by show [V.ref y, V.int (((plc (sg ++ hp)).length : Nat) / 2), V.ref cl] = _; rw [e2], upd_same, clH, (ns1.same sy).same sy2, numF_ok ok few, (fun e => by rw [e, hy] at hcl1; cases hcl1), fun m => ?_, fun a H' ta na gr => ⟨rfl, ?_⟩⟩
    · obtain ⟨c, h⟩ := paired_right' ns1 m
      rw [hy] at h
      cases h
    · refine k y a H' (fun b o e => ?_) (sm1.free hy) ta fun b hb => ?_
      · have e1 := sm1 _ _ e
        exact gr b o (fun q => by rw [q, hy] at e1; cases e1) (sy2 _ _ (sy _ _ e1))
      · exact sm1.free (sy.free (sy2.free (na b hb)))
abbrev nDrawOn : List Str := ["code", "trail", "given", "literals", "index", "place"]
theorem scDrawOn : FnScope nDrawOn ["code", "trail", "given"] (defScope sDrawingsOn) := ⟨rfl, rfl, rfl, by decide +kernel, rfl, by decide +kernel, by decide +kernel⟩
theorem ok_drawOn (F : Fun K "drawings_on" "drawings_on" sDrawingsOn f fd) (T : CTxt K mg C) (TT : TTxt K mg CT)
    (GP : FnOk P w K mg base CX0 1 fP fdP ["self", "given"] (spPairs CT)) (mP : Meth K CT "pairs" fP) (bP : L2.Binds K fdP ["self", "given"] []) :
    FnOk P w K mg base CX0 2 f fd ["code", "trail", "given"] (spDrawOn K C CT) := by
  refine F.ok scDrawOn (fun vs H Q E h => ?_) (fun cdv A' outer s H vs Q E hr h => ?_)
  · obtain ⟨x, y, g, r, sg, hp, rs, st, a, F', given, rfl, _⟩ := h
    rfl
  · obtain ⟨x, y, g, r, sg, hp, rs, st, a, Fc, given, rfl, cx, ok, t, o, v, hg, nd, len, k⟩ := h
    have hr1 : Room 1 _ := hr.mono (by decide)
    obtain ⟨dx, pa, pb, pl, hx, ha, hb, hpl, hr4⟩ := cx.at_
    refine ⟨_, pss_cons (ps_set (i := 3) scDrawOn.nd rfl (.inr rfl) (pe_callTy (call_list_dK rfl) (by rfl) T.list (by decide +kernel) (pa_cons (pe_fld (pv 0) rfl) pa_nil)))
      (pss_one (ps_ret (pe_lc (own := [("index", 4), ("place", 5)]) (tt := tYes) rfl scDrawOn.nd (pi_list (pe_meth (pv 1) TT.cl mP GP hr1 bP .nil pass0 (pa_cons (pv 2) pa_nil))) (blkOk_by (N := nDrawOn) (sc := defScope sDrawingsOn) (by decide +kernel))
        (fun _ _ _ _ _ => show PG _ _ (gTup K 2 _) from pg_tup rfl (pgs_cons (pg_name (i := 4) scDrawOn.nd rfl (.inl rfl)) (pgs_cons (pg_name (i := 5) scDrawOn.nd rfl (.inl rfl)) pgs_nil)))
        (fun _ _ _ _ _ => pts_nil)
        (fun _ _ _ _ _ => show PE _ _ (tTup (tCons (tVar 4) (tCons (tIf _ (tC .non) (tOp (rIxL K) (tVar 3) (tVar 5))) tNil))) from pe_tup (pa_cons (pv 4) (pa_cons (pe_ifExp (pt_cmpR op_isN (pv 5) pe_non (nomark _)) pe_non (pe_ix ix_list (pv 3) (pv 5) (fun _ _ => rfl))) pa_nil)))))), ?_⟩
    have sb := size_big
    have n60 := ok.n60
    have plen := pairsF_len v given
    refine ⟨_, rfl, x, C, dx, _, _, rfl, hx, T.cl, T.n3, fl3 .., pl, _, rfl, hpl, fun LL hLL => ?_⟩
    have s1 := same_new (o := .lst ((plc (sg ++ hp)).map fun kv => kV kv.1)) hLL
    have hLL1 : upd H LL (.lst ((plc (sg ++ hp)).map fun kv => kV kv.1)) LL = some (.lst ((lits (sg ++ hp)).map V.str)) := by rw [upd_same]; unfold plc; rw [plcF_keys]
    have t1 := t.same s1
    have hg1 := s1 _ _ hg
    generalize upd H LL (.lst ((plc (sg ++ hp)).map fun kv => kV kv.1)) = H1 at *
    obtain ⟨dt, fs, ht, L⟩ := t1.at_
    refine ⟨_, rfl, y, dt, fs, rfl, ht, L.me _ (by decide +kernel), _, rfl, y, g, given, st, a, Fc, (sg ++ hp).length, rfl, hg1, t1, o, v, nd, len, fun p ts H2 hp0 sm2 hp2 pa2 => ?_⟩
    have lts : ts.length = (pairsF st given).length := Paired.length pa2
    have sm12 := s1.trans sm2
    have hLL2 := sm2 _ _ hLL1
    refine ⟨p, rfl, ⟨_, SqL.of hp2⟩, fun D hD => lc_list (K := K) (a := p) (xs := ts.map V.ref) (fun i H3 => Same H2 H3 ∧ ∃ us : List Addr, H3 D = some (.lst (us.map V.ref)) ∧ DrawAt (sg ++ hp) H3 us ((pairsF st given).take i) ∧ (∀ u ∈ us, H u = none) ∧ D ∉ us) ⟨same_new hD, [], upd_same, .nil, (fun _ h => nomatch h), (fun h => nomatch h)⟩ (fun i H3 _ h => SqL.of (h.1 _ _ hp2)) ?_ ?_⟩
    · rintro i v' H3 hv ⟨sm3, us, hD3, da3, new3, Dus⟩
      obtain ⟨q, hq, rfl⟩ := get_map hv
      have hi : i < (pairsF st given).length := by
        have := (List.getElem?_eq_some_iff.mp hq).1
        omega
      obtain ⟨pr, hpr, hqt⟩ := paired_get pa2 i q hq
      have hpr2 : (pairsF st given)[i]? = some pr := hpr
      have hqt3 := sm3 _ _ hqt
      have lus : us.length = i := by rw [Paired.length da3, List.length_take]; omega
      have et : (pairsF st given).take (i + 1) = (pairsF st given).take i ++ [pr] := by rw [List.take_succ, hpr2]; rfl
      refine ⟨q, _, rfl, SqT.of hqt3, rfl, _, _, rfl, _, _, rfl, rfl, rfl, ?_⟩
      have fin : ∀ (vv : V), vv = strV (sg ++ hp) pr.2 → 2 ≤ sizeLine ∧ ∀ q2, H3 q2 = none → ∃ acc, upd H3 q2 (.tup [oV1 pr.1, vv]) D = some (.lst acc) ∧ acc.length < sizeLine ∧ (Same H2 (upd (upd H3 q2 (.tup [oV1 pr.1, vv])) D (.lst (acc ++ [.ref q2]))) ∧ ∃ us' : List Addr, upd (upd H3 q2 (.tup [oV1 pr.1, vv])) D (.lst (acc ++ [.ref q2])) D = some (.lst (us'.map V.ref)) ∧ DrawAt (sg ++ hp) (upd (upd H3 q2 (.tup [oV1 pr.1, vv])) D (.lst (acc ++ [.ref q2]))) us' ((pairsF st given).take (i + 1)) ∧ (∀ u ∈ us', H u = none) ∧ D ∉ us') := fun vv ev => by
        subst ev
        refine ⟨by decide, fun q2 hq2 => ?_⟩
        have s4 := same_new (o := .tup [oV1 pr.1, strV (sg ++ hp) pr.2]) hq2
        have hD4 := s4 _ _ hD3
        have q2D : q2 ≠ D := fun e => by rw [e, hD3] at hq2; cases hq2
        have hq4 : upd H3 q2 (.tup [oV1 pr.1, strV (sg ++ hp) pr.2]) q2 = some (.tup [oV1 pr.1, strV (sg ++ hp) pr.2]) := upd_same
        have sm4 := sm3.trans s4
        generalize upd H3 q2 (.tup [oV1 pr.1, strV (sg ++ hp) pr.2]) = H4 at *
        have pk : ∀ {b : Addr} {u : HO}, H4 b = some u → (∀ xs, u ≠ .lst xs) → upd H4 D (.lst (us.map V.ref ++ [V.ref q2])) b = some u := fun {b u} e ne => (upd_ne fun q' => by rw [q', hD4] at e; exact ne _ (Option.some.inj e).symm).trans e
        refine ⟨_, hD4, by rw [List.length_map, lus]; omega, fun b u e => (upd_ne (ne_of_none e hD)).trans (sm4 b u e), us ++ [q2], ?_, ?_, ?_, ?_⟩
        · rw [List.map_append]
          exact upd_same
        · rw [et]
          exact paired_app (Paired.mapP da3 fun t' p' z => pk (s4 _ _ z) (fun _ z => nomatch z)) (.cons (pk hq4 (fun _ z => nomatch z)) .nil)
        · intro u hu
          rcases List.mem_append.mp hu with hu | hu
          · exact new3 u hu
          · rw [List.mem_singleton.mp hu]
            exact (sm12.trans sm3).free hq2
        · intro hu
          rcases List.mem_append.mp hu with hu | hu
          · exact Dus hu
          · exact q2D (List.mem_singleton.mp hu).symm
      refine ⟨_, rfl, ?_⟩
      cases hp2' : pr.2 with
      | none =>
        refine ⟨_, rfl, rfl, _, rfl, iteT ?_⟩
        exact fin .non (by rw [hp2']; rfl)
      | some l =>
        have hl := v.slt l (pairsF_mem (List.mem_of_getElem? hpr2) hp2')
        refine ⟨_, rfl, rfl, _, rfl, iteF ⟨_, rfl, _, rfl, LL, _, _, .str (litS (sg ++ hp) l), rfl, rfl, SqL.of (sm3 _ _ hLL2), ?_, ?_⟩⟩
        · unfold atI
          rw [List.length_map, lits_len, ixN_nat hl]
          show ((lits (sg ++ hp)).map V.str)[l]? = _
          rw [List.getElem?_map, litS_at hl]
          rfl
        · exact fin _ (by rw [hp2']; rfl)
    · rintro H3 ⟨sm3, us, hD3, da3, new3, Dus⟩
      rw [List.length_map, lts, List.take_length] at da3
      exact k D us H3 (sm12.trans sm3) (sm12.free hD) new3 hD3 da3
abbrev nDrawings : List Str := ["code", "setting", "given", "trail"]
theorem scDrawings : FnScope nDrawings ["code", "setting"] (defScope sDrawings) := ⟨rfl, rfl, rfl, by decide +kernel, rfl, by decide +kernel, by decide +kernel⟩
theorem ok_drawings (F : Fun K "drawings" "drawings" sDrawings f fd) (T : CTxt K mg C) (TT : TTxt K mg CT)
    (GS : FnOk P w K mg base CX0 3 fS fdS ["places", "setting"] (spChkSet K)) (mS : mg "check_setting" = some (.ref fS)) (kS : PySem.W.keepIn K (.ref fS) = true) (bS : L2.Binds K fdS ["places", "setting"] [])
    (GP : FnOk P w K mg base CX0 1 fP fdP ["code", "setting"] (spPlacesIn K C)) (mP : mg "places_in" = some (.ref fP)) (kP : PySem.W.keepIn K (.ref fP) = true) (bP : L2.Binds K fdP ["code", "setting"] [])
    (GT : FnOk P w K mg base CX0 7 fT fdT ["code"] (spTrailOf K C CT)) (mT : mg "trail_of" = some (.ref fT)) (kT : PySem.W.keepIn K (.ref fT) = true) (bT : L2.Binds K fdT ["code"] [])
    (GL : FnOk P w K mg base CX0 5 fL fdL ["self", "given"] (spLead CT)) (mL : Meth K CT "lead" fL) (bL : L2.Binds K fdL ["self", "given"] [])
    (GD : FnOk P w K mg base CX0 2 fD fdD ["code", "trail", "given"] (spDrawOn K C CT)) (mD : mg "drawings_on" = some (.ref fD)) (kD : PySem.W.keepIn K (.ref fD) = true) (bD : L2.Binds K fdD ["code", "trail", "given"] []) :
    FnOk P w K mg base CX0 8 f fd ["code", "setting"] (spDrawings K C) := by
  refine F.ok scDrawings (fun vs H Q E h => ?_) (fun cdv A' outer s H vs Q E hr h => ?_)
  · obtain ⟨x, A, r, b, sg, hp, rs, qs, rfl, _⟩ := h
    rfl
  · obtain ⟨x, A, r, b, sg, hp, rs, qs, rfl, cx, ok, few, hA, hq, k⟩ := h
    have hr1 : Room 1 _ := hr.mono (by decide)
    have hr2 : Room 2 _ := hr.mono (by decide)
    have hr3 : Room 3 _ := hr.mono (by decide)
    have hr5 : Room 5 _ := hr.mono (by decide)
    refine ⟨_, pss_cons (ps_expr (pe_call GS hr3 (by rfl) mS kS bS .nil pass0 (pa_cons (pe_fld (pv 0) rfl) (pa_cons (pv 1) pa_nil))))
      (pss_cons (ps_set (i := 2) scDrawings.nd rfl (.inl rfl) (pe_call GP hr1 (by rfl) mP kP bP .nil pass0 (pa_cons (pv 0) (pa_cons (pv 1) pa_nil))))
      (pss_cons (ps_set (i := 3) scDrawings.nd rfl (.inl rfl) (pe_call GT hr (by rfl) mT kT bT .nil pass0 (pa_cons (pv 0) pa_nil)))
      (pss_cons (ps_expr (pe_meth (pv 3) TT.cl mL GL hr5 bL .nil pass0 (pa_cons (pv 2) pa_nil)))
      (pss_one (ps_ret (pe_call GD hr2 (by rfl) mD kD bD .nil pass0 (pa_cons (pv 0) (pa_cons (pv 3) (pa_cons (pv 2) pa_nil))))))))), ?_⟩
    obtain ⟨dx, a, b', pl, hx, ha, hb, hpl, hr4⟩ := cx.at_
    have n60 := ok.n60
    have lq := hq.few
    have o := numF_ok ok few
    have glt : ∀ l ∈ (qs.map lit).map (litN (sg ++ hp)), l < 2 * (sg ++ hp).length := fun l hl => by
      obtain ⟨z, hz, rfl⟩ := List.mem_map.mp hl
      obtain ⟨q, hq', rfl⟩ := List.mem_map.mp hz
      exact litN_lt (lit_mem (hq.sub q hq'))
    have gnd := half_nodup ok.nd ok.good hq.nd hq.sub
    have glen : ((qs.map lit).map (litN (sg ++ hp))).length ≤ 500 := by rw [List.length_map, List.length_map]; omega
    refine ⟨_, rfl, x, C, dx, _, _, rfl, hx, T.cl, T.n3, fl3 .., _, rfl, pl, .ref A, sg ++ hp, rfl, hpl, ok.n60, ok.nd, ok.good, hA.ask hq, fun H1 sm1 => ?_⟩
    refine ⟨_, rfl, _, rfl, x, A, r, b, sg, hp, rs, qs, rfl, cx.same sm1, ok, hA.same sm1, hq, fun g H2 sm2 hg0 hg2 => ?_⟩
    have sm12 := sm1.trans sm2
    refine ⟨_, rfl, x, r, sg, hp, rs, rfl, cx.same sm12, ok, few, fun y ta H3 sm3 hy0 t3 new3 => ?_⟩
    have sm13 := sm12.trans sm3
    have hg3 := sm3 _ _ hg2
    obtain ⟨it, i1, i2⟩ := init_spec o.g
    obtain ⟨d3, fs, hy3, L⟩ := t3.at_
    have sg3 := led_spec o.g glt gnd
    unfold drawP at k
    refine ⟨_, rfl, y, d3, fs, rfl, hy3, L.me _ (by decide +kernel), _, rfl, y, g, _, _, ta, numF (sg ++ hp) rs, (sg ++ hp).length, rfl, hg3, t3, o, it, i1, i2, glt, gnd, glen, fun H4 ta4 t4 f4 => ?_⟩
    have sm4 : Same H2 H4 := fun b o e => f4.keep b o (sm3 b o e) (fun q => by rw [q, hy0] at e; cases e) fun m => by
      have := new3 b m
      rw [e] at this
      cases this
    have sm04 := sm12.trans sm4
    refine ⟨_, rfl, _, rfl, _, rfl, x, y, g, r, sg, hp, rs, _, ta4, numF (sg ++ hp) rs, _, rfl, cx.same sm04, ok, t4, o, sg3.1.f.v, sm4 _ _ hg2, nodup_of_map gnd, glen, fun p ts H5 sm5 hp0 tsn hp5 da5 => ?_⟩
    exact k p ts H5 (sm04.trans sm5) (sm04.free hp0) (fun t ht => sm04.free (tsn t ht)) hp5 da5
end
end K6
namespace K6
open PySem PySem.Spec PyProof.Rows L2 LamX NdefX EV
/-! ### the same in literals -/
def SClosed (rs : List (List Str)) (S : Str → Prop) : Prop := ∀ r ∈ rs, ∀ z ∈ r, (∀ y ∈ r, y ≠ z → S (oth y)) → S z
def SDead (rs : List (List Str)) (S : Str → Prop) : Prop := ∃ r ∈ rs, ∀ y ∈ r, S (oth y)
/-- right pairs, each behind those ahead of it -/
inductive RightS (rs : List (List Str)) : List Str → List (Nat × Option Str) → List Str → Bool → Prop
  | nil (so : List Str) : RightS rs so [] so false
  | dead {so : List Str} {i : Nat} (hi : i < rs.length) (h : leftOf so (rs.getD i []) = []) : RightS rs so [(i, none)] so true
  | lit {so : List Str} {i : Nat} {z : Str} {r : List (Nat × Option Str)} {so' : List Str} {b : Bool} (hi : i < rs.length) (h : leftOf so (rs.getD i []) = [z]) (hn : z ∉ so) (t : RightS rs (so ++ [z]) r so' b) : RightS rs so ((i, some z) :: r) so' b
def dS (p : Nat × Option Str) : PyData := .tuple [.int (p.1 : Nat), lD p.2]
theorem ixOf_nat {m i : Nat} (h : i < m) : ixOf m (.int (i : Nat)) = some i := by
  show (if 0 ≤ (i : Int) ∧ (i : Int) < (m : Nat) then some (i : Int).toNat else none) = _
  rw [if_pos ⟨by omega, by omega⟩]
  rfl
theorem RightS.go {rs : List (List Str)} : ∀ {so so' : List Str} {ps : List (Nat × Option Str)} {b : Bool}, RightS rs so ps so' b → ∀ k, goR rs so false ((ps.take k).map dS) = true
  | _, _, _, _, .nil so, k => by
    rw [List.take_nil]
    rfl
  | _, _, _, _, .dead hi h, 0 => rfl
  | _, _, _, _, @RightS.dead _ so i hi h, k + 1 => by
    show goR rs so false (dS (i, none) :: _) = true
    rw [goR, show stepR rs so (dS (i, none)) = endR (leftOf so (rs.getD i [])) so .none from by rw [stepR_two rfl, ixOf_nat hi]; all_goals rfl]
    rw [h]
    cases k <;> rfl
  | _, _, _, _, .lit hi h hn t, 0 => rfl
  | _, _, _, _, @RightS.lit _ so i z r so' b hi h hn t, k + 1 => by
    show goR rs so false (dS (i, some z) :: ((r.take k).map dS)) = true
    rw [goR, show stepR rs so (dS (i, some z)) = endR (leftOf so (rs.getD i [])) so (.str z) from by rw [stepR_two rfl, ixOf_nat hi]; all_goals rfl]
    rw [h, show endR [z] so (.str z) = some (some z) from if_pos ⟨rfl, hn⟩]
    exact t.go k
theorem RightS.ix {rs : List (List Str)} {so so' : List Str} {ps : List (Nat × Option Str)} {b : Bool} (h : RightS rs so ps so' b) : ∀ p ∈ ps, p.1 < rs.length ∧ ∀ z, p.2 = some z → z ∈ rs.getD p.1 [] := by
  induction h with
  | nil => exact fun _ h => nomatch h
  | dead hi h =>
    intro p hp
    rw [List.mem_singleton.mp hp]
    exact ⟨hi, fun z e => nomatch e⟩
  | @lit so i z r so' b hi h hn t ih =>
    intro p hp
    rcases List.mem_cons.mp hp with e | hp
    · rw [e]
      refine ⟨hi, fun y e => ?_⟩
      have e : some z = some y := e
      rw [← Option.some.inj e]
      have m : z ∈ leftOf so (rs.getD i []) := by rw [h]; exact List.mem_cons_self
      exact (List.mem_filter.mp m).1
    · exact ih p hp
theorem RightS.so_mem {rs : List (List Str)} {so so' : List Str} {ps : List (Nat × Option Str)} {b : Bool} (h : RightS rs so ps so' b) : ∀ z ∈ so', z ∈ so ∨ ∃ r ∈ rs, z ∈ r := by
  induction h with
  | nil so => exact fun z h => .inl h
  | dead hi h => exact fun z h => .inl h
  | @lit so i z r so' b hi h hn t ih =>
    intro y hy
    rcases ih y hy with h2 | h2
    · rcases List.mem_append.mp h2 with h2 | h2
      · exact .inl h2
      · have m : z ∈ leftOf so (rs.getD i []) := by rw [h]; exact List.mem_cons_self
        rw [List.mem_singleton.mp h2]
        exact .inr ⟨_, getD_mem hi, (List.mem_filter.mp m).1⟩
    · exact .inr h2
section
variable {ns : List Str} {rs : List (List Str)}
theorem litS_q (nd : ns.Nodup) (good : ∀ z ∈ ns, Name1 z) {l : Nat} (h : l < 2 * ns.length) : ∃ q : Bool × Str, litS ns l = lit q ∧ q.2 ∈ ns ∧ litN ns (lit q) = l := by
  obtain ⟨q, hq, e⟩ := lits_lit (litS_mem h)
  exact ⟨q, e.symm, hq, by rw [e]; exact litN_litS nd good h⟩
theorem oth_litS (nd : ns.Nodup) (good : ∀ z ∈ ns, Name1 z) {l : Nat} (h : l < 2 * ns.length) : oth (litS ns l) = litS ns (flip l) := by
  obtain ⟨q, e, hq, en⟩ := litS_q nd good h
  rw [e, oth_lit (good _ hq), ← en, ← litN_flip nd good hq, litS_litN (lit_mem (show (opp q).2 ∈ ns from hq))]
theorem litS_inj (nd : ns.Nodup) (good : ∀ z ∈ ns, Name1 z) {l m : Nat} (hl : l < 2 * ns.length) (hm : m < 2 * ns.length) (h : litS ns l = litS ns m) : l = m := by
  rw [← litN_litS nd good hl, h, litN_litS nd good hm]
theorem row_back (hr : ∀ r ∈ rs, ∀ z ∈ r, z ∈ lits ns) {i : Nat} (hi : i < rs.length) : (gL (numF ns rs) i).map (litS ns) = rs.getD i [] := by
  rw [numF_at _ _ hi, List.map_map]
  have e : ∀ r : List Str, (∀ z ∈ r, z ∈ lits ns) → r.map (litS ns ∘ litN ns) = r := fun r h => by
    induction r with
    | nil => rfl
    | cons z r ih =>
      rw [List.map_cons, ih fun y hy => h y (List.mem_cons_of_mem _ hy)]
      show litS ns (litN ns z) :: r = _
      rw [litS_litN (h z List.mem_cons_self)]
  exact e _ (hr _ (getD_mem hi))
theorem numF_len : (numF ns rs).length = rs.length := by unfold numF; rw [List.length_map]
theorem row_lt (hr : ∀ r ∈ rs, ∀ z ∈ r, z ∈ lits ns) {i : Nat} (hi : i < rs.length) : ∀ l ∈ gL (numF ns rs) i, l < 2 * ns.length := fun l hl => by
  rw [numF_at _ _ hi] at hl
  obtain ⟨z, hz, rfl⟩ := List.mem_map.mp hl
  exact litN_lt (hr _ (getD_mem hi) z hz)
theorem left_num (nd : ns.Nodup) (good : ∀ z ∈ ns, Name1 z) (hr : ∀ r ∈ rs, ∀ z ∈ r, z ∈ lits ns) {so : List Nat} (hso : ∀ l ∈ so, l < 2 * ns.length) {i : Nat} (hi : i < rs.length) :
    leftOf (so.map (litS ns)) (rs.getD i []) = ((gL (numF ns rs) i).filter fun m => decide (flip m ∉ so)).map (litS ns) := by
  rw [← row_back hr hi]
  have hl := row_lt hr hi
  generalize gL (numF ns rs) i = c at hl
  unfold leftOf
  induction c with
  | nil => rfl
  | cons l c ih =>
    have ih := ih fun m hm => hl m (List.mem_cons_of_mem _ hm)
    have hll := hl l List.mem_cons_self
    have e : (oth (litS ns l) ∉ so.map (litS ns)) ↔ flip l ∉ so := by
      rw [oth_litS nd good hll]
      refine not_congr ⟨fun h => ?_, fun h => List.mem_map_of_mem h⟩
      obtain ⟨m, hm, e⟩ := List.mem_map.mp h
      rw [← litS_inj nd good (hso m hm) (flip_lt hll) e]
      exact hm
    rw [List.map_cons, List.filter_cons, List.filter_cons]
    by_cases c1 : flip l ∉ so
    · rw [if_pos (decide_eq_true (e.mpr c1)), if_pos (decide_eq_true c1), ih]
      rfl
    · rw [if_neg (fun z => c1 (e.mp (of_decide_eq_true z))), if_neg (fun z => c1 (of_decide_eq_true z)), ih]
theorem RightN.str (nd : ns.Nodup) (good : ∀ z ∈ ns, Name1 z) (hr : ∀ r ∈ rs, ∀ z ∈ r, z ∈ lits ns) : ∀ {so so' : List Nat} {ps : List (Option Nat × Option Nat)} {b : Bool}, RightN (numF ns rs) so ps so' b → (∀ l ∈ so, l < 2 * ns.length) →
    ∃ qs, RightS rs (so.map (litS ns)) qs (so'.map (litS ns)) b ∧ Paired (fun (p : Option Nat × Option Nat) (q : Nat × Option Str) => p.1 = some q.1 ∧ p.2.map (litS ns) = q.2) ps qs
  | _, _, _, _, .nil so, _ => ⟨[], .nil _, .nil⟩
  | _, _, _, _, @RightN.dead _ so i hi h, hso => by
    rw [numF_len] at hi
    refine ⟨[(i, none)], .dead hi ?_, .cons ⟨rfl, rfl⟩ .nil⟩
    rw [left_num nd good hr hso hi, h]
    rfl
  | _, _, _, _, @RightN.lit _ so i l r so' b hi h hn t, hso => by
    rw [numF_len] at hi
    have hl : l < 2 * ns.length := by
      have m : l ∈ (gL (numF ns rs) i).filter fun m => decide (flip m ∉ so) := by rw [h]; exact List.mem_cons_self
      exact row_lt hr hi l (List.mem_filter.mp m).1
    obtain ⟨qs, h1, h2⟩ := t.str nd good hr fun m hm => (List.mem_append.mp hm).elim (hso m) fun z => by rw [List.mem_singleton.mp z]; exact hl
    rw [List.map_append] at h1
    refine ⟨(i, some (litS ns l)) :: qs, .lit hi ?_ (fun m => ?_) h1, .cons ⟨rfl, rfl⟩ h2⟩
    · rw [left_num nd good hr hso hi, h]
      rfl
    · obtain ⟨m', hm, e⟩ := List.mem_map.mp m
      rw [litS_inj nd good (hso m' hm) hl e] at hm
      exact hn hm
/-- a set of literals that is closed, in numbers -/
theorem closed_num (nd : ns.Nodup) (good : ∀ z ∈ ns, Name1 z) (hr : ∀ r ∈ rs, ∀ z ∈ r, z ∈ lits ns) {S : Str → Prop} (c : SClosed rs S) : TClosed (numF ns rs) fun l => S (litS ns l) := fun i hi l hl h => by
  rw [numF_len] at hi
  have hlt := row_lt hr hi
  refine c _ (getD_mem hi) _ (by rw [← row_back hr hi]; exact List.mem_map_of_mem hl) fun y hy ne => ?_
  rw [← row_back hr hi] at hy
  obtain ⟨m, hm, rfl⟩ := List.mem_map.mp hy
  rw [oth_litS nd good (hlt m hm)]
  exact h m hm fun e => ne (by rw [e])
theorem dead_str (nd : ns.Nodup) (good : ∀ z ∈ ns, Name1 z) (hr : ∀ r ∈ rs, ∀ z ∈ r, z ∈ lits ns) {S : Str → Prop} (d : TDead (numF ns rs) fun l => S (litS ns l)) : SDead rs S := by
  obtain ⟨i, hi, h⟩ := d
  rw [numF_len] at hi
  refine ⟨_, getD_mem hi, fun y hy => ?_⟩
  rw [← row_back hr hi] at hy
  obtain ⟨m, hm, rfl⟩ := List.mem_map.mp hy
  rw [oth_litS nd good (row_lt hr hi m hm)]
  exact h m hm
/-- a closed set of numbers, in literals -/
theorem closed_str (nd : ns.Nodup) (good : ∀ z ∈ ns, Name1 z) (hr : ∀ r ∈ rs, ∀ z ∈ r, z ∈ lits ns) {so : List Nat} (hso : ∀ l ∈ so, l < 2 * ns.length) (c : TClosed (numF ns rs) (· ∈ so)) (nd2 : ¬ TDead (numF ns rs) (· ∈ so)) :
    SClosed rs (· ∈ so.map (litS ns)) ∧ ¬ SDead rs (· ∈ so.map (litS ns)) := by
  have ix : ∀ r ∈ rs, ∃ i, i < rs.length ∧ r = rs.getD i [] := fun r hr' => by
    obtain ⟨i, hi, e⟩ := List.getElem_of_mem hr'
    exact ⟨i, hi, by rw [List.getD_eq_getElem?_getD, List.getElem?_eq_getElem hi]; exact e.symm⟩
  have back : ∀ {l : Nat}, l < 2 * ns.length → litS ns l ∈ so.map (litS ns) → l ∈ so := fun {l} hl h => by
    obtain ⟨m, hm, e⟩ := List.mem_map.mp h
    rw [← litS_inj nd good (hso m hm) hl e]
    exact hm
  refine ⟨fun r hr' z hz h => ?_, fun ⟨r, hr', h⟩ => ?_⟩
  · obtain ⟨i, hi, rfl⟩ := ix r hr'
    have hlt := row_lt hr hi
    rw [← row_back hr hi] at hz
    obtain ⟨l, hl, rfl⟩ := List.mem_map.mp hz
    refine List.mem_map_of_mem (c i (by rw [numF_len]; exact hi) l hl fun m hm ne => ?_)
    have z := h (litS ns m) (by rw [← row_back hr hi]; exact List.mem_map_of_mem hm) fun e => ne (litS_inj nd good (hlt m hm) (hlt l hl) e)
    rw [oth_litS nd good (hlt m hm)] at z
    exact back (flip_lt (hlt m hm)) z
  · obtain ⟨i, hi, rfl⟩ := ix r hr'
    refine nd2 ⟨i, by rw [numF_len]; exact hi, fun m hm => ?_⟩
    have hlt := row_lt hr hi
    have z := h (litS ns m) (by rw [← row_back hr hi]; exact List.mem_map_of_mem hm)
    rw [oth_litS nd good (hlt m hm)] at z
    exact back (flip_lt (hlt m hm)) z
end
/-- what the law chases: the literals that are so in the end -/
structure ChaseT (rs : List (List Str)) (half so : List Str) : Prop where
  cl : SClosed rs (· ∈ so)
  nd : ¬ SDead rs (· ∈ so)
  sub : ∀ z ∈ half, z ∈ so
  min : ∀ S : Str → Prop, SClosed rs S → (∀ z ∈ half, S z) → ∀ z ∈ so, S z
def ChaseN (rs : List (List Str)) (half : List Str) : Prop := ∀ S : Str → Prop, SClosed rs S → (∀ z ∈ half, S z) → SDead rs S
/-- what is told of a code and a setting is right, and ends as the law's chase does -/
theorem draw_right {sg hp : List Str} {rs : List (List Str)} (ok : OkC sg hp rs) (few : rs.length ≤ 500) {qs : List (Bool × Str)} (hq : Lits (sg ++ hp) qs) :
    ∃ (ps : List (Nat × Option Str)) (so : List Str) (b : Bool), RightS rs (qs.map lit) ps so b ∧ Paired (fun (p : Option Nat × Option Nat) (q : Nat × Option Str) => p.1 = some q.1 ∧ p.2.map (litS (sg ++ hp)) = q.2) (drawP (sg ++ hp) rs qs) ps ∧
      (b = true → ∀ ch, ¬ ChaseT rs (qs.map lit) ch) ∧ (b = false → ¬ ChaseN rs (qs.map lit) ∧ ∀ ch, ChaseT rs (qs.map lit) ch → ∀ z, z ∈ so ↔ z ∈ ch) := by
  have o := numF_ok ok few
  have hr : ∀ r ∈ rs, ∀ z ∈ r, z ∈ lits (sg ++ hp) := fun r hr z hz => by
    obtain ⟨ps, hps, e⟩ := (ok.row r hr).lits ok.nd ok.good
    rw [e] at hz
    obtain ⟨q, hq', rfl⟩ := List.mem_map.mp hz
    exact lit_mem (hps.sub q hq')
  have glt : ∀ l ∈ (qs.map lit).map (litN (sg ++ hp)), l < 2 * (sg ++ hp).length := fun l hl => by
    obtain ⟨z, hz, rfl⟩ := List.mem_map.mp hl
    obtain ⟨q, hq', rfl⟩ := List.mem_map.mp hz
    exact litN_lt (lit_mem (hq.sub q hq'))
  have gnd := half_nodup ok.nd ok.good hq.nd hq.sub
  have gback : ((qs.map lit).map (litN (sg ++ hp))).map (litS (sg ++ hp)) = qs.map lit := by
    rw [List.map_map]
    have e : ∀ r : List Str, (∀ z ∈ r, z ∈ lits (sg ++ hp)) → r.map (litS (sg ++ hp) ∘ litN (sg ++ hp)) = r := fun r h => by
      induction r with
      | nil => rfl
      | cons z r ih =>
        rw [List.map_cons, ih fun y hy => h y (List.mem_cons_of_mem _ hy)]
        show litS (sg ++ hp) (litN (sg ++ hp) z) :: r = _
        rw [litS_litN (h z List.mem_cons_self)]
    refine e _ fun z hz => ?_
    obtain ⟨q, hq', rfl⟩ := List.mem_map.mp hz
    exact lit_mem (hq.sub q hq')
  obtain ⟨so', h1, h2⟩ := pairs_spec o.g glt gnd
  obtain ⟨t, l1, l2⟩ := led_spec o.g glt gnd
  obtain ⟨ps, r1, r2⟩ := h1.str ok.nd ok.good hr glt
  rw [gback] at r1
  refine ⟨ps, so'.map (litS (sg ++ hp)), _, r1, r2, fun hb ch hc => ?_, fun hb => ?_⟩
  · have cz := of_decide_eq_true hb
    obtain ⟨s1, s2⟩ := t.sound (closed_num ok.nd ok.good hr hc.cl) fun l hl => by
      refine hc.sub _ ?_
      rw [← gback]
      exact List.mem_map_of_mem (l1 l hl)
    exact hc.nd (dead_str ok.nd ok.good hr (s2 cz))
  · have cz : (leadT (sg ++ hp).length ((qs.map lit).map (litN (sg ++ hp))) (initF (sg ++ hp).length (numF (sg ++ hp) rs))).clash = none := by
      by_cases c : (leadT (sg ++ hp).length ((qs.map lit).map (litN (sg ++ hp))) (initF (sg ++ hp).length (numF (sg ++ hp) rs))).clash = none
      · exact c
      · have hb : decide _ = false := hb
        rw [decide_eq_true c] at hb
        cases hb
    obtain ⟨f1, f2⟩ := t.full o.g cz
    obtain ⟨e1, e2⟩ := l2 cz
    obtain ⟨c1, c2⟩ := closed_str ok.nd ok.good hr t.f.v.slt f1 f2
    have sub : ∀ z ∈ qs.map lit, z ∈ (leadT (sg ++ hp).length ((qs.map lit).map (litN (sg ++ hp))) (initF (sg ++ hp).length (numF (sg ++ hp) rs))).steps.map (litS (sg ++ hp)) := fun z hz => by
      rw [← gback] at hz
      obtain ⟨l, hl, rfl⟩ := List.mem_map.mp hz
      exact List.mem_map_of_mem (e2 l hl)
    refine ⟨fun hn => c2 (hn _ c1 sub), fun ch hc z => ⟨fun hz => ?_, fun hz => ?_⟩⟩
    · obtain ⟨l, hl, rfl⟩ := List.mem_map.mp hz
      have hs := (h2 cz l).mp hl
      obtain ⟨s1, _⟩ := t.sound (closed_num ok.nd ok.good hr hc.cl) fun l hl => by
        refine hc.sub _ ?_
        rw [← gback]
        exact List.mem_map_of_mem (l1 l hl)
      exact s1 l hs
    · have m := hc.min _ c1 sub z hz
      obtain ⟨l, hl, rfl⟩ := List.mem_map.mp m
      exact List.mem_map_of_mem ((h2 cz l).mpr hl)
end K6
namespace K6
open PySem PySem.Spec PyProof.Rows L2 LamX NdefX EV
/-! ### the law's chase -/
theorem putK_seen {z : Str} {so : List Str} (h : z ∈ so) : putK (so.map seenKv) (Sum.inr z) (.bl true) = so.map seenKv := by
  unfold putK
  rw [valV_any, seen_some _ h]
  show (so.map seenKv).map _ = so.map seenKv
  rw [List.map_map]
  refine List.map_congr_left fun y hy => ?_
  show (if (seenKv y).1 = Sum.inr z then ((seenKv y).1, V.bl true) else seenKv y) = seenKv y
  split
  · rfl
  · rfl
theorem merge_seen : ∀ (xs acc : List Str), (acc ++ xs).Nodup → mergeK (acc.map seenKv) (xs.map seenKv) = (acc ++ xs).map seenKv
  | [], acc, _ => by rw [List.append_nil]; rfl
  | x :: xs, acc, nd => by
    have nx : x ∉ acc := fun m => (List.nodup_append.mp nd).2.2 x m x List.mem_cons_self rfl
    have e : mergeK (acc.map seenKv) ((x :: xs).map seenKv) = mergeK (putK (acc.map seenKv) (Sum.inr x) (.bl true)) (xs.map seenKv) := rfl
    rw [e, putK_new (seen_none _ nx), show acc.map seenKv ++ [(Sum.inr x, V.bl true)] = (acc ++ [x]).map seenKv by rw [List.map_append]; rfl, merge_seen xs (acc ++ [x]) (by rw [List.append_assoc]; exact nd), List.append_assoc]
    rfl
def FineR (so r : List Str) : Prop := leftOf so r ≠ [] ∧ ∀ z, leftOf so r = [z] → z ∈ so
/-- what stands while one chases -/
structure ChaseJ (ns : List Str) (rs : List (List Str)) (half so : List Str) : Prop where
  nd : so.Nodup
  lt : ∀ z ∈ so, z ∈ lits ns
  sub : ∀ z ∈ half, z ∈ so
  min : ∀ S : Str → Prop, SClosed rs S → (∀ z ∈ half, S z) → ∀ z ∈ so, S z
theorem left_mem {so r : List Str} {z : Str} (h : z ∈ r) (n : oth z ∉ so) : z ∈ leftOf so r := List.mem_filter.mpr ⟨h, decide_eq_true n⟩
theorem ChaseJ.dead {ns : List Str} {rs : List (List Str)} {half so r : List Str} (j : ChaseJ ns rs half so) (hr : r ∈ rs) (h : leftOf so r = []) : ChaseN rs half := fun S c hs => ⟨r, hr, fun y hy => by
  by_cases m : oth y ∈ so
  · exact j.min S c hs _ m
  · have := left_mem hy m
    rw [h] at this
    cases this⟩
theorem ChaseJ.more {ns : List Str} {rs : List (List Str)} {half so r : List Str} {z : Str} (j : ChaseJ ns rs half so) (hr : r ∈ rs) (hl : ∀ z ∈ r, z ∈ lits ns) (h : leftOf so r = [z]) (n : z ∉ so) : ChaseJ ns rs half (so ++ [z]) := by
  have hz : z ∈ r := (List.mem_filter.mp (show z ∈ leftOf so r by rw [h]; exact List.mem_cons_self)).1
  refine ⟨List.nodup_append.mpr ⟨j.nd, by simp, fun a ha b hb e => n (by rw [List.mem_singleton.mp hb] at e; exact e ▸ ha)⟩, fun y hy => ?_, fun y hy => List.mem_append_left _ (j.sub y hy), fun S c hs y hy => ?_⟩
  · rcases List.mem_append.mp hy with hy | hy
    · exact j.lt y hy
    · rw [List.mem_singleton.mp hy]; exact hl z hz
  · rcases List.mem_append.mp hy with hy | hy
    · exact j.min S c hs y hy
    · rw [List.mem_singleton.mp hy]
      refine c r hr z hz fun x hx ne => ?_
      by_cases m : oth x ∈ so
      · exact j.min S c hs _ m
      · have := left_mem hx m
        rw [h] at this
        exact absurd (List.mem_singleton.mp this) ne
theorem all_one {l : List Str} {z : Str} (nd : l.Nodup) (ne : l ≠ []) (h : ∀ y ∈ l, y = z) : l = [z] := by
  match l, nd, ne, h with
  | [a], _, _, h => rw [h a List.mem_cons_self]
  | a :: b :: r, nd, _, h =>
    have := (List.nodup_cons.mp nd).1
    rw [h a List.mem_cons_self, h b (List.mem_cons_of_mem _ List.mem_cons_self)] at this
    exact absurd List.mem_cons_self this
theorem ChaseJ.done {ns : List Str} {rs : List (List Str)} {half so : List Str} (j : ChaseJ ns rs half so) (nd : ∀ r ∈ rs, r.Nodup) (f : ∀ r ∈ rs, FineR so r) : ChaseT rs half so := by
  refine ⟨fun r hr z hz h => ?_, fun ⟨r, hr, h⟩ => ?_, j.sub, j.min⟩
  · obtain ⟨f1, f2⟩ := f r hr
    refine f2 z (all_one ((nd r hr).filter _) f1 fun y hy => ?_)
    obtain ⟨a, b⟩ := List.mem_filter.mp hy
    by_cases e : y = z
    · exact e
    · exact absurd (h y a e) (of_decide_eq_true b)
  · obtain ⟨f1, f2⟩ := f r hr
    refine f1 (List.filter_eq_nil_iff.mpr fun y hy hd => ?_)
    exact (of_decide_eq_true hd) (h y hy)
def spChase (K : PySem.W.Frag) : Sp := fun vs H Q _ => ∃ (CL A : Addr) (ts : List Addr) (sg hp : List Str) (rs : List (List Str)) (qs : List (Bool × Str)), vs = [.ref CL, .ref A] ∧ H CL = some (.lst (ts.map V.ref)) ∧ RowsAt H ts rs ∧ OkC sg hp rs ∧ H A = some (.lst ((qs.map lit).map V.str)) ∧ Lits (sg ++ hp) qs ∧
  (ChaseN rs (qs.map lit) → ∀ H', Same H H' → Q .non H') ∧ ∀ so p H', ChaseT rs (qs.map lit) so → (∀ z ∈ so, z ∈ lits (sg ++ hp)) → so.length ≤ 120 → Same H H' → H p = none → H' p = some (.lst (so.map V.str)) → Q (.ref p) H'
section
variable {P : Program} {w : World} {K : PySem.W.Frag} {mg : Str → Option Value} {base : Heap} {f fN : Addr} {fd fdN : FuncData}
abbrev nChase : List Str := ["_law_clauses", "_law_half_here", "_law_so", "_law_many", "_law_clause_here", "_law_left", "_law_one"]
theorem scChase : FnScope nChase ["_law_clauses", "_law_half_here"] (defScope sChase) := ⟨rfl, rfl, rfl, by decide +kernel, rfl, by decide +kernel, by decide +kernel⟩
theorem ok_chase (F : Fun K "_law_chase" "_law_chase" sChase f fd) (GN : FnOk P w K mg base CX0 1 fN fdN ["_law_one"] spOpp) (mN : mg "_law_neg" = some (.ref fN)) (kN : PySem.W.keepIn K (.ref fN) = true) (bN : L2.Binds K fdN ["_law_one"] [])
    (ml : mg "list" = none) (md : mg "dict" = none) (mlen : mg "len" = none) :
    FnOk P w K mg base CX0 2 f fd ["_law_clauses", "_law_half_here"] (spChase K) := by
  refine F.ok scChase (fun vs H Q E h => ?_) (fun cdv A' outer s H vs Q E hr h => ?_)
  · obtain ⟨CL, A, ts, sg, hp, rs, qs, rfl, _⟩ := h
    rfl
  · obtain ⟨CL, A, ts, sg, hp, rs, qs, rfl, hCL, hts, ok, hA, hq, kN', kT⟩ := h
    have hu := hu_of hr
    refine ⟨_, pss_cons (ps_asg (pe_tup (pa_cons (pe_callTy (call_dictP rfl) (by rfl) md (by decide +kernel) (pa_cons (pe_lc (own := [("_law_one", 6)]) (g := gName 6) (tt := tYes) rfl scChase.nd (pi_list (pv 1)) (blkOk_by (N := nChase) (sc := defScope sChase) (by decide +kernel))
          (fun _ _ _ _ _ => pg_name (i := 6) scChase.nd rfl (.inl rfl)) (fun _ _ _ _ _ => pts_nil) (fun _ _ _ _ _ => pe_tup (pa_cons (pv 6) (pa_cons pe_bl pa_nil)))) pa_nil)) (pa_cons (pe_un un_neg pe_int) pa_nil)))
        (pg_tup rfl (pgs_cons (pg_name (i := 2) scChase.nd rfl (.inr rfl)) (pgs_cons (pg_name (i := 3) scChase.nd rfl (.inl rfl)) pgs_nil))))
      (pss_cons (ps_while PassesOwn.never (pt_cmpR op_lt (pv 3) (pe_callB call_lenD (by rfl) mlen PySem.boot_len (pa_cons (pv 2) pa_nil)) (nomark _))
        (pss_cons (ps_set (i := 3) scChase.nd rfl (.inl rfl) (pe_callB call_lenD (by rfl) mlen PySem.boot_len (pa_cons (pv 2) pa_nil)))
        (pss_one (ps_for PassesOwn.never rfl (pi_list (pv 0)) (pg_name (i := 4) scChase.nd rfl (.inl rfl))
          (pss_cons (ps_setLc (i := 5) (own := [("_law_one", 6)]) (g := gName 6) (by rfl) scChase.nd rfl rfl (sw_true rfl rfl rfl (by decide +kernel)) (pi_seq (pv 4)) (blkOk_by (N := nChase) (sc := defScope sChase) (by decide +kernel)) (fun _ _ _ _ _ => pg_name (i := 6) scChase.nd rfl (.inl rfl))
              (fun _ _ _ _ _ => pts_one (pt_cmp (pc_dnotin hu (pe_call GN hr (by rfl) mN kN bN .nil pass0 (pa_cons (pv 6) pa_nil)) (pv 2)))) (fun _ _ _ _ _ => pv 6))
          (pss_cons (ps_if (pt_cmpR (op_eqD hr.units) (pv 5) (pe_lst pa_nil) (nomark _)) (pss_one (ps_ret pe_non)) pss_nil)
          (pss_one (ps_if (pt_cmpR op_eq (pe_callB call_len (by rfl) mlen PySem.boot_len (pa_cons (pv 5) pa_nil)) pe_int (nomark _)) (pss_one (ps_dput hu (pv 2) (pe_ix ix_list (pv 5) pe_int (fun _ _ => rfl)) pe_bl rfl)) pss_nil))))))))
      (pss_one (ps_ret (pe_callTy (call_list_dK rfl) (by rfl) ml (by decide +kernel) (pa_cons (pv 2) pa_nil))))), ?_⟩
    have sb := size_big
    have n60 := ok.n60
    have few := ok.few
    have lq := hq.few
    have hrl : ∀ r ∈ rs, ∀ z ∈ r, z ∈ lits (sg ++ hp) := fun r hr z hz => by
      obtain ⟨ps, hps, e⟩ := (ok.row r hr).lits ok.nd ok.good
      rw [e] at hz
      obtain ⟨q, hq', rfl⟩ := List.mem_map.mp hz
      exact lit_mem (hps.sub q hq')
    have ndr : ∀ r ∈ rs, r.Nodup := fun r hr => by
      obtain ⟨ps, hps, e⟩ := (ok.row r hr).lits ok.nd ok.good
      rw [e]
      exact lits_nd (fun q h => ok.good _ (hps.sub q h)) hps.nd
    have ndh := lits_nd (fun q h => ok.good _ (hq.sub q h)) hq.nd
    have lts := Paired.length hts
    have few2 : ∀ {so : List Str}, ChaseJ (sg ++ hp) rs (qs.map lit) so → so.length ≤ 120 := fun {so} j => by
      have z := nodup_le so (lits (sg ++ hp)) j.nd j.lt
      rw [lits_len] at z
      omega
    refine ⟨_, rfl, A, rfl, ⟨_, SqL.of hA⟩, fun L hL => lc_list (K := K) (a := A) (xs := (qs.map lit).map V.str) (fun i H2 => Same H H2 ∧ ∃ ps : List Addr, H2 L = some (.lst (ps.map V.ref)) ∧ Paired (fun p z => p ≠ L ∧ H2 p = some (.tup [.str z, .bl true])) ps ((qs.map lit).take i)) ⟨same_new hL, [], upd_same, .nil⟩ (fun i H2 _ h => SqL.of (h.1 _ _ hA)) ?_ ?_⟩
    · rintro i v H2 hv ⟨sm2, ps, hL2, pp⟩
      obtain ⟨z, hz, rfl⟩ := get_map hv
      have ilt := (List.getElem?_eq_some_iff.mp hz).1
      rw [List.length_map] at ilt
      have lps : ps.length = i := by rw [Paired.length pp, List.length_take, List.length_map]; omega
      refine ⟨rfl, _, rfl, by show 2 ≤ sizeLine; decide, fun t ht => ?_⟩
      have s3 := same_new (o := .tup [.str z, .bl true]) ht
      have hL3 := s3 _ _ hL2
      have tL : t ≠ L := fun e => by rw [e, hL2] at ht; cases ht
      have ht3 : upd H2 t (.tup [.str z, .bl true]) t = some (.tup [.str z, .bl true]) := upd_same
      have sm3 := sm2.trans s3
      generalize upd H2 t (.tup [.str z, .bl true]) = H3 at *
      refine ⟨_, hL3, by rw [List.length_map, lps]; omega, fun b u e => (upd_ne (ne_of_none e hL)).trans (sm3 b u e), ps ++ [t], ?_, ?_⟩
      · rw [List.map_append]
        exact upd_same
      · rw [List.take_succ, hz]
        exact paired_app (Paired.mapP pp fun p y h => ⟨h.1, (upd_ne h.1).trans (s3 _ _ h.2)⟩) (.cons ⟨tL, (upd_ne tL).trans ht3⟩ .nil)
    rintro H2 ⟨sm2, ps, hL2, pp⟩
    rw [List.length_map, List.take_length] at pp
    have kvp : Paired (fun p (kv : Key × V) => SqT K H2 p [kV kv.1, kv.2]) ps ((qs.map lit).map seenKv) := by
      have go : ∀ {ps : List Addr} {zs : List Str}, Paired (fun p z => p ≠ L ∧ H2 p = some (.tup [.str z, .bl true])) ps zs → Paired (fun p (kv : Key × V) => SqT K H2 p [kV kv.1, kv.2]) ps (zs.map seenKv) := fun {ps zs} h => by
        induction h with
        | nil => exact .nil
        | cons a _ ih => exact .cons (SqT.of a.2) ih
      exact go pp
    refine ⟨L, ps, (qs.map lit).map seenKv, rfl, SqL.of hL2, kvp, fun D hD => ?_⟩
    rw [show mergeK [] ((qs.map lit).map seenKv) = (qs.map lit).map seenKv from merge_seen _ [] ndh]
    have s3 := same_new (o := .dK ((qs.map lit).map seenKv)) hD
    have hD3 : upd H2 D (.dK ((qs.map lit).map seenKv)) D = some (.dK ((qs.map lit).map seenKv)) := upd_same
    have sm3 := sm2.trans s3
    have DH : H D = none := sm2.free hD
    generalize upd H2 D (.dK ((qs.map lit).map seenKv)) = H3 at *
    refine ⟨_, rfl, by show 2 ≤ sizeLine; decide, fun t0 ht0 => ⟨t0, _, rfl, SqT.of upd_same, rfl, _, _, rfl, _, _, rfl, rfl, ?_⟩⟩
    have s4 := same_new (o := .tup [.ref D, .int (-1)]) ht0
    have hD4 := s4 _ _ hD3
    have sm4 := sm3.trans s4
    have J0 : ChaseJ (sg ++ hp) rs (qs.map lit) (qs.map lit) := ⟨ndh, fun z hz => by
      obtain ⟨q, hq', rfl⟩ := List.mem_map.mp hz
      exact lit_mem (hq.sub q hq'), fun z h => h, fun S _ h => h⟩
    refine ⟨fun m σ H1 => ∃ (so : List Str) (many : Int) (o4 o5 : Option V), σ = [some (.ref CL), some (.ref A), some (.ref D), some (.int many), o4, o5, none] ∧ Same H H1 ∧ H1 D = some (.dK (so.map seenKv)) ∧ ChaseJ (sg ++ hp) rs (qs.map lit) so ∧ (many = -1 ∨ ∃ k : Nat, many = (k : Int) ∧ k ≤ so.length ∧ (k = so.length → ∀ r ∈ rs, FineR so r)) ∧ m = (130 - (many + 1)).toNat,
      ⟨_, _, _, _, _, rfl, sm4, hD4, J0, .inl rfl, rfl⟩, ?_⟩
    rintro m σ H1 ⟨so, many, o4, o5, rfl, sm1, hD1, J, hm, rfl⟩
    have lso := few2 J
    refine ⟨_, rfl, _, rfl, D, _, rfl, hD1, _, _, rfl, rfl, _, rfl, ?_⟩
    rw [List.length_map]
    by_cases c : many < (so.length : Nat)
    · rw [decide_eq_true c]
      refine iteT ⟨fun σ' H' => ∃ (so' : List Str) (o4 o5 : Option V), σ' = [some (.ref CL), some (.ref A), some (.ref D), some (.int (so.length : Nat)), o4, o5, none] ∧ Same H H' ∧ H' D = some (.dK (so'.map seenKv)) ∧ ChaseJ (sg ++ hp) rs (qs.map lit) so' ∧ so.length ≤ so'.length ∧ (so.length = so'.length → ∀ r ∈ rs, FineR so' r), ?_, ?_⟩
      · rintro σ' H' ⟨so', p4, p5, rfl, smp, hDp, Jp, le, fine⟩
        refine ⟨_, ?_, so', _, p4, p5, rfl, smp, hDp, Jp, .inr ⟨so.length, rfl, le, fine⟩, rfl⟩
        rcases hm with hm | ⟨k, hm, _⟩ <;> omega
      refine ⟨_, rfl, D, _, rfl, hD1, ?_⟩
      rw [List.length_map]
      have hCL1 := sm1 _ _ hCL
      refine ⟨_, rfl, CL, rfl, ⟨_, SqL.of hCL1⟩, for_list (K := K) (a := CL) (xs := ts.map V.ref) (fun i σ H2 => ∃ (so2 : List Str) (o4 o5 : Option V), σ = [some (.ref CL), some (.ref A), some (.ref D), some (.int (so.length : Nat)), o4, o5, none] ∧ Same H H2 ∧ H2 D = some (.dK (so2.map seenKv)) ∧ ChaseJ (sg ++ hp) rs (qs.map lit) so2 ∧ so.length ≤ so2.length ∧ (so.length = so2.length → ∀ r ∈ rs.take i, FineR so2 r))
        ⟨so, _, _, rfl, sm1, hD1, J, Nat.le_refl _, fun _ r h => nomatch h⟩ (fun i σ H2 _ ⟨_, _, _, _, sm, _⟩ => SqL.of (sm _ _ hCL)) ?_ ?_⟩
      · rintro i v σ H2 hv ⟨so2, p4, p5, rfl, sm2', hD2, J2, le2, fine2⟩
        obtain ⟨tk, htk, rfl⟩ := get_map hv
        have hts2 : RowsAt H2 ts rs := Paired.mapP hts fun t r z => sm2' _ _ z
        obtain ⟨rk, hrk, htup⟩ := hts2.get i tk htk
        have rkm := List.mem_of_getElem? hrk
        have rkrow := ok.row rk rkm
        have lso2 := few2 J2
        have rk120 : rk.length ≤ 120 := by
          have z := nodup_le rk (lits (sg ++ hp)) (ndr rk rkm) (hrl rk rkm)
          rw [lits_len] at z
          omega
        have et : rs.take (i + 1) = rs.take i ++ [rk] := by rw [List.take_succ, hrk]; rfl
        refine ⟨_, rfl, false, tk, _, rfl, Sq.tup htup, fun D2 hD2' => lc_it walk_sq (fun j H9 => Same H2 H9 ∧ H9 D2 = some (.lst ((leftOf so2 (rk.take j)).map V.str))) ⟨same_new hD2', upd_same⟩ (fun j H9 _ hh => Sq.tup (hh.1 _ _ htup)) ?_ ?_⟩
        · rintro j y H9 H10 hj ⟨sm9, hD9⟩ ⟨rfl, hy9⟩
          obtain ⟨z, hz, rfl⟩ := get_map hy9
          obtain ⟨q, rfl, gq⟩ := row_lit ok.good rkrow (List.mem_of_getElem? hz)
          have lst := leftOf_step (so := so2) hz
          rw [oth_lit gq] at lst
          have gd := DGet.k (k := Sum.inr (lit (opp q))) (sm9 _ _ hD2)
          refine ⟨rfl, _, rfl, q, rfl, gq, _, rfl, D, _, rfl, gd, _, rfl, ?_⟩
          by_cases mq : lit (opp q) ∈ so2
          · rw [seen_some _ mq]
            refine iteF ⟨sm9, ?_⟩
            rw [hD9, lst, if_neg (fun h => h mq), List.append_nil]
          · rw [seen_none _ mq]
            refine iteT ⟨_, rfl, _, hD9, ?_, fun c o h => (upd_ne (ne_of_none h hD2')).trans (sm9 c o h), ?_⟩
            · have z1 := @leftOf_len so2 (rk.take j)
              have z2 := List.length_take_le' j rk
              rw [List.length_map]
              omega
            · rw [upd_same, lst, if_pos mq, List.map_append]
              rfl
        rintro H9 ⟨sm9, hD9⟩
        rw [List.length_map, List.take_length] at hD9
        have sm09 := sm2'.trans sm9
        have hDD := sm9 _ _ hD2
        have fitL : ∀ z ∈ leftOf so2 rk, Fit z := fun z hz => by
          obtain ⟨q, rfl, gq⟩ := row_lit ok.good rkrow (List.mem_filter.mp hz).1
          exact gq.fit.lit
        refine ⟨_, rfl, Nat.zero_le _, fun l hl => ⟨_, _, .lst (SqL.of ((same_new hl) _ _ hD9)) (dp_strs _), .lst (SqL.of upd_same) .nil, shaped_strs _ fitL, by decide, _, rfl, ?_⟩⟩
        rw [eqv_nilS]
        have sl := same_new (o := .lst []) hl
        have sm11 := sm09.trans sl
        by_cases hl1 : leftOf so2 rk = []
        · rw [decide_eq_true hl1]
          exact iteT (kN' (J2.dead rkm hl1) _ sm11)
        · rw [decide_eq_false hl1]
          have hD11 := sl _ _ hD9
          have hDD11 := sl _ _ hDD
          refine iteF ⟨_, rfl, _, _, rfl, .inl ⟨_, SqL.of hD11, rfl⟩, rfl, _, rfl, ?_⟩
          rw [List.length_map]
          by_cases hl2 : (leftOf so2 rk).length = 1
          · rw [decide_eq_true (by rw [hl2]; rfl)]
            obtain ⟨z, hz⟩ : ∃ z, leftOf so2 rk = [z] := by
              match leftOf so2 rk, hl2 with
              | [z], _ => exact ⟨z, rfl⟩
            refine iteT ⟨_, rfl, _, rfl, D2, _, 0, .str z, rfl, rfl, SqL.of hD11, by rw [hz]; rfl, D, _, rfl, DPut.k (k := Sum.inr z) hDD11 (by rw [List.length_map]; omega), ?_⟩
            by_cases mz : z ∈ so2
            · refine ⟨so2, _, _, rfl, fun c o e => (upd_ne (ne_of_none e DH)).trans (sm11 c o e), ?_, J2, le2, fun e r hr' => ?_⟩
              · rw [upd_same, putK_seen mz]
              · rw [et] at hr'
                rcases List.mem_append.mp hr' with hr' | hr'
                · exact fine2 e r hr'
                · rw [List.mem_singleton.mp hr']
                  exact ⟨hl1, fun y hy => by rw [hz] at hy; injection hy with hy; rw [← hy]; exact mz⟩
            · refine ⟨so2 ++ [z], _, _, rfl, fun c o e => (upd_ne (ne_of_none e DH)).trans (sm11 c o e), ?_, J2.more rkm (hrl rk rkm) hz mz, by rw [List.length_append]; omega, fun e => ?_⟩
              · rw [upd_same, putK_new (seen_none _ mz), List.map_append]
                rfl
              · rw [List.length_append, List.length_singleton] at e
                omega
          · rw [decide_eq_false (fun e => hl2 (by injection e with e; omega))]
            refine iteF ⟨so2, _, _, rfl, sm11, hDD11, J2, le2, fun e r hr' => ?_⟩
            rw [et] at hr'
            rcases List.mem_append.mp hr' with hr' | hr'
            · exact fine2 e r hr'
            · rw [List.mem_singleton.mp hr']
              exact ⟨hl1, fun y hy => absurd (by rw [hy]; rfl) hl2⟩
      · rintro σ H2 ⟨so2, p4, p5, rfl, sm2', hD2, J2, le2, fine2⟩
        rw [List.length_map, lts, List.take_length] at fine2
        exact ⟨so2, p4, p5, rfl, sm2', hD2, J2, le2, fine2⟩
    · rw [decide_eq_false c]
      refine iteF ⟨_, rfl, D, _, rfl, hD1, fun p hp => ?_⟩
      rcases hm with hm | ⟨k, hm, k1, k2⟩
      · omega
      · have z := kT so p (upd H1 p (.lst ((so.map seenKv).map fun kv => kV kv.1))) (J.done ndr (k2 (by omega))) J.lt lso (sm1.trans (same_new hp)) (sm1.free hp) (by rw [upd_same, List.map_map]; rfl)
        exact z
end
end K6
namespace K6
open PySem PySem.Spec PyProof.Rows L2 LamX NdefX EV
/-! ### how pairs end, by the law -/
theorem atI_lastR {vi : List V} {x : V} : atI (vi ++ [x]) (-1) = some x := by
  unfold atI ixN
  rw [if_neg (by decide), List.length_append, List.length_singleton, if_pos (by omega)]
  show (vi ++ [x])[(-1 + ((vi.length + 1 : Nat) : Int)).toNat]? = some x
  rw [show (-1 + ((vi.length + 1 : Nat) : Int)).toNat = vi.length by omega, List.getElem?_append_right (Nat.le_refl _)]
  simp
abbrev PrAt (H : Hp) : List Addr → List (Nat × Option Str) → Prop := Paired (fun t q => H t = some (.tup [.int (q.1 : Nat), lV q.2]))
def spEnds (K : PySem.W.Frag) : Sp := fun vs H Q _ => ∃ (CL A PL : Addr) (ts us : List Addr) (sg hp : List Str) (rs : List (List Str)) (qs : List (Bool × Str)) (ps : List (Nat × Option Str)) (so : List Str) (b : Bool), vs = [.ref CL, .ref A, .ref PL] ∧ H CL = some (.lst (ts.map V.ref)) ∧ RowsAt H ts rs ∧ OkC sg hp rs ∧ H A = some (.lst ((qs.map lit).map V.str)) ∧ Lits (sg ++ hp) qs ∧
  H PL = some (.lst (us.map V.ref)) ∧ PrAt H us ps ∧ RightS rs (qs.map lit) ps so b ∧ ps.length ≤ 500 ∧
  (b = true → ∀ H', Same H H' → Q (.str "dead") H') ∧ (b = false → ∀ p H', Same H H' → H p = none → H' p = some (.lst (so.map V.str)) → Q (.ref p) H')
section
variable {P : Program} {w : World} {K : PySem.W.Frag} {mg : Str → Option Value} {base : Heap} {f fN : Addr} {fd fdN : FuncData}
abbrev nEnds : List Str := ["_law_clauses", "_law_half_here", "_law_pairs", "_law_so", "_law_index", "_law_literal", "_law_left", "_law_one"]
theorem scEnds : FnScope nEnds ["_law_clauses", "_law_half_here", "_law_pairs"] (defScope sEnds) := ⟨rfl, rfl, rfl, by decide +kernel, rfl, by decide +kernel, by decide +kernel⟩
theorem ok_ends (F : Fun K "_law_ends" "_law_ends" sEnds f fd) (GN : FnOk P w K mg base CX0 1 fN fdN ["_law_one"] spOpp) (mN : mg "_law_neg" = some (.ref fN)) (kN : PySem.W.keepIn K (.ref fN) = true) (bN : L2.Binds K fdN ["_law_one"] [])
    (ml : mg "list" = none) :
    FnOk P w K mg base CX0 2 f fd ["_law_clauses", "_law_half_here", "_law_pairs"] (spEnds K) := by
  refine F.ok scEnds (fun vs H Q E h => ?_) (fun cdv A' outer s H vs Q E hr h => ?_)
  · obtain ⟨CL, A, PL, ts, us, sg, hp, rs, qs, ps, so, b, rfl, _⟩ := h
    rfl
  · obtain ⟨CL, A, PL, ts, us, sg, hp, rs, qs, ps, so, b, rfl, hCL, hts, ok, hA, hq, hPL, hus, R, len, kt, kf⟩ := h
    refine ⟨_, pss_cons (ps_set (i := 3) scEnds.nd rfl (.inr rfl) (pe_callTy call_list_of (by rfl) ml (by decide +kernel) (pa_cons (pv 1) pa_nil)))
      (pss_cons (ps_for PassesOwn.never rfl (pi_list (pv 2)) (pg_tup rfl (pgs_cons (pg_name (i := 4) scEnds.nd rfl (.inl rfl)) (pgs_cons (pg_name (i := 5) scEnds.nd rfl (.inl rfl)) pgs_nil)))
        (pss_cons (ps_setLc (i := 6) (own := [("_law_one", 7)]) (g := gName 7) (by rfl) scEnds.nd rfl rfl (sw_true rfl rfl rfl (by decide +kernel)) (pi_seq (pe_ix ix_list (pv 0) (pv 4) (fun _ _ => rfl))) (blkOk_by (N := nEnds) (sc := defScope sEnds) (by decide +kernel)) (fun _ _ _ _ _ => pg_name (i := 7) scEnds.nd rfl (.inl rfl))
            (fun _ _ _ _ _ => pts_one (show PT _ _ (tTest (tOp (rIn K true) _ _)) from pt_cmpR op_notIn_seq (pe_call GN hr (by rfl) mN kN bN .nil pass0 (pa_cons (pv 7) pa_nil)) (pv 3) rfl)) (fun _ _ _ _ _ => pv 7))
        (pss_cons (ps_if (pt_cmpR op_isN (pv 5) pe_non rfl) (pss_one (ps_ret (pe_ifExp (PW.pt (pw_and (pt_cmpR (op_eqD hr.units) (pv 6) (pe_lst pa_nil) (nomark _)) (pw_and1 (pt_cmpR (op_eqD hr.units) (pe_ix ix_list (pv 2) (pe_un un_neg pe_int) (fun _ _ => rfl)) (pe_tup (pa_cons (pv 4) (pa_cons pe_non pa_nil))) (nomark _))))) pe_str pe_non))) pss_nil)
        (pss_cons (ps_if (PW.pt (pw_or (pt_cmpR (op_neD hr.units) (pv 6) (pe_lst (pa_cons (pv 5) pa_nil)) (nomark _)) (pw_or1 (pt_cmpR op_in_seq (pv 5) (pv 3) rfl)))) (pss_one (ps_ret pe_non)) pss_nil)
        (pss_one (ps_expr (pe_bm PySem.F.plainAttrs_list PySem.F.slot_list_append PySem.F.type_list_append mt_append (pv 3) (pa_cons (pv 5) pa_nil))))))))
      (pss_one (ps_ret (pv 3)))), ?_⟩
    have sb := size_big
    have n60 := ok.n60
    have few := hq.few
    have lts := Paired.length hts
    have lus : us.length = ps.length := Paired.length hus
    refine ⟨_, rfl, A, _, rfl, .inl (SqL.of hA), fun D hD => ?_⟩
    have s0 := same_new (o := .lst ((qs.map lit).map V.str)) hD
    have hD0 : upd H D (.lst ((qs.map lit).map V.str)) D = some (.lst ((qs.map lit).map V.str)) := upd_same
    generalize upd H D (.lst ((qs.map lit).map V.str)) = H0 at *
    refine ⟨_, rfl, PL, rfl, ⟨_, SqL.of (s0 _ _ hPL)⟩, for_list (K := K) (a := PL) (xs := us.map V.ref) (fun i σ H2 => ∃ (so2 : List Str) (o4 o5 o6 : Option V), σ = [some (.ref CL), some (.ref A), some (.ref PL), some (.ref D), o4, o5, o6, none] ∧ Same H H2 ∧ H2 D = some (.lst (so2.map V.str)) ∧ so2.length ≤ 60 + i ∧ RightS rs so2 (ps.drop i) so b)
      ⟨_, _, _, _, rfl, s0, hD0, by rw [List.length_map]; omega, R⟩ (fun i σ H2 _ ⟨_, _, _, _, _, sm, _⟩ => SqL.of (sm _ _ hPL)) ?_ ?_⟩
    · rintro i v σ H2 hv ⟨so2, p4, p5, p6, rfl, sm2, hD2, lso, R2⟩
      obtain ⟨t, ht, rfl⟩ := get_map hv
      have hi : i < ps.length := by
        have := (List.getElem?_eq_some_iff.mp ht).1
        omega
      obtain ⟨pr, hpr, htt⟩ := paired_get hus i t ht
      have hpr : ps[i]? = some pr := hpr
      have htt2 := sm2 _ _ htt
      have ed := drop_at hpr
      obtain ⟨hix, hiz⟩ := R2.ix pr (by rw [ed]; exact List.mem_cons_self)
      obtain ⟨ix, zo⟩ := pr
      replace hix : ix < rs.length := hix
      have hts2 : RowsAt H2 ts rs := Paired.mapP hts fun t r z => sm2 _ _ z
      obtain ⟨tk, htk⟩ : ∃ tk, ts[ix]? = some tk := ⟨_, List.getElem?_eq_getElem (by omega)⟩
      obtain ⟨rk, hrk, htup⟩ := hts2.get ix tk htk
      have erk : rs.getD ix [] = rk := by rw [List.getD_eq_getElem?_getD, hrk]; rfl
      have rkm := List.mem_of_getElem? hrk
      have rkrow := ok.row rk rkm
      have rk120 : rk.length ≤ 120 := by
        obtain ⟨qs', _, rfl⟩ := rkrow
        have z1 := asc_len (sg ++ hp) (qs'.map lit)
        omega
      refine ⟨t, _, rfl, SqT.of htt2, rfl, _, _, rfl, _, _, rfl, rfl, ?_⟩
      have hCL2 := sm2 _ _ hCL
      refine ⟨_, rfl, _, rfl, CL, _, _, .ref tk, rfl, rfl, SqL.of hCL2, at_ref htk, false, tk, _, rfl, Sq.tup htup, fun D2 hD2' => lc_it walk_sq (fun j H9 => Same H2 H9 ∧ H9 D2 = some (.lst ((leftOf so2 (rk.take j)).map V.str))) ⟨same_new hD2', upd_same⟩ (fun j H9 _ hh => Sq.tup (hh.1 _ _ htup)) ?_ ?_⟩
      · rintro j y H9 H10 hj ⟨sm9, hD9⟩ ⟨rfl, hy9⟩
        obtain ⟨z, hz, rfl⟩ := get_map hy9
        obtain ⟨q, rfl, gq⟩ := row_lit ok.good rkrow (List.mem_of_getElem? hz)
        have hDD := sm9 _ _ hD2
        have lst := leftOf_step (so := so2) hz
        rw [oth_lit gq] at lst
        refine ⟨rfl, _, rfl, q, rfl, gq, _, rfl, D, _, rfl, .inl (SqL.of hDD), rfl, flat_str so2, _, rfl, ?_⟩
        rw [if_pos rfl, inV_str]
        by_cases mq : lit (opp q) ∈ so2
        · rw [decide_eq_true mq]
          refine iteF ⟨sm9, ?_⟩
          rw [hD9, lst, if_neg (fun h => h mq), List.append_nil]
        · rw [decide_eq_false mq]
          refine iteT ⟨_, rfl, _, hD9, ?_, fun c o h => (upd_ne (ne_of_none h hD2')).trans (sm9 c o h), ?_⟩
          · have z1 := @leftOf_len so2 (rk.take j)
            have z2 := List.length_take_le' j rk
            rw [List.length_map]
            omega
          · rw [upd_same, lst, if_pos mq, List.map_append]
            rfl
      rintro H9 ⟨sm9, hD9⟩
      rw [List.length_map, List.take_length] at hD9
      have sm09 := sm2.trans sm9
      have hDD := sm9 _ _ hD2
      have fitL : ∀ z ∈ leftOf so2 rk, Fit z := fun z hz => by
        obtain ⟨q, rfl, gq⟩ := row_lit ok.good rkrow (List.mem_filter.mp hz).1
        exact gq.fit.lit
      rw [ed] at R2
      refine ⟨_, rfl, rfl, _, rfl, ?_⟩
      cases zo with
      | none =>
        have htt2 : H2 t = some (.tup [.int (ix : Nat), .non]) := htt2
        generalize hrest : ps.drop (i + 1) = rest at R2
        generalize hb : b = bb at R2
        cases R2 with
        | dead h0 hl =>
          rw [erk] at hl
          have il : i + 1 = ps.length := by
            have z := congrArg List.length hrest
            rw [List.length_drop] at z
            have z : ps.length - (i + 1) = 0 := z
            omega
          have eus : us.map V.ref = (us.take i).map V.ref ++ [V.ref t] := by
            have z : us = us.take i ++ [t] := by
              have z1 := drop_at ht
              have z2 : us.drop (i + 1) = [] := List.drop_eq_nil_iff.mpr (by omega)
              rw [z2] at z1
              rw [← z1, List.take_append_drop]
            conv => lhs; rw [z]
            rw [List.map_append]
            rfl
          refine iteT ⟨_, rfl, Nat.zero_le _, fun l hl' => ⟨_, _, .lst (SqL.of ((same_new hl') _ _ hD9)) (dp_strs _), .lst (SqL.of upd_same) .nil, shaped_strs _ fitL, by decide, _, rfl, ?_⟩⟩
          rw [eqv_nilS, decide_eq_true hl]
          have sl := same_new (o := .lst []) hl'
          have sm10 := sm09.trans sl
          refine iteT ⟨_, rfl, 1, rfl, PL, _, -1, .ref t, rfl, rfl, SqL.of (sm10 _ _ hPL), by rw [eus]; exact atI_lastR, _, rfl, by show 2 ≤ sizeLine; decide, fun t9 ht9 => ?_⟩
          have s11 := same_new (o := .tup [.int (ix : Nat), .non]) ht9
          have sm11 := sm10.trans s11
          refine ⟨.tuple [.int (ix : Nat), .none], .tuple [.int (ix : Nat), .none], .tup (SqT.of (s11 _ _ (sl _ _ (sm9 _ _ htt2)))) (.cons (.int _) (.cons .non .nil)), .tup (SqT.of upd_same) (.cons (.int _) (.cons .non .nil)), ?_, ?_, _, rfl, ?_⟩
          · rfl
          · rfl
          · rw [show PyData.eqv (.tuple [.int (ix : Nat), .none]) (.tuple [.int (ix : Nat), .none]) = true by simp [PyData.eqv, PyData.eqvAll]]
            exact iteT (kt hb _ sm11)
      | some z =>
        cases R2 with
        | lit h0 hl hn R3 =>
          rw [erk] at hl
          refine iteF ⟨_, rfl, _, rfl, by show 1 ≤ sizeLine; decide, fun l hl' => ⟨_, _, .lst (SqL.of ((same_new hl') _ _ hD9)) (dp_strs _), .lst (SqL.of upd_same) (.cons (.str z) .nil), shaped_strs _ fitL, shaped_strs [z] (fun y hy => by rw [List.mem_singleton.mp hy]; exact fitL z (by rw [hl]; exact List.mem_cons_self)), _, rfl, ?_⟩⟩
          rw [eqv_left, show (!(match PyData.str z with | .str z => decide (leftOf so2 rk = [z]) | _ => false)) = false from by
            show (!decide (leftOf so2 rk = [z])) = false
            rw [decide_eq_true hl]
            rfl]
          have sl := same_new (o := .lst [.str z]) hl'
          have hDD10 := sl _ _ hDD
          have sm10 := sm09.trans sl
          refine iteF ⟨_, rfl, _, rfl, D, _, rfl, .inl (SqL.of hDD10), rfl, flat_str so2, inV (.str z) (so2.map V.str), rfl, ?_⟩
          rw [inV_str, decide_eq_false hn]
          refine iteF ⟨_, rfl, tyL hDD10, _, rfl, D, _, _, rfl, rfl, hDD10, by rw [List.length_map]; omega, so2 ++ [z], _, _, _, rfl, fun c o e => (upd_ne (ne_of_none e hD)).trans (sm10 c o e), ?_, by rw [List.length_append]; show so2.length + 1 ≤ _; omega, R3⟩
          rw [upd_same, List.map_append]
          rfl
    · rintro σ H2 ⟨so2, p4, p5, p6, rfl, sm2, hD2, lso, R2⟩
      rw [List.length_map, lus, List.drop_length] at R2
      generalize hb : b = bb at R2
      cases R2 with
      | nil => exact ⟨_, rfl, kf hb D H2 sm2 hD hD2⟩
end
end K6
namespace K6
open PySem PySem.Spec PyProof.Rows L2 LamX NdefX EV
/-! ### the law's own body: each beginning of what is told -/
structure LW13 (P : Program) (w : World) (K : PySem.W.Frag) (mg : Str → Option Value) (base : Heap) (C : Addr) : Prop where
  T : CTxt K mg C
  range : mg "range" = none
  isi : mg "isinstance" = none
  all : mg "all" = none
  code : Has P w K mg base 5 "_law_code" ["_law_stream", "_law_signs", "_law_helpers", "_law_many"] spCode
  made : Has P w K mg base 7 "_law_made" ["_law_c"] (spMade K C)
  half : Has P w K mg base 3 "_law_half" ["_law_stream", "_law_names_here"] (spHalf K)
  chase : Has P w K mg base 2 "_law_chase" ["_law_clauses", "_law_half_here"] (spChase K)
  ends : Has P w K mg base 2 "_law_ends" ["_law_clauses", "_law_half_here", "_law_pairs"] (spEnds K)
  up : Has P w K mg base 1 "_law_up" ["_law_some", "_law_names_here"] (spUp K)
  loose : Has P w K mg base 6 "_law_loose" ["_law_stream", "_law_thing"] (spLoose 4)
  are : Has P w K mg base 4 "are_drawings" ["code", "setting", "thing"] (spAre K C)
  draws : Has P w K mg base 8 "drawings" ["code", "setting"] (spDrawings K C)
  same : HasG P w K mg base 1 "_law_same" ["_law_found", "_law_due"] (spSameP K)
abbrev nLaw : List Str := ["_law_script", "_law_stream", "_law_turn", "_law_c", "_law_names_here", "_law_code_here", "_law_k", "_law_half_here", "_law_found", "_law_due", "_law_ends_here", "_law_kept", "_law_size", "_law_pair"]
theorem scLaw : FnScope nLaw ["_law_script"] (defScope sLaw) := ⟨rfl, rfl, rfl, by decide +kernel, rfl, by decide +kernel, by decide +kernel⟩
def turn : List Stmt := forBody ((defBody sLaw).getD 1 (.Pass ⟨0, 0, 0, 0⟩))
def kbody : List Stmt := forBody (turn.getD 2 (.Pass ⟨0, 0, 0, 0⟩))
abbrev XL (P : Program) (w : World) (K : PySem.W.Frag) (mg : Str → Option Value) (base : Heap) (f : Addr) (cdv : Value) (A : Around) (outer : List Env) (s0 : Shared) (HH : Hp) (E : XK) : Cx := (cxOf CX0 P w K mg base nLaw "law" (defScope sLaw) f cdv A outer s0 HH E).nox
/-- what stands ahead of a half-filled setting -/
structure Base0 (K : PySem.W.Frag) (C S L d ps ph pc x r pn : Addr) (sg hp : List Str) (ts : List Addr) (rs : List (List Str)) (c : Nat) (H : Hp) : Prop where
  D : Draw1 sg hp rs
  ca : CAt H d ps ph pc sg hp ts rs
  off : ∀ p ∈ [ps, ph, pc], p ≠ S ∧ p ≠ L
  cr : CodeR K C H x sg hp rs r
  hpn : H pn = some (.lst ((sg ++ hp).map V.str))
  offp : pn ≠ S ∧ pn ≠ L
  st : StreamAt H S L c
theorem Base0.kept {K : PySem.W.Frag} {C S L d ps ph pc x r pn : Addr} {sg hp : List Str} {ts : List Addr} {rs : List (List Str)} {c c' : Nat} {H H' : Hp} (z : Base0 K C S L d ps ph pc x r pn sg hp ts rs c H) (k : Kept S L H H') (s : StreamAt H' S L c') : Base0 K C S L d ps ph pc x r pn sg hp ts rs c' H' :=
  ⟨z.D, z.ca.kept z.off z.st.two k, z.off, z.cr.kept z.st.two k, k _ _ z.hpn z.offp.1 z.offp.2, z.offp, s⟩
theorem Base0.same {K : PySem.W.Frag} {C S L d ps ph pc x r pn : Addr} {sg hp : List Str} {ts : List Addr} {rs : List (List Str)} {c : Nat} {H H' : Hp} (z : Base0 K C S L d ps ph pc x r pn sg hp ts rs c H) (k : Same H H') : Base0 K C S L d ps ph pc x r pn sg hp ts rs c H' :=
  z.kept (fun b o e _ _ => k b o e) (z.st.same k)
theorem kd_prs {N : Addr → Prop} {H : Hp} : ∀ {us : List Addr} {ps : List (Nat × Option Str)}, PrAt H us ps → (∀ t ∈ us, N t) → KDA N H (us.map V.ref) (ps.map dS)
  | _, _, .nil, _ => .nil
  | _, _, .cons (a := t) (b := p) h r, n => .cons (.tup h (n t List.mem_cons_self) (.cons (.int _) (.cons (by
      obtain ⟨i, z⟩ := p
      cases z
      · exact .non
      · exact .str _) .nil))) (kd_prs r fun u hu => n u (List.mem_cons_of_mem _ hu))
theorem paired_tk {α β : Type} {R : α → β → Prop} : ∀ {xs : List α} {ys : List β} (n : Nat), Paired R xs ys → Paired R (xs.take n) (ys.take n)
  | _, _, 0, _ => .nil
  | _, _, _ + 1, .nil => .nil
  | _, _, n + 1, .cons r t => .cons r (paired_tk n t)
theorem pr_off {H : Hp} {S L : Addr} {c : Nat} (hS : StreamAt H S L c) {us : List Addr} {ps : List (Nat × Option Str)} (h : PrAt H us ps) : ∀ t ∈ us, t ≠ S ∧ t ≠ L := fun t ht => by
  obtain ⟨⟨_, g1⟩, ⟨_, g2⟩⟩ := hS.two
  obtain ⟨i, hi, e⟩ := List.getElem_of_mem ht
  obtain ⟨p, _, hp⟩ := paired_get h i t (by rw [List.getElem?_eq_getElem hi, e])
  exact ⟨ne_of hp g1 (fun z => nomatch z), ne_of hp g2 (fun z => nomatch z)⟩
theorem pr_kept {H H' : Hp} {S L : Addr} {c : Nat} (hS : StreamAt H S L c) {us : List Addr} {ps : List (Nat × Option Str)} (h : PrAt H us ps) (k : Kept S L H H') : PrAt H' us ps := by
  obtain ⟨⟨_, g1⟩, ⟨_, g2⟩⟩ := hS.two
  exact Paired.mapP h fun t p z => k _ _ z (ne_of z g1 (fun z => nomatch z)) (ne_of z g2 (fun z => nomatch z))
theorem RightS.pair {rs : List (List Str)} {so so' : List Str} {ps : List (Nat × Option Str)} {b : Bool} (h : RightS rs so ps so' b) {ns : List Str} (fit : ∀ z ∈ ns, Fit z) (few : rs.length ≤ 500) (hr : ∀ r ∈ rs, ∀ z ∈ r, z ∈ lits ns) : ∀ d ∈ ps.map dS, PairD d := fun d hd => by
  obtain ⟨p, hp, rfl⟩ := List.mem_map.mp hd
  obtain ⟨h1, h2⟩ := h.ix p hp
  exact ⟨p.1, p.2, rfl, fun z e => lits_fit fit z (hr _ (getD_mem h1) z (h2 z e)), by omega⟩
theorem OkC.inLits {sg hp : List Str} {rs : List (List Str)} (ok : OkC sg hp rs) : ∀ r ∈ rs, ∀ z ∈ r, z ∈ lits (sg ++ hp) := fun r hr z hz => by
  obtain ⟨ps, hps, e⟩ := (ok.row r hr).lits ok.nd ok.good
  rw [e] at hz
  obtain ⟨q, hq', rfl⟩ := List.mem_map.mp hz
  exact lit_mem (hps.sub q hq')
theorem small_bool : ∀ b : Bool, Small (.bool b) 100
  | true => ⟨by decide +kernel, by decide +kernel, by decide +kernel, by decide +kernel⟩
  | false => ⟨by decide +kernel, by decide +kernel, by decide +kernel, by decide +kernel⟩
section
variable {P : Program} {w : World} {K : PySem.W.Frag} {mg : Str → Option Value} {base : Heap} {C : Addr}
variable {f : Addr} {cdv : Value} {A : Around} {outer : List Env} {s0 : Shared} {HH : Hp} {E : XK}
theorem seg_sizes (T : LW13 P w K mg base C) (hg : (XL P w K mg base f cdv A outer s0 HH E).A.guards = some []) (hr : Room 9 (XL P w K mg base f cdv A outer s0 HH E).A) :
    ∃ tt, PS (XL P w K mg base f cdv A outer s0 HH E) (kbody.getD 10 (.Pass ⟨0, 0, 0, 0⟩)) tt ∧ ∀ (D : Ends) (S L d ps ph pc x r pn hf KP : Addr) (sg hp : List Str) (ts us : List Addr) (rs : List (List Str)) (qs : List (Bool × Str)) (pr : List (Nat × Option Str)) (so : List Str) (b : Bool) (c : Nat) (o0 o2 o6 o8 o9 o10 o12 o13 : Option V) (H : Hp),
      Base0 K C S L d ps ph pc x r pn sg hp ts rs c H → H hf = some (.lst ((qs.map lit).map V.str)) → hf ≠ S ∧ hf ≠ L → Lits (sg ++ hp) qs → H KP = some (.lst (us.map V.ref)) → KP ≠ S ∧ KP ≠ L → PrAt H us pr → RightS rs (qs.map lit) pr so b → pr.length ≤ 9 → c ≤ 80000 →
      (∀ (o12 : Option V) (c' : Nat) (H' : Hp), Base0 K C S L d ps ph pc x r pn sg hp ts rs c' H' → c' ≤ c + 370 → Kept S L H H' → D.nx [o0, some (.ref S), o2, some (.ref d), some (.ref pn), some (.ref x), o6, some (.ref hf), o8, o9, o10, some (.ref KP), o12, o13] H') →
      tt D [o0, some (.ref S), o2, some (.ref d), some (.ref pn), some (.ref x), o6, some (.ref hf), o8, o9, o10, some (.ref KP), o12, o13] H := by
  have hu := hu_of hr
  have hr4 : Room 4 _ := hr.mono (by decide)
  have hr6 : Room 6 _ := hr.mono (by decide)
  have hr1 : Room 1 _ := hr.mono (by decide)
  refine ⟨_, ps_for PassesOwn.never rfl (pi_range1 (by rfl) T.range (pa_cons (pe_op op_add (pe_callB call_len (by rfl) T.T.len PySem.boot_len (pa_cons (pv 11) pa_nil)) pe_int) pa_nil)) (pg_name (i := 12) scLaw.nd rfl (.inl rfl))
    (pss_one (ps_if (pt_not (pt_val (pe_callHG T.same hg hr1 (by rfl) (pa_cons (pe_callH T.are hr4 (by rfl) (pa_cons (pv 5) (pa_cons (pv 7) (pa_cons (pe_callH T.loose hr6 (by rfl) (pa_cons (pv 1) (pa_cons (pe_slice sl_list (pv 11) po_none (po_some (pv 12))) pa_nil))) pa_nil)))) (pa_cons pe_bl pa_nil))))) (pss_one (ps_ret pe_bl)) pss_nil)), ?_⟩
  intro D S L d ps ph pc x r pn hf KP sg hp ts us rs qs pr so b c o0 o2 o6 o8 o9 o10 o12 o13 H z hhf offf hq hKP offk hpr R l9 hc k
  have ok := z.D.okC
  have r7 := z.D.r7
  have lus : us.length = pr.length := Paired.length hpr
  have pds := R.pair (fun n hn => (ok.good n hn).fit) (by omega) ok.inLits
  refine ⟨_, rfl, .ref KP, us.length, rfl, .inl ⟨_, SqL.of hKP, by rw [List.length_map]⟩, _, _, rfl, rfl, _, rfl, by omega, by omega, for_range (lo := 0) (n := us.length + 1) (fun i σ' H2 => ∃ (o12 : Option V) (c2 : Nat), σ' = [o0, some (.ref S), o2, some (.ref d), some (.ref pn), some (.ref x), o6, some (.ref hf), o8, o9, o10, some (.ref KP), o12, o13] ∧ Base0 K C S L d ps ph pc x r pn sg hp ts rs c2 H2 ∧ c2 ≤ c + 37 * i ∧ Kept S L H H2)
    ⟨_, c, rfl, z, by omega, Kept.refl _⟩ ?_ ?_⟩
  · rintro i σ' H2 hi ⟨o12, c2, rfl, z2, hc2, hk2⟩
    have hKP2 := hk2 _ _ hKP offk.1 offk.2
    have hpr2 := pr_kept z.st hpr hk2
    refine ⟨_, rfl, _, rfl, _, rfl, _, rfl, ?_⟩
    refine ⟨_, rfl, _, rfl, KP, _, rfl, SqL.of hKP2, fun l hl => ?_⟩
    rw [show cutV (us.map V.ref) none (some ((0 : Int) + (i : Nat))) = (us.map V.ref).take i by rw [Int.zero_add]; exact cutV_take _ _]
    have sl := same_new (o := .lst ((us.map V.ref).take i)) hl
    have z3 := z2.same sl
    have offl := z2.st.off hl
    have hpr3 : PrAt (upd H2 l (.lst ((us.map V.ref).take i))) us pr := Paired.mapP hpr2 fun t p e => sl _ _ e
    have lnw : upd H2 l (.lst ((us.map V.ref).take i)) l = some (.lst ((us.take i).map V.ref)) := by rw [upd_same, List.map_take]
    have hhf3 := sl _ _ (hk2 _ _ hhf offf.1 offf.2)
    generalize upd H2 l (.lst ((us.map V.ref).take i)) = H3 at *
    have tk : PrAt H3 (us.take i) (pr.take i) := paired_tk i hpr3
    have gd : ∀ e ∈ (pr.take i).map dS, GoodD e := fun e he => (pds e (by
      obtain ⟨p, hp, rfl⟩ := List.mem_map.mp he
      exact List.mem_map_of_mem (List.mem_of_mem_take hp))).good
    have kda : KDA (fun b => b ≠ S ∧ b ≠ L) H3 ((us.take i).map V.ref) ((pr.take i).map dS) := kd_prs tk (pr_off z3.st tk)
    have kd : KD (fun b => b ≠ S ∧ b ≠ L) H3 (.ref l) (.list ((pr.take i).map dS)) := .lst lnw offl kda
    have gc := good_cnt gd
    have ll : ((pr.take i).map dS).length ≤ 9 := by rw [List.length_map, List.length_take]; omega
    have cd : cnt (.list ((pr.take i).map dS)) = 1 + cntL ((pr.take i).map dS) := cnt_items rfl
    refine ⟨S, L, .ref l, .list ((pr.take i).map dS), _, c2, rfl, fun es ee => ?_, kd, (fun h => h.1 rfl), (fun h => h.2 rfl), by omega, z3.st, fun v' d' c' H4 lk kd' hc' hS' hk' => ?_⟩
    · cases ee
      exact ⟨by omega, fun e he => (gd e he).shal⟩
    have z4 := z3.kept hk' hS'
    have hhf4 := hk' _ _ hhf3 offf.1 offf.2
    refine ⟨x, hf, true, v', sg, hp, rs, qs, _, d', rfl, z4.cr.code, ok, hhf4, hq, kd', fun es ee => ?_, fun H5 sm5 => ?_⟩
    · cases lk with
      | same h => cases h
      | seq h h' t =>
        cases h
        rw [h'] at ee
        cases ee
        exact ⟨by rw [← t.len]; omega, fun e he es ie => (good_all t gd e he es ie).2⟩
    · rw [← areB_like lk, show areB rs (qs.map lit) (.list ((pr.take i).map dS)) = true from R.go i]
      refine ⟨.bl true, .bl true, .bool true, 100, rfl, .bl _, .bl _, small_bool _, by decide, _, rfl, iteF ?_⟩
      exact ⟨_, c', rfl, z4.same sm5, by omega, hk2.trans ((fun b o e n1 n2 => sm5 _ _ (hk' _ _ (sl _ _ e) n1 n2) : Kept S L H2 H5))⟩
  · rintro σ' H2 ⟨o12, c2, rfl, z2, hc2, hk2⟩
    exact k _ c2 H2 z2 (by omega) hk2
end
end K6
namespace K6
open PySem PySem.Spec PyProof.Rows L2 LamX NdefX EV
/-! ### the law's own body: what is told, how it ends -/
theorem draw_pr {ns : List Str} {H : Hp} : ∀ {ts : List Addr} {dp : List (Option Nat × Option Nat)} {ps : List (Nat × Option Str)}, DrawAt ns H ts dp → Paired (fun (p : Option Nat × Option Nat) (q : Nat × Option Str) => p.1 = some q.1 ∧ p.2.map (litS ns) = q.2) dp ps → PrAt H ts ps
  | _, _, _, .nil, .nil => .nil
  | _, _, _, .cons (b := p) h r, .cons (b := q) e t => .cons (by
      obtain ⟨p1, p2⟩ := p
      obtain ⟨q1, q2⟩ := q
      obtain ⟨e1, e2⟩ := e
      have e1 : p1 = some q1 := e1
      have e2 : p2.map (litS ns) = q2 := e2
      subst e1
      subst e2
      cases p2
      · exact h
      · exact h) (draw_pr r t)
theorem drawP_len {sg hp : List Str} {rs : List (List Str)} (ok : OkC sg hp rs) (few : rs.length ≤ 500) {qs : List (Bool × Str)} (hq : Lits (sg ++ hp) qs) : (drawP (sg ++ hp) rs qs).length ≤ (sg ++ hp).length + 1 := by
  have o := numF_ok ok few
  have glt : ∀ l ∈ (qs.map lit).map (litN (sg ++ hp)), l < 2 * (sg ++ hp).length := fun l hl => by
    obtain ⟨z, hz, rfl⟩ := List.mem_map.mp hl
    obtain ⟨q, hq', rfl⟩ := List.mem_map.mp hz
    exact litN_lt (lit_mem (hq.sub q hq'))
  have gnd := half_nodup ok.nd ok.good hq.nd hq.sub
  obtain ⟨t, l1, l2⟩ := led_spec o.g glt gnd
  exact pairsF_len t.f.v _
theorem small_int : ∀ i < 9, (PyData.int (i : Nat)).leavesShort 40 = true ∧ (PyData.int (i : Nat)).showable = true := by decide +kernel
theorem small_prs : ∀ ps : List (Nat × Option Str), (∀ p ∈ ps, p.1 < 9 ∧ ∀ z, p.2 = some z → Fit z ∧ z.length ≤ 9) → SmallAll (ps.map dS) (12 * ps.length) 3
  | [], _ => ⟨rfl, Nat.le_refl 0, rfl, Nat.zero_le _⟩
  | p :: ps, h => by
    obtain ⟨h1, h2⟩ := h p List.mem_cons_self
    have one : SmallAll [PyData.int (p.1 : Nat), lD p.2] (0 + 1 + (9 + 1 + 0)) 2 := by
      refine .cons (small_int _ h1).1 (Nat.le_refl 0) (small_int _ h1).2 (Nat.zero_le _) (.cons ?_ ?_ ?_ ?_ .nil)
      · cases e : p.2 with
        | none => rfl
        | some z => exact name_short (h2 z e).1
      · cases e : p.2 with
        | none => exact Nat.zero_le _
        | some z => exact (h2 z e).2
      · cases p.2 <;> rfl
      · cases p.2 <;> exact Nat.zero_le _
    obtain ⟨a1, a2, a3, a4⟩ := small_tup one
    have z := SmallAll.cons a1 a2 a3 a4 (small_prs ps fun q hq => h q (List.mem_cons_of_mem _ hq))
    refine ⟨z.ls, ?_, z.sh, z.dp⟩
    have b := z.bk
    rw [List.length_cons, Nat.mul_succ]
    show PyData.bulkAll (.tuple [.int (p.1 : Nat), lD p.2] :: ps.map dS) ≤ _
    omega
theorem lits_short {ns : List Str} (good : ∀ z ∈ ns, Name1 z) {z : Str} (h : z ∈ lits ns) : Fit z ∧ z.length ≤ 9 := by
  obtain ⟨q, hq, rfl⟩ := lits_lit h
  have g := good _ hq
  refine ⟨g.fit.lit, ?_⟩
  obtain ⟨b, n⟩ := q
  have g2 : n.length ≤ 8 := g.2.1
  cases b
  · exact Nat.le_trans g2 (by decide)
  · show (neg n).length ≤ 9
    rw [neg_len]
    omega
def rLn (K : PySem.W.Frag) : List V → Hp → VK → Prop := fun xs H Q => ∃ x n, xs = [x] ∧ LenV K x H n ∧ Q (.int (n : Nat)) H
theorem call_lenR {X : Cx} : CallR X (.builtin "len") (rLn X.K) := call_len
abbrev sL (o0 o2 o6 o8 o9 o10 o11 o12 o13 : Option V) (S d pn x hf : Addr) : L2.St := [o0, some (.ref S), o2, some (.ref d), some (.ref pn), some (.ref x), o6, some (.ref hf), o8, o9, o10, o11, o12, o13]
section
variable {P : Program} {w : World} {K : PySem.W.Frag} {mg : Str → Option Value} {base : Heap} {C : Addr}
variable {f : Addr} {cdv : Value} {A : Around} {outer : List Env} {s0 : Shared} {HH : Hp} {E : XK}
/-- each is a pair -/
theorem seg_all (T : LW13 P w K mg base C) (hr : Room 9 (XL P w K mg base f cdv A outer s0 HH E).A) :
    ∃ tt, PS (XL P w K mg base f cdv A outer s0 HH E) (kbody.getD 3 (.Pass ⟨0, 0, 0, 0⟩)) tt ∧ ∀ (D : Ends) (S d pn x hf FA : Addr) (us : List Addr) (pr : List (Nat × Option Str)) (o0 o2 o6 o9 o10 o11 o12 o13 : Option V) (H : Hp), H FA = some (.lst (us.map V.ref)) → PrAt H us pr → pr.length ≤ 9 →
      (∀ H', Same H H' → D.nx (sL o0 o2 o6 (some (.ref FA)) o9 o10 o11 o12 o13 S d pn x hf) H') → tt D (sL o0 o2 o6 (some (.ref FA)) o9 o10 o11 o12 o13 S d pn x hf) H := by
  have hu := hu_of hr
  refine ⟨_, ps_if (pt_not (pt_val (pe_callB (cr_all rfl) (by rfl) T.all (by decide +kernel) (pa_cons (pe_lc (own := [("_law_pair", 13)]) (g := gName 13) (tt := tYes) rfl scLaw.nd (pi_list (pv 8)) (blkOk_by (N := nLaw) (sc := defScope sLaw) (by decide +kernel)) (fun _ _ _ _ _ => pg_name (i := 13) scLaw.nd rfl (.inl rfl)) (fun _ _ _ _ _ => pts_nil)
      (fun _ _ _ _ _ => show PE _ _ (tAndV (tCB (rIsiT K) _) (tOp rEq (tCB (rLn K) _) _)) from pe_and (pe_callB call_isiT (by rfl) T.isi (by decide +kernel) (pa_cons (pv 13) (pa_cons (pe_tup (pa_cons (pe_bltn (v := .ty "list") (by rfl) T.T.list (by decide +kernel) rfl) (pa_cons (pe_bltn (v := .ty "tuple") (by rfl) T.T.tuple (by decide +kernel) rfl) pa_nil))) pa_nil))) (pe_one (pe_cmpR op_eq (pe_callB (id := "len") call_lenR (by rfl) T.T.len PySem.boot_len (pa_cons (pv 13) pa_nil)) pe_int (nomark _))))) pa_nil)))) (pss_one (ps_ret pe_bl)) pss_nil, ?_⟩
  intro D S d pn x hf FA us pr o0 o2 o6 o9 o10 o11 o12 o13 H hFA hpr l9 k
  have lus : us.length = pr.length := Paired.length hpr
  refine ⟨_, rfl, FA, rfl, ⟨_, SqL.of hFA⟩, fun L hL => lc_list (K := K) (a := FA) (xs := us.map V.ref) (fun i H2 => Same H H2 ∧ H2 L = some (.lst ((List.replicate i true).map V.bl))) ⟨same_new hL, upd_same⟩ (fun i H2 _ h => SqL.of (h.1 _ _ hFA)) ?_ ?_⟩
  · rintro i v H2 hv ⟨sm2, hL2⟩
    obtain ⟨u, hu', rfl⟩ := get_map hv
    have hi : i < us.length := (List.getElem?_eq_some_iff.mp hu').1
    obtain ⟨p, hp, hup⟩ := paired_get hpr i u hu'
    have hup2 := sm2 _ _ hup
    have kd : KD (fun _ => True) H2 (.ref u) (.tuple [.int (p.1 : Nat), lD p.2]) := .tup hup2 trivial (.cons (.int _) (.cons (by
      cases p.2
      · exact .non
      · exact .str _) .nil))
    obtain ⟨t, ht, kit⟩ := kd.ty (K := K)
    refine ⟨rfl, _, rfl, by show 2 ≤ sizeLine; decide, fun tp htp => ?_⟩
    have sl := same_new (o := .tup [.ty "list", .ty "tuple"]) htp
    have hL3 := sl _ _ hL2
    have hup3 := sl _ _ hup2
    refine ⟨.ref u, tp, _, t, _, true, rfl, upd_same, .cons (.ty "list") (.cons (.ty "tuple") .nil), ht _ sl, kit, _, rfl, iteT ?_⟩
    refine ⟨_, rfl, .ref u, 2, rfl, .inr ⟨_, SqT.of hup3, rfl⟩, rfl, _, hL3, ?_, fun b o e => ?_, ?_⟩
    · rw [List.length_map, List.length_replicate, sizeLine_eq]; omega
    · exact (upd_ne (ne_of_none e hL)).trans (sl _ _ (sm2 b o e))
    · rw [upd_same, List.replicate_succ', List.map_append]
      rfl
  · rintro H2 ⟨sm2, hL2⟩
    refine ⟨L, _, rfl, SqL.of hL2, _, rfl, ?_⟩
    rw [List.all_replicate]
    cases hl : (us.map V.ref).length with
    | zero => exact iteF (k H2 sm2)
    | succ n => exact iteF (k H2 sm2)
end
end K6
namespace K6
open PySem PySem.Spec PyProof.Rows L2 LamX NdefX EV
/-! ### the law's own body: both ways to end -/
/-- what is due, and how the pairs end -/
def Tld (ns : List Str) (H : Hp) (v9 v10 : V) : Prop := (v9 = .non ∧ v10 = .str "dead") ∨ ∃ (du en : Addr) (ch so : List Str), v9 = .ref du ∧ v10 = .ref en ∧ H du = some (.lst (ch.map V.str)) ∧ H en = some (.lst (so.map V.str)) ∧ (∀ z, z ∈ so ↔ z ∈ ch) ∧ ∀ z ∈ so, z ∈ lits ns
theorem Tld.same {ns : List Str} {H H' : Hp} {v9 v10 : V} (t : Tld ns H v9 v10) (sm : Same H H') : Tld ns H' v9 v10 := by
  rcases t with t | ⟨du, en, ch, so, e1, e2, h1, h2, t⟩
  · exact .inl t
  · exact .inr ⟨du, en, ch, so, e1, e2, sm _ _ h1, sm _ _ h2, t⟩
section
variable {P : Program} {w : World} {K : PySem.W.Frag} {mg : Str → Option Value} {base : Heap} {C : Addr}
variable {f : Addr} {cdv : Value} {A : Around} {outer : List Env} {s0 : Shared} {HH : Hp} {E : XK}
theorem seg_ends (T : LW13 P w K mg base C) (hr : Room 9 (XL P w K mg base f cdv A outer s0 HH E).A) :
    ∃ tt, PS (XL P w K mg base f cdv A outer s0 HH E) (kbody.getD 4 (.Pass ⟨0, 0, 0, 0⟩)) tt ∧ ∀ (D : Ends) (S d ps ph pc pn x hf FA : Addr) (sg hp : List Str) (ts us : List Addr) (rs : List (List Str)) (qs : List (Bool × Str)) (pr : List (Nat × Option Str)) (so : List Str) (b : Bool) (o0 o2 o6 o9 o10 o11 o12 o13 : Option V) (H : Hp),
      CAt H d ps ph pc sg hp ts rs → OkC sg hp rs → H hf = some (.lst ((qs.map lit).map V.str)) → Lits (sg ++ hp) qs → H FA = some (.lst (us.map V.ref)) → PrAt H us pr → RightS rs (qs.map lit) pr so b → pr.length ≤ 9 →
      (b = true → ∀ H', Same H H' → D.nx (sL o0 o2 o6 (some (.ref FA)) o9 (some (.str "dead")) o11 o12 o13 S d pn x hf) H') →
      (b = false → ∀ en H', Same H H' → H' en = some (.lst (so.map V.str)) → D.nx (sL o0 o2 o6 (some (.ref FA)) o9 (some (.ref en)) o11 o12 o13 S d pn x hf) H') →
      tt D (sL o0 o2 o6 (some (.ref FA)) o9 o10 o11 o12 o13 S d pn x hf) H := by
  have hu := hu_of hr
  have hr2 : Room 2 _ := hr.mono (by decide)
  refine ⟨_, ps_set (i := 10) scLaw.nd rfl (.inl rfl) (pe_callH T.ends hr2 (by rfl) (pa_cons (pe_dget hu (pv 3) pe_str (fun _ _ => rfl)) (pa_cons (pv 7) (pa_cons (pe_lc (own := [("_law_pair", 13)]) (g := gName 13) (tt := tYes) rfl scLaw.nd (pi_list (pv 8)) (blkOk_by (N := nLaw) (sc := defScope sLaw) (by decide +kernel)) (fun _ _ _ _ _ => pg_name (i := 13) scLaw.nd rfl (.inl rfl)) (fun _ _ _ _ _ => pts_nil)
      (fun _ _ _ _ _ => show PE _ _ (tThen (tVar 13) (kTup K)) from pe_tupleOf (by rfl) T.T.tuple (pv 13))) pa_nil)))), ?_⟩
  intro D S d ps ph pc pn x hf FA sg hp ts us rs qs pr so b o0 o2 o6 o9 o10 o11 o12 o13 H ca ok hhf hq hFA hpr R l9 kt kf
  have lus : us.length = pr.length := Paired.length hpr
  refine ⟨_, rfl, d, _, rfl, (dget_c ca.d).2.2, _, rfl, _, rfl, FA, rfl, ⟨_, SqL.of hFA⟩, fun L hL => lc_list (K := K) (a := FA) (xs := us.map V.ref) (fun i H2 => Same H H2 ∧ H2 L = some (.lst ((us.take i).map V.ref))) ⟨same_new hL, upd_same⟩ (fun i H2 _ h => SqL.of (h.1 _ _ hFA)) ?_ ?_⟩
  · rintro i v H2 hv ⟨sm2, hL2⟩
    obtain ⟨u, hu', rfl⟩ := get_map hv
    have hi : i < us.length := (List.getElem?_eq_some_iff.mp hu').1
    obtain ⟨p, hp, hup⟩ := paired_get hpr i u hu'
    refine ⟨rfl, _, rfl, .inr ⟨_, _, rfl, SqT.of (sm2 _ _ hup), _, hL2, ?_, fun b o e => ?_, ?_⟩⟩
    · rw [List.length_map, List.length_take, sizeLine_eq]; omega
    · exact (upd_ne (ne_of_none e hL)).trans (sm2 b o e)
    · rw [upd_same, List.take_succ, hu', List.map_append]
      rfl
  · rintro H2 ⟨sm2, hL2⟩
    rw [List.length_map, List.take_length] at hL2
    refine ⟨pc, hf, L, ts, us, sg, hp, rs, qs, pr, so, b, rfl, sm2 _ _ ca.c, Paired.mapP ca.r fun t r z => sm2 _ _ z, ok, sm2 _ _ hhf, hq, hL2, Paired.mapP hpr fun t r z => sm2 _ _ z, R, by omega, fun hb H3 sm3 => ?_, fun hb p H3 sm3 _ hp3 => ?_⟩
    · exact kt hb H3 (sm2.trans sm3)
    · exact kf hb p H3 (sm2.trans sm3) hp3
theorem seg_dead (T : LW13 P w K mg base C) (hr : Room 9 (XL P w K mg base f cdv A outer s0 HH E).A) :
    ∃ tt, PS (XL P w K mg base f cdv A outer s0 HH E) (kbody.getD 5 (.Pass ⟨0, 0, 0, 0⟩)) tt ∧ ∀ (D : Ends) (S d pn x hf : Addr) (ns : List Str) (v9 v10 : V) (o0 o2 o6 o8 o11 o12 o13 : Option V) (H : Hp), Tld ns H v9 v10 → (∀ z ∈ ns, Name1 z) →
      (∀ H', Same H H' → D.nx (sL o0 o2 o6 o8 (some v9) (some v10) o11 o12 o13 S d pn x hf) H') → tt D (sL o0 o2 o6 o8 (some v9) (some v10) o11 o12 o13 S d pn x hf) H := by
  have hu := hu_of hr
  refine ⟨_, ps_if (PW.pt (pw_or (pt_cmpR op_isN (pv 10) pe_non rfl) (pw_or1 (pt_cmpR op_ne (pe_cmpR op_isN (pv 9) pe_non (nomark _)) (pe_cmpR (op_eqD hr.units) (pv 10) pe_str (nomark _)) (nomark _))))) (pss_one (ps_ret pe_bl)) pss_nil, ?_⟩
  intro D S d pn x hf ns v9 v10 o0 o2 o6 o8 o11 o12 o13 H t good k
  rcases t with ⟨rfl, rfl⟩ | ⟨du, en, ch, so, rfl, rfl, h1, h2, e, inl⟩
  · refine ⟨_, rfl, rfl, _, rfl, iteF ⟨_, rfl, rfl, _, rfl, .str "dead", .str "dead", .str _, .str _, by decide +kernel, by decide +kernel, rfl, _, rfl, ?_⟩⟩
    rw [show PyData.eqv (.str "dead") (.str "dead") = true by simp [PyData.eqv]]
    exact iteF (k H (Same.refl H))
  · refine ⟨_, rfl, rfl, _, rfl, iteF ⟨_, rfl, rfl, _, rfl, .list (so.map PyData.str), .str "dead", .lst (SqL.of h2) (dp_strs _), .str _, shaped_strs _ (fun z hz => (lits_short good (inl z hz)).1), by decide +kernel, rfl, _, rfl, ?_⟩⟩
    rw [show PyData.eqv (.list (so.map PyData.str)) (.str "dead") = false by simp [PyData.eqv]]
    exact iteF (k H (Same.refl H))
theorem seg_ups (T : LW13 P w K mg base C) (hr : Room 9 (XL P w K mg base f cdv A outer s0 HH E).A) :
    ∃ tt, PS (XL P w K mg base f cdv A outer s0 HH E) (kbody.getD 6 (.Pass ⟨0, 0, 0, 0⟩)) tt ∧ ∀ (D : Ends) (S d pn x hf : Addr) (ns : List Str) (v9 v10 : V) (o0 o2 o6 o8 o11 o12 o13 : Option V) (H : Hp), Tld ns H v9 v10 → (∀ z ∈ ns, Name1 z) → ns.length ≤ 60 → H pn = some (.lst (ns.map V.str)) →
      (∀ H', Same H H' → D.nx (sL o0 o2 o6 o8 (some v9) (some v10) o11 o12 o13 S d pn x hf) H') → tt D (sL o0 o2 o6 o8 (some v9) (some v10) o11 o12 o13 S d pn x hf) H := by
  have hu := hu_of hr
  have hr1 : Room 1 _ := hr.mono (by decide)
  refine ⟨_, ps_if (PW.pt (pw_and (pt_cmpR op_notN (pv 9) pe_non rfl) (pw_and1 (pt_cmpR (op_neD hr.units) (pe_callH T.up hr1 (by rfl) (pa_cons (pv 10) (pa_cons (pv 4) pa_nil))) (pe_callH T.up hr1 (by rfl) (pa_cons (pv 9) (pa_cons (pv 4) pa_nil))) (nomark _))))) (pss_one (ps_ret pe_bl)) pss_nil, ?_⟩
  intro D S d pn x hf ns v9 v10 o0 o2 o6 o8 o11 o12 o13 H t good n60 hpn k
  rcases t with ⟨rfl, rfl⟩ | ⟨du, en, ch, so, rfl, rfl, h1, h2, e, inl⟩
  · exact ⟨_, rfl, rfl, _, rfl, iteF (k H (Same.refl H))⟩
  · refine ⟨_, rfl, rfl, _, rfl, iteT ⟨_, rfl, _, rfl, en, pn, true, so, ns, rfl, Sq.lst h2, (fun H' s => Sq.lst (s _ _ h2)), SqL.of hpn, (fun H' s => SqL.of (s _ _ hpn)), n60, (fun z hz => (good z hz).2.1), fun p H1 hp hp1 sm1 => ?_⟩⟩
    refine ⟨_, rfl, _, rfl, du, pn, true, ch, ns, rfl, Sq.lst (sm1 _ _ h1), (fun H' s => Sq.lst (s _ _ (sm1 _ _ h1))), SqL.of (sm1 _ _ hpn), (fun H' s => SqL.of (s _ _ (sm1 _ _ hpn))), n60, (fun z hz => (good z hz).2.1), fun p2 H2 hp2 hp12 sm2 => ?_⟩
    have fitA : ∀ ls, ∀ z ∈ asc ns ls, Fit z := fun ls => asc_fit fun z hz => (good z hz).fit
    refine ⟨.tuple ((asc ns so).map PyData.str), .tuple ((asc ns ch).map PyData.str), .tup (SqT.of (sm2 _ _ hp1)) (dp_strs _), .tup (SqT.of hp12) (dp_strs _), shaped_row _ (fitA _), shaped_row _ (fitA _), _, rfl, ?_⟩
    rw [asc_congr (ns := ns) e, show PyData.eqv (.tuple ((asc ns ch).map PyData.str)) (.tuple ((asc ns ch).map PyData.str)) = true from (eqvAll_strs _ _).trans (decide_eq_true rfl)]
    exact iteF (k H2 (sm1.trans sm2))
theorem seg_again (T : LW13 P w K mg base C) (hg : (XL P w K mg base f cdv A outer s0 HH E).A.guards = some []) (hr : Room 9 (XL P w K mg base f cdv A outer s0 HH E).A) :
    ∃ tt, PS (XL P w K mg base f cdv A outer s0 HH E) (kbody.getD 9 (.Pass ⟨0, 0, 0, 0⟩)) tt ∧ ∀ (D : Ends) (S d pn x r hf KP : Addr) (sg hp : List Str) (us : List Addr) (rs : List (List Str)) (qs : List (Bool × Str)) (pr : List (Nat × Option Str)) (so : List Str) (b : Bool) (o0 o2 o6 o8 o9 o10 o12 o13 : Option V) (H : Hp),
      CodeR K C H x sg hp rs r → OkC sg hp rs → rs.length ≤ 9 → H hf = some (.lst ((qs.map lit).map V.str)) → Lits (sg ++ hp) qs → H KP = some (.lst (us.map V.ref)) → PrAt H us pr → RightS rs (qs.map lit) pr so b → pr.length ≤ 9 → Paired (fun (p : Option Nat × Option Nat) (q : Nat × Option Str) => p.1 = some q.1 ∧ p.2.map (litS (sg ++ hp)) = q.2) (drawP (sg ++ hp) rs qs) pr →
      (∀ H', Same H H' → D.nx (sL o0 o2 o6 o8 o9 o10 (some (.ref KP)) o12 o13 S d pn x hf) H') →
      tt D (sL o0 o2 o6 o8 o9 o10 (some (.ref KP)) o12 o13 S d pn x hf) H := by
  have hu := hu_of hr
  have hr1 : Room 1 _ := hr.mono (by decide)
  have hr8 : Room 8 _ := hr.mono (by decide)
  refine ⟨_, ps_if (pt_not (pt_val (pe_callHG T.same hg hr1 (by rfl) (pa_cons (pe_callH T.draws hr8 (by rfl) (pa_cons (pv 5) (pa_cons (pe_tupleOf (by rfl) T.T.tuple (pv 7)) pa_nil))) (pa_cons (pv 11) pa_nil))))) (pss_one (ps_ret pe_bl)) pss_nil, ?_⟩
  intro D S d pn x r hf KP sg hp us rs qs pr so b o0 o2 o6 o8 o9 o10 o12 o13 H cr ok few hhf hq hKP hpr R l9 pa k
  refine ⟨_, rfl, _, rfl, .inl ⟨hf, _, rfl, SqL.of hhf, fun q hq' => ?_⟩⟩
  have s1 := same_new (o := .tup ((qs.map lit).map V.str)) hq'
  refine ⟨x, q, r, false, sg, hp, rs, qs, rfl, cr.same s1, ok, by omega, upd_same, hq, fun p ts H2 sm2 hp0 hts0 hp2 da => ?_⟩
  have sm := s1.trans sm2
  have pr2 := draw_pr da pa
  have pds := R.pair (fun n hn => (ok.good n hn).fit) (by omega) ok.inLits
  have ka : KDA (fun _ => True) H2 (ts.map V.ref) (pr.map dS) := kd_prs pr2 fun _ _ => trivial
  have kb : KDA (fun _ => True) H2 (us.map V.ref) (pr.map dS) := kd_prs (Paired.mapP hpr fun t p z => sm _ _ z) fun _ _ => trivial
  obtain ⟨a1, a2, a3, a4⟩ := small_list (small_prs pr fun p hp' => by
    obtain ⟨i1, i2⟩ := R.ix p hp'
    exact ⟨by omega, fun z e => lits_short ok.good (ok.inLits _ (getD_mem i1) z (i2 z e))⟩)
  refine ⟨_, rfl, .ref p, .ref KP, .list (pr.map dS), 12 * pr.length, rfl, .lst (SqL.of hp2) (ka.dps pds), .lst (SqL.of (sm _ _ hKP)) (kb.dps pds), ⟨a1, a2, a3, by omega⟩, by omega, _, rfl, iteF ?_⟩
  exact k H2 sm
end
end K6
namespace K6
open PySem PySem.Spec PyProof.Rows L2 LamX NdefX EV
/-! ### one half-filled setting, a turn, the law -/
def spLaw0 (K : PySem.W.Frag) : Sp := fun vs H Q _ => ∃ (a : Addr) (ns : List Int), vs = [.ref a] ∧ SqL K H a (ns.map V.int) ∧ ns.length ≤ 63 ∧ ∀ H', Q (.bl true) H'
section
variable {P : Program} {w : World} {K : PySem.W.Frag} {mg : Str → Option Value} {base : Heap} {C : Addr}
variable {f : Addr} {cdv : Value} {A : Around} {outer : List Env} {s0 : Shared} {HH : Hp} {E : XK} {fd : FuncData}
theorem seg_tail (T : LW13 P w K mg base C) (hg : (XL P w K mg base f cdv A outer s0 HH E).A.guards = some []) (hr : Room 9 (XL P w K mg base f cdv A outer s0 HH E).A) :
    ∃ tt, PSs (XL P w K mg base f cdv A outer s0 HH E) (kbody.drop 5) tt ∧ ∀ (D : Ends) (S L d ps ph pc x r pn hf FA : Addr) (sg hp : List Str) (ts us : List Addr) (rs : List (List Str)) (qs : List (Bool × Str)) (pr : List (Nat × Option Str)) (so : List Str) (b : Bool) (v9 v10 : V) (c : Nat) (o0 o2 o6 o11 o12 o13 : Option V) (H0 H : Hp),
      Base0 K C S L d ps ph pc x r pn sg hp ts rs c H0 → H0 hf = some (.lst ((qs.map lit).map V.str)) → hf ≠ S ∧ hf ≠ L → Lits (sg ++ hp) qs → Same H0 H → H0 FA = none → H FA = some (.lst (us.map V.ref)) → PrAt H us pr → RightS rs (qs.map lit) pr so b → pr.length ≤ 9 →
      Paired (fun (p : Option Nat × Option Nat) (q : Nat × Option Str) => p.1 = some q.1 ∧ p.2.map (litS (sg ++ hp)) = q.2) (drawP (sg ++ hp) rs qs) pr → Tld (sg ++ hp) H v9 v10 → c ≤ 80000 →
      (∀ (o8 o9 o10 o11 o12 o13 : Option V) (c' : Nat) (H' : Hp), Base0 K C S L d ps ph pc x r pn sg hp ts rs c' H' → c' ≤ c + 370 → Kept S L H0 H' → D.nx (sL o0 o2 o6 o8 o9 o10 o11 o12 o13 S d pn x hf) H') →
      tt D (sL o0 o2 o6 (some (.ref FA)) (some v9) (some v10) o11 o12 o13 S d pn x hf) H := by
  obtain ⟨t5, p5, k5⟩ := seg_dead (f := f) (cdv := cdv) (A := A) (outer := outer) (s0 := s0) (HH := HH) (E := E) T hr
  obtain ⟨t6, p6, k6⟩ := seg_ups (f := f) (cdv := cdv) (A := A) (outer := outer) (s0 := s0) (HH := HH) (E := E) T hr
  obtain ⟨t9, p9, k9⟩ := seg_again (f := f) (cdv := cdv) (A := A) (outer := outer) (s0 := s0) (HH := HH) (E := E) T hg hr
  obtain ⟨t10, p10, k10⟩ := seg_sizes (f := f) (cdv := cdv) (A := A) (outer := outer) (s0 := s0) (HH := HH) (E := E) T hg hr
  refine ⟨_, pss_cons p5 (pss_cons p6 (pss_cons (ps_set (i := 11) scLaw.nd rfl (.inl rfl) (pe_callTy call_list_of (by rfl) T.T.list (by decide +kernel) (pa_cons (pv 8) pa_nil)))
    (pss_cons (ps_expr (pe_bm PySem.F.plainAttrs_list PySem.F.slot_list_append PySem.F.type_list_append mt_append (pv 8) (pa_cons (pe_tup (pa_cons pe_int (pa_cons pe_str pa_nil))) pa_nil)))
    (pss_cons p9 (pss_one p10))))), ?_⟩
  intro D S L d ps ph pc x r pn hf FA sg hp ts us rs qs pr so b v9 v10 c o0 o2 o6 o11 o12 o13 H0 H z hhf offf hq sm hFA0 hFA hpr R l9 pa t hc k
  have ok := z.D.okC
  have r7 := z.D.r7
  have lus : us.length = pr.length := Paired.length hpr
  refine k5 _ S d pn x hf (sg ++ hp) v9 v10 o0 o2 o6 _ o11 o12 o13 H t ok.good fun H1 sm1 => ?_
  refine k6 _ S d pn x hf (sg ++ hp) v9 v10 o0 o2 o6 _ o11 o12 o13 H1 (t.same sm1) ok.good ok.n60 (sm1 _ _ (sm _ _ z.hpn)) fun H2 sm2 => ?_
  have sm02 := (sm.trans sm1).trans sm2
  have hFA2 := sm2 _ _ (sm1 _ _ hFA)
  refine ⟨_, rfl, FA, _, rfl, .inl (SqL.of hFA2), fun KP hKP => ?_⟩
  have s3 := same_new (o := .lst (us.map V.ref)) hKP
  have hKP3 : upd H2 KP (.lst (us.map V.ref)) KP = some (.lst (us.map V.ref)) := upd_same
  have offk := (z.same sm02).st.off hKP
  have kF : KP ≠ FA := fun e => by rw [e, hFA2] at hKP; cases hKP
  refine ⟨_, rfl, tyL (s3 _ _ hFA2), by show 2 ≤ sizeLine; decide, fun t4 ht4 => ?_⟩
  have s4 := same_new (o := .tup [.int 0, .str "zz"]) ht4
  have sm04 := (sm02.trans s3).trans s4
  have hFA4 := s4 _ _ (s3 _ _ hFA2)
  refine ⟨FA, _, _, rfl, rfl, hFA4, by rw [List.length_map, sizeLine_eq]; omega, ?_⟩
  have smE : Same H0 (upd (upd (upd H2 KP (.lst (us.map V.ref))) t4 (.tup [.int 0, .str "zz"])) FA (.lst (us.map V.ref ++ [.ref t4]))) := fun b o e => (upd_ne (ne_of_none e hFA0)).trans (sm04 b o e)
  have hKP5 : upd (upd (upd H2 KP (.lst (us.map V.ref))) t4 (.tup [.int 0, .str "zz"])) FA (.lst (us.map V.ref ++ [.ref t4])) KP = some (.lst (us.map V.ref)) := (upd_ne kF).trans (s4 _ _ hKP3)
  have hpr5 : PrAt (upd (upd (upd H2 KP (.lst (us.map V.ref))) t4 (.tup [.int 0, .str "zz"])) FA (.lst (us.map V.ref ++ [.ref t4]))) us pr := Paired.mapP hpr fun t' p' e => (upd_ne fun q => by rw [q, hFA] at e; cases e).trans (s4 _ _ (s3 _ _ (sm2 _ _ (sm1 _ _ e))))
  generalize upd (upd (upd H2 KP (.lst (us.map V.ref))) t4 (.tup [.int 0, .str "zz"])) FA (.lst (us.map V.ref ++ [.ref t4])) = H5 at smE hKP5 hpr5 ⊢
  have z5 := z.same smE
  refine k9 _ S d pn x r hf KP sg hp us rs qs pr so b o0 o2 o6 _ _ _ o12 o13 H5 z5.cr ok r7 (smE _ _ hhf) hq hKP5 hpr5 R l9 pa fun H6 sm6 => ?_
  refine k10 _ S L d ps ph pc x r pn hf KP sg hp ts us rs qs pr so b c o0 o2 o6 _ _ _ o12 o13 H6 (z5.same sm6) (sm6 _ _ (smE _ _ hhf)) offf hq (sm6 _ _ hKP5) offk (Paired.mapP hpr5 fun t' p' e => sm6 _ _ e) R l9 hc fun o12' c' H7 z7 hc' hk7 => ?_
  exact k _ _ _ _ _ _ c' H7 z7 hc' fun b o e n1 n2 => hk7 _ _ (sm6 _ _ (smE _ _ e)) n1 n2
theorem seg_rest (T : LW13 P w K mg base C) (hg : (XL P w K mg base f cdv A outer s0 HH E).A.guards = some []) (hr : Room 9 (XL P w K mg base f cdv A outer s0 HH E).A) :
    ∃ tt, PSs (XL P w K mg base f cdv A outer s0 HH E) (kbody.drop 2) tt ∧ ∀ (D : Ends) (S L d ps ph pc x r pn hf FA : Addr) (sg hp : List Str) (ts us : List Addr) (rs : List (List Str)) (qs : List (Bool × Str)) (pr : List (Nat × Option Str)) (so : List Str) (b : Bool) (v9 : V) (c : Nat) (o0 o2 o6 o10 o11 o12 o13 : Option V) (H0 H : Hp),
      Base0 K C S L d ps ph pc x r pn sg hp ts rs c H0 → H0 hf = some (.lst ((qs.map lit).map V.str)) → hf ≠ S ∧ hf ≠ L → Lits (sg ++ hp) qs → Same H0 H → H0 FA = none → H FA = some (.lst (us.map V.ref)) → PrAt H us pr → RightS rs (qs.map lit) pr so b → pr.length ≤ 9 →
      Paired (fun (p : Option Nat × Option Nat) (q : Nat × Option Str) => p.1 = some q.1 ∧ p.2.map (litS (sg ++ hp)) = q.2) (drawP (sg ++ hp) rs qs) pr →
      ((v9 = .non ∧ b = true) ∨ ∃ (du : Addr) (ch : List Str), v9 = .ref du ∧ b = false ∧ H du = some (.lst (ch.map V.str)) ∧ ∀ z, z ∈ so ↔ z ∈ ch) → c ≤ 80000 →
      (∀ (o8 o9 o10 o11 o12 o13 : Option V) (c' : Nat) (H' : Hp), Base0 K C S L d ps ph pc x r pn sg hp ts rs c' H' → c' ≤ c + 370 → Kept S L H0 H' → D.nx (sL o0 o2 o6 o8 o9 o10 o11 o12 o13 S d pn x hf) H') →
      tt D (sL o0 o2 o6 (some (.ref FA)) (some v9) o10 o11 o12 o13 S d pn x hf) H := by
  obtain ⟨t3, p3, k3⟩ := seg_all (f := f) (cdv := cdv) (A := A) (outer := outer) (s0 := s0) (HH := HH) (E := E) T hr
  obtain ⟨t4, p4, k4⟩ := seg_ends (f := f) (cdv := cdv) (A := A) (outer := outer) (s0 := s0) (HH := HH) (E := E) T hr
  obtain ⟨t5, p5, k5⟩ := seg_tail (f := f) (cdv := cdv) (A := A) (outer := outer) (s0 := s0) (HH := HH) (E := E) T hg hr
  refine ⟨_, pss_cons (ps_if (pt_not (pt_val (pe_callB call_isi (by rfl) T.isi (by decide +kernel) (pa_cons (pv 8) (pa_cons (pe_bltn (v := .ty "list") (by rfl) T.T.list (by decide +kernel) rfl) pa_nil))))) (pss_one (ps_ret pe_bl)) pss_nil)
    (pss_cons p3 (pss_cons p4 p5)), ?_⟩
  intro D S L d ps ph pc x r pn hf FA sg hp ts us rs qs pr so b v9 c o0 o2 o6 o10 o11 o12 o13 H0 H z hhf offf hq sm hFA0 hFA hpr R l9 pa t hc k
  have ok := z.D.okC
  refine ⟨_, rfl, .ref FA, .ty "list", .type "list", .type "list", true, rfl, .ty "list", .base (.lst hFA), kit_ty (show kitB "list" "list" = some true by decide +kernel), _, rfl, iteF ?_⟩
  refine k3 _ S d pn x hf FA us pr o0 o2 o6 _ o10 o11 o12 o13 H hFA hpr l9 fun H1 sm1 => ?_
  have sm01 := sm.trans sm1
  have hpr1 : PrAt H1 us pr := Paired.mapP hpr fun t p e => sm1 _ _ e
  have ca1 : CAt H1 d ps ph pc sg hp ts rs := z.ca.same sm01
  refine k4 _ S d ps ph pc pn x hf FA sg hp ts us rs qs pr so b o0 o2 o6 _ o10 o11 o12 o13 H1 ca1 ok (sm01 _ _ hhf) hq (sm1 _ _ hFA) hpr1 R l9 (fun hb H2 sm2 => ?_) (fun hb en H2 sm2 hen => ?_)
  · refine k5 D S L d ps ph pc x r pn hf FA sg hp ts us rs qs pr so b v9 _ c o0 o2 o6 o11 o12 o13 H0 H2 z hhf offf hq (sm01.trans sm2) hFA0 (sm2 _ _ (sm1 _ _ hFA)) (Paired.mapP hpr1 fun t p e => sm2 _ _ e) R l9 pa ?_ hc k
    rcases t with ⟨e, _⟩ | ⟨du, ch, _, e, _⟩
    · exact .inl ⟨e, rfl⟩
    · rw [hb] at e; cases e
  · refine k5 D S L d ps ph pc x r pn hf FA sg hp ts us rs qs pr so b v9 _ c o0 o2 o6 o11 o12 o13 H0 H2 z hhf offf hq (sm01.trans sm2) hFA0 (sm2 _ _ (sm1 _ _ hFA)) (Paired.mapP hpr1 fun t p e => sm2 _ _ e) R l9 pa ?_ hc k
    rcases t with ⟨_, e⟩ | ⟨du, ch, e, _, hdu, hsc⟩
    · rw [hb] at e; cases e
    · refine .inr ⟨du, en, ch, so, e, rfl, sm2 _ _ (sm1 _ _ hdu), hen, hsc, fun y hy => ?_⟩
      rcases R.so_mem y hy with h | ⟨r', hr', h⟩
      · obtain ⟨q, hq', rfl⟩ := List.mem_map.mp h
        exact lit_mem (hq.sub q hq')
      · exact ok.inLits r' hr' y h
theorem seg_k (T : LW13 P w K mg base C) (hg : (XL P w K mg base f cdv A outer s0 HH E).A.guards = some []) (hr : Room 9 (XL P w K mg base f cdv A outer s0 HH E).A) :
    ∃ tt, PSs (XL P w K mg base f cdv A outer s0 HH E) kbody tt ∧ ∀ (D : Ends) (S L d ps ph pc x r pn : Addr) (sg hp : List Str) (ts : List Addr) (rs : List (List Str)) (c : Nat) (o0 o2 o6 o7 o8 o9 o10 o11 o12 o13 : Option V) (H : Hp),
      Base0 K C S L d ps ph pc x r pn sg hp ts rs c H → c ≤ 70000 →
      (∀ (o7 o8 o9 o10 o11 o12 o13 : Option V) (c' : Nat) (H' : Hp), Base0 K C S L d ps ph pc x r pn sg hp ts rs c' H' → c' ≤ c + 490 → D.nx [o0, some (.ref S), o2, some (.ref d), some (.ref pn), some (.ref x), o6, o7, o8, o9, o10, o11, o12, o13] H') →
      tt D [o0, some (.ref S), o2, some (.ref d), some (.ref pn), some (.ref x), o6, o7, o8, o9, o10, o11, o12, o13] H := by
  have hu := hu_of hr
  have hr3 : Room 3 _ := hr.mono (by decide)
  have hr2 : Room 2 _ := hr.mono (by decide)
  have hr8 : Room 8 _ := hr.mono (by decide)
  obtain ⟨t2, p2, k2⟩ := seg_rest (f := f) (cdv := cdv) (A := A) (outer := outer) (s0 := s0) (HH := HH) (E := E) T hg hr
  refine ⟨_, pss_cons (ps_set (i := 7) scLaw.nd rfl (.inl rfl) (pe_callH T.half hr3 (by rfl) (pa_cons (pv 1) (pa_cons (pv 4) pa_nil))))
    (pss_cons (ps_par (i := 8) (j := 9) rfl scLaw.nd rfl rfl (by decide) (by rfl) (by rfl) (pa_cons (pe_callH T.draws hr8 (by rfl) (pa_cons (pv 5) (pa_cons (pv 7) pa_nil))) (pa_cons (pe_callH T.chase hr2 (by rfl) (pa_cons (pe_dget hu (pv 3) pe_str (fun _ _ => rfl)) (pa_cons (pv 7) pa_nil))) pa_nil)) rfl) p2), ?_⟩
  intro D S L d ps ph pc x r pn sg hp ts rs c o0 o2 o6 o7 o8 o9 o10 o11 o12 o13 H z hc k
  have ok := z.D.okC
  have r7 := z.D.r7
  have s5 := z.D.sg4
  have h3 := z.D.hp3
  refine ⟨_, rfl, _, rfl, S, L, pn, sg ++ hp, c, rfl, SqL.of z.hpn, (fun H' hk => SqL.of (hk _ _ z.hpn z.offp.1 z.offp.2)), ok.n60, ok.nd, ok.good, by omega, z.st, fun qs hf c1 H1 hq hfn hfh hc1 hS1 hk1 => ?_⟩
  have z1 := z.kept hk1 hS1
  have offhf := z.st.off hfn
  obtain ⟨pr, so, b, R, pa, dT, dF⟩ := draw_right ok (by omega) hq
  have l9 : pr.length ≤ 9 := by
    have a := Paired.length pa
    have b := drawP_len ok (by omega) hq
    rw [List.length_append] at b
    omega
  refine ⟨_, rfl, _, rfl, x, hf, r, true, sg, hp, rs, qs, rfl, z1.cr, ok, by omega, hfh, hq, fun FA us H2 sm2 hFA0 hus0 hFA2 da => ?_⟩
  have hpr2 := draw_pr da pa
  refine ⟨_, rfl, d, _, rfl, (dget_c (z1.ca.same sm2).d).2.2, _, rfl, pc, hf, ts, sg, hp, rs, qs, rfl, (z1.ca.same sm2).c, (z1.ca.same sm2).r, ok, sm2 _ _ hfh, hq, fun hN H3 sm3 => ?_, fun ch du H3 hT inl l120 sm3 hdu0 hdu3 => ?_⟩
  · refine ⟨_, _, rfl, ?_⟩
    have hb : b = true := by
      cases b
      · exact absurd hN (dF rfl).1
      · rfl
    refine k2 _ S L d ps ph pc x r pn hf FA sg hp ts us rs qs pr so b .non c1 _ _ _ _ _ _ _ H1 _ z1 hfh offhf hq (sm2.trans sm3) hFA0 (sm3 _ _ hFA2) (Paired.mapP hpr2 fun t p e => sm3 _ _ e) R l9 pa (.inl ⟨rfl, hb⟩) (by omega) fun p8 p9 p10 p11 p12 p13 c' H' z' hc' _ => ?_
    exact k _ _ _ _ _ _ _ c' H' z' (by omega)
  · refine ⟨_, _, rfl, ?_⟩
    have hb : b = false := by
      cases b
      · rfl
      · exact absurd hT (dT rfl ch)
    refine k2 _ S L d ps ph pc x r pn hf FA sg hp ts us rs qs pr so b (.ref du) c1 _ _ _ _ _ _ _ H1 _ z1 hfh offhf hq (sm2.trans sm3) hFA0 (sm3 _ _ hFA2) (Paired.mapP hpr2 fun t p e => sm3 _ _ e) R l9 pa (.inr ⟨du, ch, rfl, hb, hdu3, (dF hb).2 ch hT⟩) (by omega) fun p8 p9 p10 p11 p12 p13 c' H' z' hc' _ => ?_
    exact k _ _ _ _ _ _ _ c' H' z' (by omega)
def Sig13 (S : Addr) (σ : L2.St) : Prop := ∃ o0 o2 o3 o4 o5 o6 o7 o8 o9 o10 o11 o12 o13 : Option V, σ = [o0, some (.ref S), o2, o3, o4, o5, o6, o7, o8, o9, o10, o11, o12, o13]
theorem seg_turn (T : LW13 P w K mg base C) (hg : (XL P w K mg base f cdv A outer s0 HH E).A.guards = some []) (hr : Room 9 (XL P w K mg base f cdv A outer s0 HH E).A) :
    ∃ tt, PSs (XL P w K mg base f cdv A outer s0 HH E) turn tt ∧ ∀ (D : Ends) (S L : Addr) (c : Nat) (σ : L2.St) (H : Hp), Sig13 S σ → StreamAt H S L c → c ≤ 50000 →
      (∀ σ' H' c', Sig13 S σ' → StreamAt H' S L c' → c' ≤ c + 5300 → D.nx σ' H') → tt D σ H := by
  have hu := hu_of hr
  have hr5 : Room 5 _ := hr.mono (by decide)
  have hr7 : Room 7 _ := hr.mono (by decide)
  obtain ⟨t2, p2, k2⟩ := seg_k (f := f) (cdv := cdv) (A := A) (outer := outer) (s0 := s0) (HH := HH) (E := E) T hg hr
  refine ⟨_, pss_cons (ps_set (i := 3) scLaw.nd rfl (.inl rfl) (pe_callH T.code hr5 (by rfl) (pa_cons (pv 1) (pa_cons pe_int (pa_cons pe_int (pa_cons pe_int pa_nil))))))
    (pss_cons (ps_par (i := 4) (j := 5) rfl scLaw.nd rfl rfl (by decide) (by rfl) (by rfl) (pa_cons (pe_op op_cat (pe_dget hu (pv 3) pe_str (fun _ _ => rfl)) (pe_dget hu (pv 3) pe_str (fun _ _ => rfl))) (pa_cons (pe_callH T.made hr7 (by rfl) (pa_cons (pv 3) pa_nil)) pa_nil)) rfl)
    (pss_one (ps_for PassesOwn.never rfl (pi_range1 (by rfl) T.range (pa_cons pe_int pa_nil)) (pg_name (i := 6) scLaw.nd rfl (.inl rfl)) p2))), ?_⟩
  rintro D S L c σ H ⟨o0, o2, o3, o4, o5, o6, o7, o8, o9, o10, o11, o12, o13, rfl⟩ hS hc k
  refine ⟨_, rfl, S, L, c, rfl, by omega, hS, fun d ps ph pc sg hp ts rs c1 H1 D1 ca off hc1 hS1 hk1 => ?_⟩
  obtain ⟨g1, g2, g3⟩ := dget_c ca.d
  have l4 := D1.sg4
  have l3 := D1.hp3
  refine ⟨_, rfl, d, _, rfl, g1, _, rfl, d, _, rfl, g2, ps, ph, _, _, rfl, rfl, ca.s, ca.h, ?_, fun pn hpn => ?_⟩
  · rw [List.length_map, List.length_map, sizeLine_eq]; omega
  have s1 := same_new (o := .lst (sg.map V.str ++ hp.map V.str)) hpn
  have hpn1 : upd H1 pn (.lst (sg.map V.str ++ hp.map V.str)) pn = some (.lst ((sg ++ hp).map V.str)) := by rw [List.map_append]; exact upd_same
  have offn := hS1.off hpn
  refine ⟨_, rfl, d, ps, ph, pc, sg, hp, ts, rs, rfl, ca.same s1, D1, fun y r H2 sm2 cr => ⟨_, _, rfl, ?_⟩⟩
  have sm := s1.trans sm2
  have B : Base0 K C S L d ps ph pc y r pn sg hp ts rs c1 _ := ⟨D1, ca.same sm, off, cr, sm2 _ _ hpn1, offn, hS1.same sm⟩
  refine ⟨8, rfl, by decide, by decide, for_range (lo := 0) (n := 8) (fun i σ H4 => ∃ (q6 q7 q8 q9 q10 q11 q12 q13 : Option V) (c4 : Nat), σ = [o0, some (.ref S), o2, some (.ref d), some (.ref pn), some (.ref y), q6, q7, q8, q9, q10, q11, q12, q13] ∧ Base0 K C S L d ps ph pc y r pn sg hp ts rs c4 H4 ∧ c4 ≤ c1 + 490 * i)
    ⟨_, _, _, _, _, _, _, _, c1, rfl, B, by omega⟩ ?_ ?_⟩
  · rintro i σ' H4 hi ⟨q6, q7, q8, q9, q10, q11, q12, q13, c4, rfl, B4, hc4⟩
    refine k2 _ S L d ps ph pc y r pn sg hp ts rs c4 _ _ _ _ _ _ _ _ _ _ H4 B4 (by omega) fun p7 p8 p9 p10 p11 p12 p13 c' H' B' hc' => ?_
    exact ⟨_, _, _, _, _, _, _, _, c', rfl, B', by omega⟩
  · rintro σ' H4 ⟨q6, q7, q8, q9, q10, q11, q12, q13, c4, rfl, B4, hc4⟩
    exact k _ H4 c4 ⟨_, _, _, _, _, _, _, _, _, _, _, _, _, rfl⟩ B4.st (by omega)
theorem ok_law (F : Fun K "law" "law" sLaw f fd) (T : LW13 P w K mg base C) : FnG P w K mg base 10 f fd ["_law_script"] (spLaw0 K) := by
  refine fng_of F scLaw (fun vs H Q E h => ?_) (fun cdv A outer s H vs Q E gd hr h => ?_)
  · obtain ⟨a, ns, rfl, _⟩ := h
    rfl
  · obtain ⟨a, ns, rfl, hA, hn, k⟩ := h
    obtain ⟨tt1, p1, k1⟩ := seg_turn (f := f) (cdv := cdv) (A := A) (outer := outer) (s0 := s) (HH := H) (E := E) T gd hr
    refine ⟨_, pss_cons (ps_set (i := 1) scLaw.nd rfl (.inl rfl) (pe_lst (pa_cons (pe_callTy call_list_of (by rfl) T.T.list (by decide +kernel) (pa_cons (pv 0) pa_nil)) (pa_cons pe_int (pa_cons pe_int (pa_cons pe_int pa_nil))))))
      (pss_cons (ps_for PassesOwn.never rfl (pi_range1 (by rfl) T.range (pa_cons pe_int pa_nil)) (pg_name (i := 2) scLaw.nd rfl (.inl rfl)) p1)
      (pss_one (ps_ret pe_bl))), ?_⟩
    refine ⟨_, rfl, a, _, rfl, .inl hA, fun l0 hl0 => ⟨(by show 4 ≤ sizeLine; decide), fun S hS => ?_⟩⟩
    have hSl : StreamAt (upd (upd H l0 (.lst (ns.map V.int))) S (.lst [.ref l0, .int 0, .int 0, .int 0])) S l0 0 := ⟨ns, 0, 0, upd_same, (upd_ne (ne_of_none upd_same hS)).trans upd_same, by decide, by decide, by decide, hn⟩
    generalize upd (upd H l0 (.lst (ns.map V.int))) S (.lst [.ref l0, .int 0, .int 0, .int 0]) = HA at hSl ⊢
    refine ⟨6, rfl, by decide, by decide, for_range (lo := 0) (n := 6) (fun i σ H2 => Sig13 S σ ∧ ∃ c, c ≤ 5300 * i ∧ StreamAt H2 S l0 c) ⟨⟨_, _, _, _, _, _, _, _, _, _, _, _, _, rfl⟩, 0, Nat.zero_le _, hSl⟩ ?_ ?_⟩
    · rintro i σ H2 hi ⟨⟨o0, o2, o3, o4, o5, o6, o7, o8, o9, o10, o11, o12, o13, rfl⟩, c, hc, hS2⟩
      exact k1 _ S l0 c _ H2 ⟨_, _, _, _, _, _, _, _, _, _, _, _, _, rfl⟩ hS2 (by omega) fun σ' H' c' hσ hS' hc' => ⟨hσ, c', by omega, hS'⟩
    · rintro σ HB _
      exact k HB
end
end K6
namespace K6
open PySem PySem.Spec PyProof.Rows L2 LamX NdefX EV
theorem walk0 {l : PySem.W.OpenLaw} {q : Program} {loose : List Str} {XP : (Str → Option Value) → Heap → Prop} {YP : World → Heap → Prop} {d : DefRec} {K : Params → PySem.W.Frag} (hn : l.most = some 63) (hdf : d.params.defaults = [])
    (hY : ∀ (w : World) (h : Heap), YP w h → (K w.params).In h)
    (F : ∀ (w : World) (mg : Str → Option Value) (fa : Addr) (h base : Heap), (K w.params).In h → h.Ns mainGlobals mg → mg d.name = some (.ref fa) →
      ∃ fd, (∀ (s : Shared) (u : Value), BindsTo s fd ⟨[u], []⟩ [("_law_script", u)]) ∧ FnG l.prog w (K w.params) mg base 10 fa fd ["_law_script"] (spLaw0 (K w.params))) :
    PySem.W.WalkO q loose XP YP l.row.toRowW d [] (fun f vs => PySem.call f vs) := by
  refine Att.attach_callB hn hdf fun w s₀ s₁ mg mb fa o pm cd doc a vs ns G Y ho hd hcd hmg hobj hints hlen hbits hg => ?_
  have KX := hY w _ Y
  refine law_callG (cs := []) KX G.T.g G.T.b G.T.builtins G.T.nolimit hg (fun p hp => nomatch hp) (fun p hp => nomatch hp) (fun p hp => nomatch hp) G.T.bmain hobj hints (Nat.le_trans hlen (by decide)) fun base H kb gb tb hH hS e0 => ?_
  obtain ⟨fd, hb, hF⟩ := F w mg fa _ base KX G.T.g hmg
  exact hF.run callerA [] s₁ H ⟨[.ref a], []⟩ [.ref a] [.ref a] _ E0 rfl ⟨rfl, by decide, by decide⟩ e0 (hb s₁ (.ref a)) (.cons rfl .nil) ⟨a, ns, rfl, hS, hlen, fun _ => rfl⟩
abbrev psInit : List Str := ["self", "signs", "clauses", "helpers"]
/-! ### what the written part says of the text -/
def frees : List Str := ["int", "len", "repr", "range", "list", "tuple", "isinstance", "str", "all", "enumerate", "sorted", "set", "bool", "dict"]
def freeB (K : PySem.W.Frag) (xs : List Str) : Bool := xs.all fun x => decide (PySem.W.nsIn K mainGlobals x = some none)
theorem freeB_ok {K : PySem.W.Frag} {xs : List Str} {h : Heap} {mg : Str → Option Value} (b : freeB K xs = true) (X : K.In h) (G : h.Ns mainGlobals mg) : ∀ x ∈ xs, mg x = none := fun x hx => by
  unfold freeB at b
  simp only [List.all_eq_true, decide_eq_true_eq] at b
  exact PySem.W.mg_none_of X G (b x hx)
def DefAt (K : PySem.W.Frag) (x : Str) (st : Stmt) (f : Addr) : Prop := PySem.W.nsIn K mainGlobals x = some (some (.ref f)) ∧ ∃ fd, Fun K x x st f fd
def fnB (K : PySem.W.Frag) (C : Addr) (m : Str) (f : Addr) : Bool := decide (PySem.W.findIn K (.ref C) m = some (some (.ref f))) && PySem.W.isFn K (.ref f) && PySem.W.keepIn K (.ref f)
theorem fnB_ok {K : PySem.W.Frag} {C f : Addr} {m : Str} (h : fnB K C m f = true) : Meth K C m f := by
  unfold fnB at h
  simp only [Bool.and_eq_true, decide_eq_true_eq] at h
  exact ⟨h.1.1, h.1.2, h.2⟩
def clB (K : PySem.W.Frag) (C : Addr) : Bool := PySem.W.plainGet K C Str.empty && PySem.W.hasDictIn K C && PySem.W.plainOver K C && decide (PySem.W.findIn K (.ref C) "__setattr__" = some (some (.builtin "object.__setattr__"))) &&
  (["own_signs", "own_helpers", "places", "rows"] : List Str).all (fun n => decide (PySem.W.findIn K (.ref C) n = some none))
theorem clB_ok {K : PySem.W.Frag} {C : Addr} (h : clB K C = true) : Cls K C ∧ NoAttr K C "own_signs" ∧ NoAttr K C "own_helpers" ∧ NoAttr K C "places" ∧ NoAttr K C "rows" := by
  unfold clB at h
  simp only [Bool.and_eq_true, decide_eq_true_eq, List.all_eq_true] at h
  obtain ⟨⟨⟨⟨h1, h2⟩, h3⟩, h4⟩, h5⟩ := h
  exact ⟨⟨h1, h2, h3, h4⟩, h5 _ (by simp), h5 _ (by simp), h5 _ (by simp), h5 _ (by simp)⟩
def mkB (K : PySem.W.Frag) (C : Addr) : Bool := PySem.W.makesIn K C && PySem.W.keepIn K (.ref C)
theorem mkB_ok {K : PySem.W.Frag} {C f : Addr} (h : mkB K C = true) (m : Meth K C "__init__" f) : Mk K C f := by
  unfold mkB at h
  simp only [Bool.and_eq_true] at h
  exact ⟨h.1, m.at_, m.fn, h.2⟩
def tclB (K : PySem.W.Frag) (C : Addr) : Bool := PySem.W.plainGet K C Str.empty && PySem.W.hasDictIn K C && PySem.W.plainOver K C && decide (PySem.W.findIn K (.ref C) "__setattr__" = some (some (.builtin "object.__setattr__"))) &&
  (["sides", "held", "watchers", "short", "steps", "followed", "chosen", "starts", "layers", "reasons", "clash"] : List Str).all (fun n => decide (PySem.W.findIn K (.ref C) n = some none))
theorem tclB_ok {K : PySem.W.Frag} {C : Addr} (h : tclB K C = true) : Cls K C ∧ ∀ n ∈ (["sides", "held", "watchers", "short", "steps", "followed", "chosen", "starts", "layers", "reasons", "clash"] : List Str), NoAttr K C n := by
  unfold tclB at h
  simp only [Bool.and_eq_true, decide_eq_true_eq, List.all_eq_true] at h
  obtain ⟨⟨⟨⟨h1, h2⟩, h3⟩, h4⟩, h5⟩ := h
  exact ⟨⟨h1, h2, h3, h4⟩, h5⟩
section
variable {P : Program} {w : World} {K : PySem.W.Frag} {mg : Str → Option Value} {base : Heap}
theorem all_tx {h : Heap} {fa C CT fNN AN fI AI fD fP fM fS fF fN fNg fU fCh fHf fA fB fG fO fMd fLo fEn fZ fi fn fop fl fp fv ft fw fc fcs fk fnu fx fdr far fto fpi fdq g3 gT0 gTn gTw gTs gTp gTl gTf gTa gTm gTb gTq : Addr} {vL vM vUn vSy vDe : Value} (X : K.In h) (G : h.Ns mainGlobals mg) (hfa : mg "law" = some (.ref fa)) (fr : freeB K frees = true)
    (aL : PySem.W.nsIn K mainGlobals "LETTERS" = some (some vL)) (eL : ∃ t, vL = .str letters t) (aM : PySem.W.nsIn K mainGlobals "MOST_LETTERS" = some (some vM)) (eM : ∃ t, vM = .int 8 t)
    (aUn : PySem.W.nsIn K mainGlobals "UNSET" = some (some vUn)) (eUn : ∃ t, vUn = .int 0 t) (aSy : PySem.W.nsIn K mainGlobals "SO" = some (some vSy)) (eSy : ∃ t, vSy = .int 1 t) (aDe : PySem.W.nsIn K mainGlobals "DENIED" = some (some vDe)) (eDe : ∃ t, vDe = .int 2 t)
    (dD : DefAt K "_law_draw" sDraw fD) (dP : DefAt K "_law_pick" sPick fP) (dM : DefAt K "_law_mixed" sMixed fM) (dS : DefAt K "_law_same" sSame fS) (dF : DefAt K "_law_fresh" sFresh fF) (dN : DefAt K "_law_names" sNames fN) (dNg : DefAt K "_law_neg" sNeg fNg) (dU : DefAt K "_law_up" sUp fU) (dCh : DefAt K "_law_chase" sChase fCh) (dHf : DefAt K "_law_half" sHalf fHf) (dA : DefAt K "_law_sided" sSided fA) (dB : DefAt K "_law_clause" sClause fB) (dG : DefAt K "_law_code" sCode fG) (dO : DefAt K "_law_once" sOnce fO) (dMd : DefAt K "_law_made" sMade fMd) (dLo : DefAt K "_law_loose" sLoose fLo) (dEn : DefAt K "_law_ends" sEnds fEn) (dZ : DefAt K "law" sLaw fZ) (di : DefAt K "is_name" sIsName fi) (dn : DefAt K "name_of" sNameOf fn) (dop : DefAt K "opposite" sOpp fop) (dl : DefAt K "literals_of" sLits fl) (dp : DefAt K "places_of" sPlaces fp) (dv : DefAt K "in_order" sInOrder fv) (dt : DefAt K "is_list" sIsList ft) (dw : DefAt K "first_wrong" sWrong fw) (dc : DefAt K "is_clause" sIsClause fc) (dcs : DefAt K "check_setting" sChkSetting fcs) (dk : DefAt K "check_clauses" sChkCl fk) (dnu : DefAt K "numbered" sNumbered fnu) (dx : DefAt K "is_index" sIsIndex fx) (ddr : DefAt K "drawings" sDrawings fdr) (dar : DefAt K "are_drawings" sAre far) (dto : DefAt K "trail_of" sTrailOf fto) (dpi : DefAt K "places_in" sPlacesIn fpi) (ddq : DefAt K "drawings_on" sDrawingsOn fdq)
    (aC : PySem.W.nsIn K mainGlobals "Code" = some (some (.ref C))) (aT : PySem.W.nsIn K mainGlobals "Trail" = some (some (.ref CT))) (aN : PySem.W.nsIn K mainGlobals "check_names" = some (some (.ref fNN))) (lN : ∃ fd, FunE K "check_names" "check_names" sChkNames fNN fd AN)
    (iI : PySem.W.findIn K (.ref C) "__init__" = some (some (.ref fI))) (nI : fnB K C "__init__" fI = true) (lI : ∃ fd, FunE K "__init__" "Code.__init__" sInit fI fd AI)
    (i3 : PySem.W.findIn K (.ref C) "clauses" = some (some (.ref g3))) (n3 : fnB K C "clauses" g3 = true) (l3 : ∃ fd, Fun K "clauses" "Code.clauses" sClauses g3 fd) (iT0 : PySem.W.findIn K (.ref CT) "__init__" = some (some (.ref gT0))) (nT0 : fnB K CT "__init__" gT0 = true) (lT0 : ∃ fd, Fun K "__init__" "Trail.__init__" sTInit gT0 fd) (iTn : PySem.W.findIn K (.ref CT) "draw_from_nothing" = some (some (.ref gTn))) (nTn : fnB K CT "draw_from_nothing" gTn = true) (lTn : ∃ fd, Fun K "draw_from_nothing" "Trail.draw_from_nothing" sNothing gTn fd) (iTw : PySem.W.findIn K (.ref CT) "watch" = some (some (.ref gTw))) (nTw : fnB K CT "watch" gTw = true) (lTw : ∃ fd, Fun K "watch" "Trail.watch" sWatch gTw fd) (iTs : PySem.W.findIn K (.ref CT) "set_so" = some (some (.ref gTs))) (nTs : fnB K CT "set_so" gTs = true) (lTs : ∃ fd, Fun K "set_so" "Trail.set_so" sSetSo gTs fd) (iTp : PySem.W.findIn K (.ref CT) "put" = some (some (.ref gTp))) (nTp : fnB K CT "put" gTp = true) (lTp : ∃ fd, Fun K "put" "Trail.put" sPut gTp fd) (iTl : PySem.W.findIn K (.ref CT) "lead" = some (some (.ref gTl))) (nTl : fnB K CT "lead" gTl = true) (lTl : ∃ fd, Fun K "lead" "Trail.lead" sLead gTl fd) (iTf : PySem.W.findIn K (.ref CT) "follow_on" = some (some (.ref gTf))) (nTf : fnB K CT "follow_on" gTf = true) (lTf : ∃ fd, Fun K "follow_on" "Trail.follow_on" sFollowOn gTf fd) (iTa : PySem.W.findIn K (.ref CT) "look_again" = some (some (.ref gTa))) (nTa : fnB K CT "look_again" gTa = true) (lTa : ∃ fd, Fun K "look_again" "Trail.look_again" sLook gTa fd) (iTm : PySem.W.findIn K (.ref CT) "has_moved" = some (some (.ref gTm))) (nTm : fnB K CT "has_moved" gTm = true) (lTm : ∃ fd, Fun K "has_moved" "Trail.has_moved" sMoved gTm fd) (iTb : PySem.W.findIn K (.ref CT) "go_back" = some (some (.ref gTb))) (nTb : fnB K CT "go_back" gTb = true) (lTb : ∃ fd, Fun K "go_back" "Trail.go_back" sGoBack gTb fd) (iTq : PySem.W.findIn K (.ref CT) "pairs" = some (some (.ref gTq))) (nTq : fnB K CT "pairs" gTq = true) (lTq : ∃ fd, Fun K "pairs" "Trail.pairs" sPairs gTq fd)
    (cC : clB K C = true) (cM : mkB K C = true) (cT : tclB K CT = true) (cN : mkB K CT = true) :
    ∃ fd, (∀ (s : Shared) (u : Value), BindsTo s fd ⟨[u], []⟩ [("_law_script", u)]) ∧ FnG P w K mg base 10 fa fd ["_law_script"] (spLaw0 K) := by
  have fz := freeB_ok fr X G
  have z_int : mg "int" = none := fz _ (by unfold frees; decide +kernel)
  have z_len : mg "len" = none := fz _ (by unfold frees; decide +kernel)
  have z_repr : mg "repr" = none := fz _ (by unfold frees; decide +kernel)
  have z_range : mg "range" = none := fz _ (by unfold frees; decide +kernel)
  have z_list : mg "list" = none := fz _ (by unfold frees; decide +kernel)
  have z_tuple : mg "tuple" = none := fz _ (by unfold frees; decide +kernel)
  have z_isinstance : mg "isinstance" = none := fz _ (by unfold frees; decide +kernel)
  have z_str : mg "str" = none := fz _ (by unfold frees; decide +kernel)
  have z_all : mg "all" = none := fz _ (by unfold frees; decide +kernel)
  have z_enumerate : mg "enumerate" = none := fz _ (by unfold frees; decide +kernel)
  have z_sorted : mg "sorted" = none := fz _ (by unfold frees; decide +kernel)
  have z_set : mg "set" = none := fz _ (by unfold frees; decide +kernel)
  have z_bool : mg "bool" = none := fz _ (by unfold frees; decide +kernel)
  have z_dict : mg "dict" = none := fz _ (by unfold frees; decide +kernel)
  obtain ⟨tL, rfl⟩ := eL
  obtain ⟨tM, rfl⟩ := eM
  have mL_ : ∃ t, mg "LETTERS" = some (.str letters t) := ⟨_, PySem.W.mg_of X G aL⟩
  have mM_ : ∃ t, mg "MOST_LETTERS" = some (.int 8 t) := ⟨_, PySem.W.mg_of X G aM⟩
  obtain ⟨tUn, rfl⟩ := eUn
  have mUn_ : ∃ t, mg "UNSET" = some (.int 0 t) := ⟨_, PySem.W.mg_of X G aUn⟩
  obtain ⟨tSy, rfl⟩ := eSy
  have mSy_ : ∃ t, mg "SO" = some (.int 1 t) := ⟨_, PySem.W.mg_of X G aSy⟩
  obtain ⟨tDe, rfl⟩ := eDe
  have mDe_ : ∃ t, mg "DENIED" = some (.int 2 t) := ⟨_, PySem.W.mg_of X G aDe⟩
  obtain ⟨aD_, fdD, FD⟩ := dD
  have mD := PySem.W.mg_of X G aD_
  have bD := FD.binds (ps := ["_law_stream", "_law_many"]) fun _ _ _ _ _ _ us hl => match us, hl with | [_, _], _ => rfl
  obtain ⟨aP_, fdP, FP⟩ := dP
  have mP := PySem.W.mg_of X G aP_
  have bP := FP.binds (ps := ["_law_stream", "_law_things"]) fun _ _ _ _ _ _ us hl => match us, hl with | [_, _], _ => rfl
  obtain ⟨aM_, fdM, FM⟩ := dM
  have mM := PySem.W.mg_of X G aM_
  have bM := FM.binds (ps := ["_law_stream", "_law_things"]) fun _ _ _ _ _ _ us hl => match us, hl with | [_, _], _ => rfl
  obtain ⟨aS_, fdS, FS⟩ := dS
  have mS := PySem.W.mg_of X G aS_
  have bS := FS.binds (ps := ["_law_found", "_law_due"]) fun _ _ _ _ _ _ us hl => match us, hl with | [_, _], _ => rfl
  obtain ⟨aF_, fdF, FF⟩ := dF
  have mF := PySem.W.mg_of X G aF_
  have bF := FF.binds (ps := ["_law_stream", "_law_taken"]) fun _ _ _ _ _ _ us hl => match us, hl with | [_, _], _ => rfl
  obtain ⟨aN_, fdN, FN⟩ := dN
  have mN := PySem.W.mg_of X G aN_
  have bN := FN.binds (ps := ["_law_stream", "_law_many"]) fun _ _ _ _ _ _ us hl => match us, hl with | [_, _], _ => rfl
  obtain ⟨aNg_, fdNg, FNg⟩ := dNg
  have mNg := PySem.W.mg_of X G aNg_
  have bNg := FNg.binds (ps := ["_law_one"]) fun _ _ _ _ _ _ us hl => match us, hl with | [_], _ => rfl
  obtain ⟨aU_, fdU, FU⟩ := dU
  have mU := PySem.W.mg_of X G aU_
  have bU := FU.binds (ps := ["_law_some", "_law_names_here"]) fun _ _ _ _ _ _ us hl => match us, hl with | [_, _], _ => rfl
  obtain ⟨aCh_, fdCh, FCh⟩ := dCh
  have mCh := PySem.W.mg_of X G aCh_
  have bCh := FCh.binds (ps := ["_law_clauses", "_law_half_here"]) fun _ _ _ _ _ _ us hl => match us, hl with | [_, _], _ => rfl
  obtain ⟨aHf_, fdHf, FHf⟩ := dHf
  have mHf := PySem.W.mg_of X G aHf_
  have bHf := FHf.binds (ps := ["_law_stream", "_law_names_here"]) fun _ _ _ _ _ _ us hl => match us, hl with | [_, _], _ => rfl
  obtain ⟨aA_, fdA, FA⟩ := dA
  have mA := PySem.W.mg_of X G aA_
  have bA := FA.binds (ps := ["_law_stream", "_law_names_here"]) fun _ _ _ _ _ _ us hl => match us, hl with | [_, _], _ => rfl
  obtain ⟨aB_, fdB, FB⟩ := dB
  have mB := PySem.W.mg_of X G aB_
  have bB := FB.binds (ps := ["_law_stream", "_law_names_here", "_law_most"]) fun _ _ _ _ _ _ us hl => match us, hl with | [_, _, _], _ => rfl
  obtain ⟨aG_, fdG, FG⟩ := dG
  have mG := PySem.W.mg_of X G aG_
  have bG := FG.binds (ps := ["_law_stream", "_law_signs", "_law_helpers", "_law_many"]) fun _ _ _ _ _ _ us hl => match us, hl with | [_, _, _, _], _ => rfl
  obtain ⟨aO_, fdO, FO⟩ := dO
  have mO := PySem.W.mg_of X G aO_
  have bO := FO.binds (ps := ["_law_clauses", "_law_names_here"]) fun _ _ _ _ _ _ us hl => match us, hl with | [_, _], _ => rfl
  obtain ⟨aMd_, fdMd, FMd⟩ := dMd
  have mMd := PySem.W.mg_of X G aMd_
  have bMd := FMd.binds (ps := ["_law_c"]) fun _ _ _ _ _ _ us hl => match us, hl with | [_], _ => rfl
  obtain ⟨aLo_, fdLo, FLo⟩ := dLo
  have mLo := PySem.W.mg_of X G aLo_
  have bLo := FLo.binds (ps := ["_law_stream", "_law_thing"]) fun _ _ _ _ _ _ us hl => match us, hl with | [_, _], _ => rfl
  obtain ⟨aEn_, fdEn, FEn⟩ := dEn
  have mEn := PySem.W.mg_of X G aEn_
  have bEn := FEn.binds (ps := ["_law_clauses", "_law_half_here", "_law_pairs"]) fun _ _ _ _ _ _ us hl => match us, hl with | [_, _, _], _ => rfl
  obtain ⟨aZ_, fdZ, FZ⟩ := dZ
  have mZ := PySem.W.mg_of X G aZ_
  have bZ := FZ.binds (ps := ["_law_script"]) fun _ _ _ _ _ _ us hl => match us, hl with | [_], _ => rfl
  obtain ⟨ai_, fdi, Fi⟩ := di
  have mi := PySem.W.mg_of X G ai_
  have bi := Fi.binds (ps := ["thing"]) fun _ _ _ _ _ _ us hl => match us, hl with | [_], _ => rfl
  obtain ⟨an_, fdn, Fn⟩ := dn
  have mn := PySem.W.mg_of X G an_
  have bn := Fn.binds (ps := ["literal"]) fun _ _ _ _ _ _ us hl => match us, hl with | [_], _ => rfl
  obtain ⟨aop_, fdop, Fop⟩ := dop
  have mop := PySem.W.mg_of X G aop_
  have bop := Fop.binds (ps := ["literal"]) fun _ _ _ _ _ _ us hl => match us, hl with | [_], _ => rfl
  obtain ⟨al_, fdl, Fl⟩ := dl
  have ml := PySem.W.mg_of X G al_
  have bl := Fl.binds (ps := ["names"]) fun _ _ _ _ _ _ us hl => match us, hl with | [_], _ => rfl
  obtain ⟨ap_, fdp, Fp⟩ := dp
  have mp := PySem.W.mg_of X G ap_
  have bp := Fp.binds (ps := ["names"]) fun _ _ _ _ _ _ us hl => match us, hl with | [_], _ => rfl
  obtain ⟨av_, fdv, Fv⟩ := dv
  have mv := PySem.W.mg_of X G av_
  have bv := Fv.binds (ps := ["places", "literals"]) fun _ _ _ _ _ _ us hl => match us, hl with | [_, _], _ => rfl
  obtain ⟨at_, fdt, Ft⟩ := dt
  have mt := PySem.W.mg_of X G at_
  have bt := Ft.binds (ps := ["thing"]) fun _ _ _ _ _ _ us hl => match us, hl with | [_], _ => rfl
  obtain ⟨aw_, fdw, Fw⟩ := dw
  have mw := PySem.W.mg_of X G aw_
  have bw := Fw.binds (ps := ["places", "things"]) fun _ _ _ _ _ _ us hl => match us, hl with | [_, _], _ => rfl
  obtain ⟨ac_, fdc, Fc⟩ := dc
  have mc := PySem.W.mg_of X G ac_
  have bc := Fc.binds (ps := ["places", "thing"]) fun _ _ _ _ _ _ us hl => match us, hl with | [_, _], _ => rfl
  obtain ⟨acs_, fdcs, Fcs⟩ := dcs
  have mcs := PySem.W.mg_of X G acs_
  have bcs := Fcs.binds (ps := ["places", "setting"]) fun _ _ _ _ _ _ us hl => match us, hl with | [_, _], _ => rfl
  obtain ⟨ak_, fdk, Fk⟩ := dk
  have mk := PySem.W.mg_of X G ak_
  have bk := Fk.binds (ps := ["places", "things"]) fun _ _ _ _ _ _ us hl => match us, hl with | [_, _], _ => rfl
  obtain ⟨anu_, fdnu, Fnu⟩ := dnu
  have mnu := PySem.W.mg_of X G anu_
  have bnu := Fnu.binds (ps := ["code"]) fun _ _ _ _ _ _ us hl => match us, hl with | [_], _ => rfl
  obtain ⟨ax_, fdx, Fx⟩ := dx
  have mx := PySem.W.mg_of X G ax_
  have bx := Fx.binds (ps := ["code", "thing"]) fun _ _ _ _ _ _ us hl => match us, hl with | [_, _], _ => rfl
  obtain ⟨adr_, fddr, Fdr⟩ := ddr
  have mdr := PySem.W.mg_of X G adr_
  have bdr := Fdr.binds (ps := ["code", "setting"]) fun _ _ _ _ _ _ us hl => match us, hl with | [_, _], _ => rfl
  obtain ⟨aar_, fdar, Far⟩ := dar
  have mar := PySem.W.mg_of X G aar_
  have bar := Far.binds (ps := ["code", "setting", "thing"]) fun _ _ _ _ _ _ us hl => match us, hl with | [_, _, _], _ => rfl
  obtain ⟨ato_, fdto, Fto⟩ := dto
  have mto := PySem.W.mg_of X G ato_
  have bto := Fto.binds (ps := ["code"]) fun _ _ _ _ _ _ us hl => match us, hl with | [_], _ => rfl
  obtain ⟨api_, fdpi, Fpi⟩ := dpi
  have mpi := PySem.W.mg_of X G api_
  have bpi := Fpi.binds (ps := ["code", "setting"]) fun _ _ _ _ _ _ us hl => match us, hl with | [_, _], _ => rfl
  obtain ⟨adq_, fddq, Fdq⟩ := ddq
  have mdq := PySem.W.mg_of X G adq_
  have bdq := Fdq.binds (ps := ["code", "trail", "given"]) fun _ _ _ _ _ _ us hl => match us, hl with | [_, _, _], _ => rfl
  obtain ⟨hd3, H3⟩ := l3
  have tq3 := fnB_ok n3
  have bq3 := H3.binds (ps := ["self"]) fun _ _ _ _ _ _ us hl => match us, hl with | [_], _ => rfl
  obtain ⟨hdT0, HT0⟩ := lT0
  have tqT0 := fnB_ok nT0
  have bqT0 := HT0.binds (ps := ["self", "many", "clauses"]) fun _ _ _ _ _ _ us hl => match us, hl with | [_, _, _], _ => rfl
  obtain ⟨hdTn, HTn⟩ := lTn
  have tqTn := fnB_ok nTn
  have bqTn := HTn.binds (ps := ["self"]) fun _ _ _ _ _ _ us hl => match us, hl with | [_], _ => rfl
  obtain ⟨hdTw, HTw⟩ := lTw
  have tqTw := fnB_ok nTw
  have bqTw := HTw.binds (ps := ["self", "index"]) fun _ _ _ _ _ _ us hl => match us, hl with | [_, _], _ => rfl
  obtain ⟨hdTs, HTs⟩ := lTs
  have tqTs := fnB_ok nTs
  have bqTs := HTs.binds (ps := ["self", "literal", "reason"]) fun _ _ _ _ _ _ us hl => match us, hl with | [_, _, _], _ => rfl
  obtain ⟨hdTp, HTp⟩ := lTp
  have tqTp := fnB_ok nTp
  have bqTp := HTp.binds (ps := ["self", "literal"]) fun _ _ _ _ _ _ us hl => match us, hl with | [_, _], _ => rfl
  obtain ⟨hdTl, HTl⟩ := lTl
  have tqTl := fnB_ok nTl
  have bqTl := HTl.binds (ps := ["self", "given"]) fun _ _ _ _ _ _ us hl => match us, hl with | [_, _], _ => rfl
  obtain ⟨hdTf, HTf⟩ := lTf
  have tqTf := fnB_ok nTf
  have bqTf := HTf.binds (ps := ["self"]) fun _ _ _ _ _ _ us hl => match us, hl with | [_], _ => rfl
  obtain ⟨hdTa, HTa⟩ := lTa
  have tqTa := fnB_ok nTa
  have bqTa := HTa.binds (ps := ["self", "denied"]) fun _ _ _ _ _ _ us hl => match us, hl with | [_, _], _ => rfl
  obtain ⟨hdTm, HTm⟩ := lTm
  have tqTm := fnB_ok nTm
  have bqTm := HTm.binds (ps := ["self", "index"]) fun _ _ _ _ _ _ us hl => match us, hl with | [_, _], _ => rfl
  obtain ⟨hdTb, HTb⟩ := lTb
  have tqTb := fnB_ok nTb
  have bqTb := HTb.binds (ps := ["self", "layer"]) fun _ _ _ _ _ _ us hl => match us, hl with | [_, _], _ => rfl
  obtain ⟨hdTq, HTq⟩ := lTq
  have tqTq := fnB_ok nTq
  have bqTq := HTq.binds (ps := ["self", "given"]) fun _ _ _ _ _ _ us hl => match us, hl with | [_, _], _ => rfl
  obtain ⟨fdNN, FNN⟩ := lN
  obtain ⟨fdI, FI⟩ := lI
  have tI := fnB_ok nI
  obtain ⟨c1, c2, c3, c4, c5⟩ := clB_ok cC
  obtain ⟨d1, dn⟩ := tclB_ok cT
  have MK := mkB_ok cM tI
  have MT := mkB_ok cN tqT0
  have T : CTxt K mg C := ⟨c1, c2, c3, c4, c5, PySem.W.mg_of X G aC, z_tuple, z_list, z_len⟩
  have TT : TTxt K mg CT := ⟨d1, dn _ (by simp), dn _ (by simp), dn _ (by simp), dn _ (by simp), dn _ (by simp), dn _ (by simp), dn _ (by simp), dn _ (by simp), dn _ (by simp), dn _ (by simp), dn _ (by simp), mUn_, mSy_, mDe_, z_len, z_list, z_range, z_enumerate⟩
  have mNN := PySem.W.mg_of X G aN
  obtain ⟨dsN, vN, bNN⟩ := FNN.short (ps := ["things", "taken"]) 1 rfl fun T kV doc pm an cdv ct us its h1 h2 => match us, h1, its, h2 with | [_], _, [_], _ => ⟨_, rfl, rfl⟩
  have bI := FI.full (ps := psInit) fun T kV doc pm an cdv ct us its h1 h2 => match us, h1, its, h2 with | [_, _, _, _], _, [_], _ => ⟨_, rfl, rfl⟩
  have GD : FnOk P w K mg base CX0 1 fD fdD _ spDraw := ok_draw FD z_int
  have GP := ok_pickL FP GD mD FD.kp bD z_len
  have GM := ok_mixed FM GD mD FD.kp bD z_len z_range z_list
  have GSp : FnG P w K mg base 1 fS fdS _ (spSameP K) := ok_sameP FS z_repr
  have GF := ok_fresh FF GD mD FD.kp bD GP mP FP.kp bP z_range z_int
  have GN := ok_names FN GF mF FF.kp bF z_range
  have GU : FnOk P w K mg base CX0 1 fU fdU _ (spUp K) := ok_up FU z_tuple
  have GA := ok_sided FA GD mD FD.kp bD GM mM FM.kp bM
  have GB := ok_clause FB GD mD FD.kp bD GA mA FA.kp bA
  have GO := ok_once FO GU mU FU.kp bU
  have GG := ok_code FG GD mD FD.kp bD GN mN FN.kp bN GB mB FB.kp bB GO mO FO.kp bO z_range
  have GNg : FnOk P w K mg base CX0 1 fNg fdNg _ spOpp := ok_neg FNg
  have GHf := ok_half FHf GD mD FD.kp bD GM mM FM.kp bM
  have GLo := ok_loose FLo GD mD FD.kp bD mLo FLo.kp bLo z_isinstance z_list z_tuple 4
  have GCh := ok_chase FCh GNg mNg FNg.kp bNg z_list z_dict z_len
  have GEn := ok_ends FEn GNg mNg FNg.kp bNg z_list
  have Gi : FnOk P w K mg base CX0 1 fi fdi _ spIsName := ok_isName Fi z_isinstance z_str z_len z_all mL_ mM_
  have Gn : FnOk P w K mg base CX0 1 fn fdn _ spNameOf := ok_nameOf Fn
  have Gop : FnOk P w K mg base CX0 1 fop fdop _ spOpp := ok_opp Fop
  have Gl : FnOk P w K mg base CX0 1 fl fdl _ (spLits K) := ok_lits Fl
  have Gp := ok_places Fp Gl ml Fl.kp bl z_enumerate
  have Gv : FnOk P w K mg base CX0 1 fv fdv _ (spInOrder K) := ok_inOrder Fv z_tuple z_sorted z_int
  have Gt : FnOk P w K mg base CX0 1 ft fdt _ (spIsList K) := ok_isList Ft z_isinstance z_list z_tuple
  have GE := ok_chkNames FNN Gi mi Fi.kp bi z_enumerate
  have Gw := ok_wrong Fw Gn mn Fn.kp bn z_enumerate z_isinstance z_str
  have Gc := ok_isClause Fc Gt mt Ft.kp bt Gw mw Fw.kp bw
  have Gk := ok_chkCl Fk Gc mc Fc.kp bc z_enumerate
  have GI := ok_init FI T GE mNN FNN.fn.kp FNN.e0 vN bNN Gp mp Fp.kp bp Gk mk Fk.kp bk Gv mv Fv.kp bv
  have G3 : FnOk P w K mg base CX0 1 g3 hd3 _ (spClauses K C) := ok_clauses H3 T
  have Gcs := ok_chkSet Fcs Gt mt Ft.kp bt Gw mw Fw.kp bw
  have Gx : FnOk P w K mg base CX0 1 fx fdx _ (spIsIndex K C) := ok_isIndex Fx T z_isinstance z_int z_bool
  have Gar := ok_are Far T Gcs mcs Fcs.kp bcs Gt mt Ft.kp bt Gx mx Fx.kp bx Gop mop Fop.kp bop G3 tq3 bq3
  have GMd := ok_made FMd T MK GI bI
  have GTw : FnOk P w K mg base CX0 1 gTw hdTw _ (spWatch CT) := ok_watch HTw TT
  have GTs : FnOk P w K mg base CX0 1 gTs hdTs _ (spSetSo CT) := ok_setSo HTs TT
  have GTm : FnOk P w K mg base CX0 1 gTm hdTm _ (spMovedT CT) := ok_moved HTm TT
  have GTa := ok_look HTa TT GTm tqTm bqTm GTs tqTs bqTs
  have GTf := ok_follow HTf TT GTa tqTa bqTa
  have GTn := ok_nothing HTn TT GTs tqTs bqTs GTf tqTf bqTf
  have GTp := ok_put HTp TT GTs tqTs bqTs GTf tqTf bqTf
  have GTb : FnOk P w K mg base CX0 1 gTb hdTb _ (spBack0 CT) := ok_back0 HTb TT
  have GTl := ok_lead HTl TT GTb tqTb bqTb GTp tqTp bqTp
  have GTq : FnOk P w K mg base CX0 1 gTq hdTq _ (spPairs CT) := ok_pairs HTq TT
  have GT0 := ok_tinit HT0 TT GTw tqTw bqTw GTn tqTn bqTn
  have Gnu : FnOk P w K mg base CX0 1 fnu fdnu _ (spNumbered K C) := ok_numbered Fnu T
  have Gpi : FnOk P w K mg base CX0 1 fpi fdpi _ (spPlacesIn K C) := ok_placesIn Fpi T
  have Gto := ok_trailOf Fto T MT (PySem.W.mg_of X G aT) GT0 bqT0 Gnu mnu Fnu.kp bnu
  have Gdq := ok_drawOn Fdq T TT GTq tqTq bqTq
  have Gdr := ok_drawings Fdr T TT Gcs mcs Fcs.kp bcs Gpi mpi Fpi.kp bpi Gto mto Fto.kp bto GTl tqTl bqTl Gdq mdq Fdq.kp bdq
  have lw : LW13 P w K mg base C := {
    T := T
    range := z_range
    isi := z_isinstance
    all := z_all
    code := ⟨_, _, GG, mG, FG.kp, bG⟩
    made := ⟨_, _, GMd, mMd, FMd.kp, bMd⟩
    half := ⟨_, _, GHf, mHf, FHf.kp, bHf⟩
    chase := ⟨_, _, GCh, mCh, FCh.kp, bCh⟩
    ends := ⟨_, _, GEn, mEn, FEn.kp, bEn⟩
    up := ⟨_, _, GU, mU, FU.kp, bU⟩
    loose := ⟨_, _, GLo, mLo, FLo.kp, bLo⟩
    are := ⟨_, _, Gar, mar, Far.kp, bar⟩
    draws := ⟨_, _, Gdr, mdr, Fdr.kp, bdr⟩
    same := ⟨_, _, GSp, mS, FS.kp, bS⟩ }
  obtain ⟨oc2, od2, kV2, doc2, pm2, an2, cdv2, ct2, osl2, e2, _⟩ := id FZ.ex
  have e := hfa.symm.trans mZ
  cases e
  refine ⟨fdZ, fun s u => ?_, ok_law FZ lw⟩
  subst e2
  exact .of_eq rfl
end
end K6
open PySem PySem.W PyProof.Rows
set_option maxRecDepth 100000 in
set_option maxHeartbeats 0 in
theorem PySem.Challenge.cw_lastopen_k13_drawings_told_holds : PySem.Challenge.rw_lastopen_k13_drawings_told.Holds := by
  w_on; o_law; k_head; (case hw => w_witness2)
  k_fill
  refine' K6.walk0 (l := PySem.Challenge.rw_lastopen_k13_drawings_told) rfl rfl (fun w h Y => PySem.W.kIn_of Y) ?F
  case F =>
    intro w mg fa h base KX G hmg
    refine' K6.all_tx KX G hmg ?fr ?aL ?eL ?aM ?eM ?aUn ?eUn ?aSy ?eSy ?aDe ?eDe ?dD ?dP ?dM ?dS ?dF ?dN ?dNg ?dU ?dCh ?dHf ?dA ?dB ?dG ?dO ?dMd ?dLo ?dEn ?dZ ?di ?dn ?dop ?dl ?dp ?dv ?dt ?dw ?dc ?dcs ?dk ?dnu ?dx ?ddr ?dar ?dto ?dpi ?ddq ?aC ?aT ?aN ?lN ?iI ?nI ?lI ?i3 ?n3 ?l3 ?iT0 ?nT0 ?lT0 ?iTn ?nTn ?lTn ?iTw ?nTw ?lTw ?iTs ?nTs ?lTs ?iTp ?nTp ?lTp ?iTl ?nTl ?lTl ?iTf ?nTf ?lTf ?iTa ?nTa ?lTa ?iTm ?nTm ?lTm ?iTb ?nTb ?lTb ?iTq ?nTq ?lTq ?cC ?cM ?cT ?cN
    (case aL => k_is); (case aM => k_is); (case aUn => k_is); (case aSy => k_is); (case aDe => k_is)
    (case eL => exact ⟨_, rfl⟩); (case eM => exact ⟨_, rfl⟩); (case eUn => exact ⟨_, rfl⟩); (case eSy => exact ⟨_, rfl⟩); (case eDe => exact ⟨_, rfl⟩)
    (case dD => refine' ⟨?uaD, _, L2.fun_mk ?ulD ?ucD ?ukD⟩; (case uaD => k_is); (case ulD => k_is); (case ucD => k_is); (case ukD => k_is))
    (case dP => refine' ⟨?uaP, _, L2.fun_mk ?ulP ?ucP ?ukP⟩; (case uaP => k_is); (case ulP => k_is); (case ucP => k_is); (case ukP => k_is))
    (case dM => refine' ⟨?uaM, _, L2.fun_mk ?ulM ?ucM ?ukM⟩; (case uaM => k_is); (case ulM => k_is); (case ucM => k_is); (case ukM => k_is))
    (case dS => refine' ⟨?uaS, _, L2.fun_mk ?ulS ?ucS ?ukS⟩; (case uaS => k_is); (case ulS => k_is); (case ucS => k_is); (case ukS => k_is))
    (case dF => refine' ⟨?uaF, _, L2.fun_mk ?ulF ?ucF ?ukF⟩; (case uaF => k_is); (case ulF => k_is); (case ucF => k_is); (case ukF => k_is))
    (case dN => refine' ⟨?uaN, _, L2.fun_mk ?ulN ?ucN ?ukN⟩; (case uaN => k_is); (case ulN => k_is); (case ucN => k_is); (case ukN => k_is))
    (case dNg => refine' ⟨?uaNg, _, L2.fun_mk ?ulNg ?ucNg ?ukNg⟩; (case uaNg => k_is); (case ulNg => k_is); (case ucNg => k_is); (case ukNg => k_is))
    (case dU => refine' ⟨?uaU, _, L2.fun_mk ?ulU ?ucU ?ukU⟩; (case uaU => k_is); (case ulU => k_is); (case ucU => k_is); (case ukU => k_is))
    (case dCh => refine' ⟨?uaCh, _, L2.fun_mk ?ulCh ?ucCh ?ukCh⟩; (case uaCh => k_is); (case ulCh => k_is); (case ucCh => k_is); (case ukCh => k_is))
    (case dHf => refine' ⟨?uaHf, _, L2.fun_mk ?ulHf ?ucHf ?ukHf⟩; (case uaHf => k_is); (case ulHf => k_is); (case ucHf => k_is); (case ukHf => k_is))
    (case dA => refine' ⟨?uaA, _, L2.fun_mk ?ulA ?ucA ?ukA⟩; (case uaA => k_is); (case ulA => k_is); (case ucA => k_is); (case ukA => k_is))
    (case dB => refine' ⟨?uaB, _, L2.fun_mk ?ulB ?ucB ?ukB⟩; (case uaB => k_is); (case ulB => k_is); (case ucB => k_is); (case ukB => k_is))
    (case dG => refine' ⟨?uaG, _, L2.fun_mk ?ulG ?ucG ?ukG⟩; (case uaG => k_is); (case ulG => k_is); (case ucG => k_is); (case ukG => k_is))
    (case dO => refine' ⟨?uaO, _, L2.fun_mk ?ulO ?ucO ?ukO⟩; (case uaO => k_is); (case ulO => k_is); (case ucO => k_is); (case ukO => k_is))
    (case dMd => refine' ⟨?uaMd, _, L2.fun_mk ?ulMd ?ucMd ?ukMd⟩; (case uaMd => k_is); (case ulMd => k_is); (case ucMd => k_is); (case ukMd => k_is))
    (case dLo => refine' ⟨?uaLo, _, L2.fun_mk ?ulLo ?ucLo ?ukLo⟩; (case uaLo => k_is); (case ulLo => k_is); (case ucLo => k_is); (case ukLo => k_is))
    (case dEn => refine' ⟨?uaEn, _, L2.fun_mk ?ulEn ?ucEn ?ukEn⟩; (case uaEn => k_is); (case ulEn => k_is); (case ucEn => k_is); (case ukEn => k_is))
    (case dZ => refine' ⟨?uaZ, _, L2.fun_mk ?ulZ ?ucZ ?ukZ⟩; (case uaZ => k_is); (case ulZ => k_is); (case ucZ => k_is); (case ukZ => k_is))
    (case di => refine' ⟨?uai, _, L2.fun_mk ?uli ?uci ?uki⟩; (case uai => k_is); (case uli => k_is); (case uci => k_is); (case uki => k_is))
    (case dn => refine' ⟨?uan, _, L2.fun_mk ?uln ?ucn ?ukn⟩; (case uan => k_is); (case uln => k_is); (case ucn => k_is); (case ukn => k_is))
    (case dop => refine' ⟨?uaop, _, L2.fun_mk ?ulop ?ucop ?ukop⟩; (case uaop => k_is); (case ulop => k_is); (case ucop => k_is); (case ukop => k_is))
    (case dl => refine' ⟨?ual, _, L2.fun_mk ?ull ?ucl ?ukl⟩; (case ual => k_is); (case ull => k_is); (case ucl => k_is); (case ukl => k_is))
    (case dp => refine' ⟨?uap, _, L2.fun_mk ?ulp ?ucp ?ukp⟩; (case uap => k_is); (case ulp => k_is); (case ucp => k_is); (case ukp => k_is))
    (case dv => refine' ⟨?uav, _, L2.fun_mk ?ulv ?ucv ?ukv⟩; (case uav => k_is); (case ulv => k_is); (case ucv => k_is); (case ukv => k_is))
    (case dt => refine' ⟨?uat, _, L2.fun_mk ?ult ?uct ?ukt⟩; (case uat => k_is); (case ult => k_is); (case uct => k_is); (case ukt => k_is))
    (case dw => refine' ⟨?uaw, _, L2.fun_mk ?ulw ?ucw ?ukw⟩; (case uaw => k_is); (case ulw => k_is); (case ucw => k_is); (case ukw => k_is))
    (case dc => refine' ⟨?uac, _, L2.fun_mk ?ulc ?ucc ?ukc⟩; (case uac => k_is); (case ulc => k_is); (case ucc => k_is); (case ukc => k_is))
    (case dcs => refine' ⟨?uacs, _, L2.fun_mk ?ulcs ?uccs ?ukcs⟩; (case uacs => k_is); (case ulcs => k_is); (case uccs => k_is); (case ukcs => k_is))
    (case dk => refine' ⟨?uak, _, L2.fun_mk ?ulk ?uck ?ukk⟩; (case uak => k_is); (case ulk => k_is); (case uck => k_is); (case ukk => k_is))
    (case dnu => refine' ⟨?uanu, _, L2.fun_mk ?ulnu ?ucnu ?uknu⟩; (case uanu => k_is); (case ulnu => k_is); (case ucnu => k_is); (case uknu => k_is))
    (case dx => refine' ⟨?uax, _, L2.fun_mk ?ulx ?ucx ?ukx⟩; (case uax => k_is); (case ulx => k_is); (case ucx => k_is); (case ukx => k_is))
    (case ddr => refine' ⟨?uadr, _, L2.fun_mk ?uldr ?ucdr ?ukdr⟩; (case uadr => k_is); (case uldr => k_is); (case ucdr => k_is); (case ukdr => k_is))
    (case dar => refine' ⟨?uaar, _, L2.fun_mk ?ular ?ucar ?ukar⟩; (case uaar => k_is); (case ular => k_is); (case ucar => k_is); (case ukar => k_is))
    (case dto => refine' ⟨?uato, _, L2.fun_mk ?ulto ?ucto ?ukto⟩; (case uato => k_is); (case ulto => k_is); (case ucto => k_is); (case ukto => k_is))
    (case dpi => refine' ⟨?uapi, _, L2.fun_mk ?ulpi ?ucpi ?ukpi⟩; (case uapi => k_is); (case ulpi => k_is); (case ucpi => k_is); (case ukpi => k_is))
    (case ddq => refine' ⟨?uadq, _, L2.fun_mk ?uldq ?ucdq ?ukdq⟩; (case uadq => k_is); (case uldq => k_is); (case ucdq => k_is); (case ukdq => k_is))
    (case aC => k_is); (case aT => k_is); (case aN => k_is); (case iI => k_is)
    (case lN => refine' ⟨_, EV.funE_mk ?xlN ?xcN ?xkN ?xTN ?xdN ?xAN ?xbN ?xeN⟩; (case xlN => k_is); (case xcN => k_is); (case xkN => k_is); (case xTN => k_is); (case xdN => exact rfl); (case xAN => k_is); (case xbN => exact rfl); (case xeN => exact rfl))
    (case lI => refine' ⟨_, EV.funE_mk ?xlI ?xcI ?xkI ?xTI ?xdI ?xAI ?xbI ?xeI⟩; (case xlI => k_is); (case xcI => k_is); (case xkI => k_is); (case xTI => k_is); (case xdI => exact rfl); (case xAI => k_is); (case xbI => exact rfl); (case xeI => exact rfl))
    (case i3 => k_is)
    (case l3 => refine' ⟨_, L2.fun_mk ?vl3 ?vc3 ?vk3⟩; (case vl3 => k_is); (case vc3 => k_is); (case vk3 => k_is))
    (case iT0 => k_is)
    (case lT0 => refine' ⟨_, L2.fun_mk ?vlT0 ?vcT0 ?vkT0⟩; (case vlT0 => k_is); (case vcT0 => k_is); (case vkT0 => k_is))
    (case iTn => k_is)
    (case lTn => refine' ⟨_, L2.fun_mk ?vlTn ?vcTn ?vkTn⟩; (case vlTn => k_is); (case vcTn => k_is); (case vkTn => k_is))
    (case iTw => k_is)
    (case lTw => refine' ⟨_, L2.fun_mk ?vlTw ?vcTw ?vkTw⟩; (case vlTw => k_is); (case vcTw => k_is); (case vkTw => k_is))
    (case iTs => k_is)
    (case lTs => refine' ⟨_, L2.fun_mk ?vlTs ?vcTs ?vkTs⟩; (case vlTs => k_is); (case vcTs => k_is); (case vkTs => k_is))
    (case iTp => k_is)
    (case lTp => refine' ⟨_, L2.fun_mk ?vlTp ?vcTp ?vkTp⟩; (case vlTp => k_is); (case vcTp => k_is); (case vkTp => k_is))
    (case iTl => k_is)
    (case lTl => refine' ⟨_, L2.fun_mk ?vlTl ?vcTl ?vkTl⟩; (case vlTl => k_is); (case vcTl => k_is); (case vkTl => k_is))
    (case iTf => k_is)
    (case lTf => refine' ⟨_, L2.fun_mk ?vlTf ?vcTf ?vkTf⟩; (case vlTf => k_is); (case vcTf => k_is); (case vkTf => k_is))
    (case iTa => k_is)
    (case lTa => refine' ⟨_, L2.fun_mk ?vlTa ?vcTa ?vkTa⟩; (case vlTa => k_is); (case vcTa => k_is); (case vkTa => k_is))
    (case iTm => k_is)
    (case lTm => refine' ⟨_, L2.fun_mk ?vlTm ?vcTm ?vkTm⟩; (case vlTm => k_is); (case vcTm => k_is); (case vkTm => k_is))
    (case iTb => k_is)
    (case lTb => refine' ⟨_, L2.fun_mk ?vlTb ?vcTb ?vkTb⟩; (case vlTb => k_is); (case vcTb => k_is); (case vkTb => k_is))
    (case iTq => k_is)
    (case lTq => refine' ⟨_, L2.fun_mk ?vlTq ?vcTq ?vkTq⟩; (case vlTq => k_is); (case vcTq => k_is); (case vkTq => k_is))
    (case fr => kernel_rfl)
    (case nI => kernel_rfl)
    (case n3 => kernel_rfl)
    (case nT0 => kernel_rfl)
    (case nTn => kernel_rfl)
    (case nTw => kernel_rfl)
    (case nTs => kernel_rfl)
    (case nTp => kernel_rfl)
    (case nTl => kernel_rfl)
    (case nTf => kernel_rfl)
    (case nTa => kernel_rfl)
    (case nTm => kernel_rfl)
    (case nTb => kernel_rfl)
    (case nTq => kernel_rfl)
    (case cC => kernel_rfl)
    (case cM => kernel_rfl)
    (case cT => kernel_rfl)
    (case cN => kernel_rfl)
