import PyProof.Rows.All
import Wide.All
import OpenK.AllK
import Wide.FinOn
import KE.KLam
import HandS.ForMost
import HandS.Exc
import HandS.ExcOwn
import HandS.TryOnly
import HandS.WordsExc
import HandS.ExcInit
import HandS.ExcIs
import HandS.ExcField
import HandS.IsInst
import HandS.ClsMeth
import HandS.Defaults
import HandS.MakeKw
import HandS.Nested
import HandS.SetFor
import HandS.Flow
import HandS.ExcValue
import PyProof.ReprRoads
import PyProof.ReprBulk
import PyProof.StrLawsRepr
import PyProof.EqKinds
import HandS.Lambda
import HandS.EndBits
import HandS.EndTab
import HandS.DictComp
import HandS.Walk
import KE.GoesMore
import PyProof.EnumMake
import PyProof.Draws
import PySem.Challenge.RW_lastopen_k05_whole_consequences
import HandS.Conv
import HandS.Star
import HandS.SetKeys
import HandS.TupLen
import HandS.OwnEq
import HandS.StrMore
import HandS.Codes
import HandS.Style
import HandS.TupAny
import HandS.NoneIn
import HandS.Deep
import HandS.SortInts
import HandS.Words
import HandS.Strs
import HandS.Set
import HandS.More
import PyProof.NeKinds
import HandS.WordsDict
import HandS.WideBits
import KE.KOpsOwn
import OpenK.KMeth
set_option Elab.async false
set_option linter.all false
set_option maxRecDepth 100000
set_option maxHeartbeats 4000000
/-! Errors of classes of one's own as values: made by place and by name, asked by isinstance, their fields read. -/
namespace PySem
namespace EK
open PySem.W PySem.Calls PyProof.Rows PySem.HandSPX
section
variable {M : Model} {prog : Program} {w : World} {A : Around} {E : Value → Shared → Prop} {R : Result → Shared → Prop} {h : Heap} {g : Array GenState} {d : Drawn} {t : Nat} {os : OsState}
variable {nm q : Str} {C N : Addr} {bs bm bmB : List Value} {hdct : Bool} {sn : List Str} {sub : List Value} {ab : Bool} {col : Option Bool} {dd : Option Addr} {k0 k1 k2 k3 k5 : Option Value} {B newId initId : String}
theorem check_new_kw (F : ExcBaseFacts B newId initId bmB) (hT : ∀ X : String, bm.contains (.type X) = bmB.contains (.type X)) {rest : List Value} {kw : List (Str × Value)} {Q : Unit → Shared → Prop}
    (hC : h.get? C = some (excClassObj nm q C N bs bm hdct sn sub ab col dd k0 k1 k2 k3 k5 newId)) (hq : Q () ⟨h, g, d, t, os⟩) : wpAny M A (checkBuiltinCall newId ⟨.ref C :: rest, kw⟩) Q E ⟨h, g, d, t, os⟩ := by
  have hcont : (Value.ref C :: bm).contains (.type B) = true := by rw [List.contains_cons, hT, F.hasB, Bool.or_true]
  have hstar := F.noStar
  simp only [checkBuiltinCall, F.newKind, F.newSplit, F.newRow]
  repeat (first | refine wpAny_loadPart_at hC ?_ | (refine wpAny_isSubtype_exc hC ?_; rw [hcont]) | refine wpAny_staticBase_exc hC ?_ | refine wpAny_madeBy_exc hC ?_ | simp only [bne_self_eq_false, Bool.false_eq_true, if_false] | wp_step)
  exact hq
theorem new_kw (F : ExcBaseFacts B newId initId bmB) (hT : ∀ X : String, bm.contains (.type X) = bmB.contains (.type X)) {rest : List Value} {kw : List (Str × Value)}
    (hC : h.get? C = some (excClassObj nm q C N bs bm hdct sn sub ab col dd k0 k1 k2 k3 k5 newId))
    (hq : R (.ok (.ret (.ref (h.objs.size + 1)))) ⟨(h.push { cls := .type "tuple", data := .seq rest.toArray }).push
      { cls := .ref C, data := .fields #[.ref h.objs.size, .none, .none, .none, .bool false, .none] }, g, d, t, os⟩) (hrest : rest.length ≤ sizeLine) :
    codeAny (model prog w) A (.builtin newId ⟨.ref C :: rest, kw⟩) R ⟨h, g, d, t, os⟩ := by
  have hends := F.ends
  have hcB : (Value.ref C :: bm).contains (.type B) = true := by rw [List.contains_cons, hT, F.hasB, Bool.or_true]
  have hcA : (Value.ref C :: bm).contains (.type "AttributeError") = false := by rw [List.contains_cons, hT, F.noAttr]; rfl
  have hcN : (Value.ref C :: bm).contains (.type "NameError") = false := by rw [List.contains_cons, hT, F.noName]; rfl
  refine codeAny_builtinAt F.entry ?_
  unfold Builtin.«BaseException.__new__»
  refine wpAt_bind ?_
  show wpAt _ _ _ (stack >>= _) _ _ _
  refine wpAt_bind (wpAt_stack fun p below => wpAt_of_wpAny ?_)
  wp_walk
  refine wpAt_of_wpAny ?_
  rw [F.owner]
  repeat (first | with_reducible refine wpAny_madeHere_exc F.canon hC ?_ | with_reducible refine wpAny_loadPart_at hC ?_ | (with_reducible refine wpAny_isSubtype_exc hC ?_; first | rw [hcB] | rw [hcA] | rw [hcN]) | wp_step)
  show R _ _
  rw [Heap.size_push]
  exact hq
theorem type_call_kw (F : ExcBaseFacts B newId initId bmB) (hT : ∀ X : String, bm.contains (.type X) = bmB.contains (.type X)) {rest : List Value} {kw : List (Str × Value)} {fI : Addr} {Q : Fin → Shared → Prop}
    (hC : h.get? C = some (excClassObj nm q C N bs bm hdct sn sub ab col dd k0 k1 k2 k3 k5 newId))
    (hi : W.Looks (model prog w) h (typeLookup (.ref C) "__init__") (some (.ref fI))) (hb : ∀ self, W.Looks (model prog w) h (bindSpecial (.ref fI) self) (.ref fI, [self])) (hrest : rest.length ≤ sizeLine)
    (hq : codeAny (model prog w) A (.call (.ref fI) ⟨.ref (h.objs.size + 1) :: rest, kw⟩)
      (fun r s' => match r with | .ok (.ret v) => v = .none ∧ Q (.done (.ret (.ref (h.objs.size + 1)))) s' | .ok _ => False | .error e => E e s')
      ⟨(h.push (W.kdv_tup rest)).push (excO C h.objs.size), g, d, t, os⟩) :
    wpAny (model prog w) A (Builtin.«type.__call__» ⟨.ref C :: rest, kw⟩) Q E ⟨h, g, d, t, os⟩ := by
  repeat (first | with_reducible refine wpAny_loadPart_at hC ?_ | with_reducible refine wpAny_madeBy_exc hC ?_ | wp_step)
  refine codeAny_call_builtin_code (Code.quiet_builtin _ F.quiet) (check_new_kw F hT hC ?_)
  refine new_kw F hT hC ?_ hrest
  show wpAny _ _ _ _ _ _
  have k : ∀ b o, h.get? b = some o → ((h.push (W.kdv_tup rest)).push (excO C h.objs.size)).get? b = some o := fun b o e => Heap.get?_push_of_some _ (Heap.get?_push_of_some _ e)
  have hC₁ := k _ _ hC
  have hget : ((h.push (W.kdv_tup rest)).push (excO C h.objs.size)).get? (h.objs.size + 1) = some (excO C h.objs.size) := by heap_get
  have hcC : (Value.ref C :: bm).contains (.ref C) = true := by simp
  have i1 := hi.keeps k
  have b1 := (hb (.ref (h.objs.size + 1))).keeps k
  unfold isInstance
  repeat (first | with_reducible refine wpAny_loadPart_at hget ?_ | (with_reducible refine wpAny_isSubtype_exc hC₁ ?_; rw [hcC]) | wp_step)
  show wpAny _ _ (typeLookup (.ref C) _) _ _ _
  refine i1.at ?_
  refine wpAny_holding (wpAny_bind (b1.at ?_))
  refine wpAny_bind (wpAny_call (codeAny_mono hq fun r s' z => ?_))
  rcases r with e | (v | _ | _ | _) <;> first | exact z | exact z.elim | skip
  obtain ⟨rfl, z⟩ := z
  first
    | exact wpAny_pure (wpAny_pure z)
    | (wp_walk; exact z)
theorem check_type_kw {rest : List Value} {kw : List (Str × Value)} {Q : Unit → Shared → Prop} (hC : h.get? C = some (excClassObj nm q C N bs bm hdct sn sub ab col dd k0 k1 k2 k3 k5 newId))
    (hq : Q () ⟨h, g, d, t, os⟩) : wpAny M A (checkBuiltinCall "type.__call__" ⟨.ref C :: rest, kw⟩) Q E ⟨h, g, d, t, os⟩ := by
  have f3 := tc_sub
  have hT : (⟨h, g, d, t, os⟩ : Shared).TypeIs (.ref C) "type" := ⟨_, hC, rfl⟩
  simp only [checkBuiltinCall, tc_kind, tc_split]
  repeat (any_goals (first | assumption | with_reducible refine wpAny_loadPart_at hC ?_ | with_reducible refine wpAny_onRaise ?_ | with_reducible refine wpAny_map ?_ | wp_step))
theorem call_kw (F : ExcBaseFacts B newId initId bmB) (hT : ∀ X : String, bm.contains (.type X) = bmB.contains (.type X)) {rest : List Value} {kw : List (Str × Value)} {fI : Addr}
    (hC : h.get? C = some (excClassObj nm q C N bs bm hdct sn sub ab col dd k0 k1 k2 k3 k5 newId))
    (hi : W.Looks (model prog w) h (typeLookup (.ref C) "__init__") (some (.ref fI))) (hb : ∀ self, W.Looks (model prog w) h (bindSpecial (.ref fI) self) (.ref fI, [self])) (hrest : rest.length ≤ sizeLine)
    (hq : codeAny (model prog w) (A.under (.builtin "type.__call__" ⟨.ref C :: rest, kw⟩)) (.call (.ref fI) ⟨.ref (h.objs.size + 1) :: rest, kw⟩) (W.InitBack (h.objs.size + 1) R)
      ⟨(h.push (W.kdv_tup rest)).push (excO C h.objs.size), g, d, t, os⟩) :
    codeAny (model prog w) A (.call (.ref C) ⟨rest, kw⟩) R ⟨h, g, d, t, os⟩ := by
  have f1 := tc_lookup
  have f2 := tc_bind (.ref C)
  have hTy : (⟨h, g, d, t, os⟩ : Shared).TypeIs (.ref C) "type" := ⟨_, hC, rfl⟩
  refine codeAny_of_tree ?_
  show wpAny _ _ (callAny (.ref C) _) _ _ _
  repeat (any_goals (first | assumption | with_reducible refine wpAny_loadPart_at hC ?_ | wp_step))
  refine ⟨rfl, ?_⟩
  refine codeAny_call_builtin_at (Code.quiet_builtin _ (by decide +kernel)) entry_typeCall (check_type_kw hC (type_call_kw F hT hC hi hb hrest ?_))
  refine codeAny_mono hq fun r s' z => ?_
  rcases r with e | (v | _ | _ | _) <;> exact z
end
end EK
end PySem
namespace PySem.W
open PySem PySem.Spec PySem.Calls PyProof.Rows
section
variable {prog : Program} {w : World} {A : Around} {E : Value → Shared → Prop} {s : Shared} {K : Frag} {x D : Addr} {ox : Obj} {od : Option Obj}
theorem find_dataN {C : Addr} {name : Str} {a g : Value} (hc : (clsIn K C).isSome = true) (ha : findIn K (.ref C) name = some (some a)) (hg : specialIn K a "__get__" = some (some g)) (ht : takesIn K a = some true) : findObj K C od name = some (.bind g a) := by
  obtain ⟨cd, hc⟩ := Option.isSome_iff_exists.mp hc
  unfold findObj
  rw [hc, Option.bind_some, ha, Option.bind_some]
  simp [hg, ht]
theorem kin_classEd {Q : Option Value → Shared → Prop} (hga : findIn K (.ref D) "__getattribute__" = some (some (.builtin "BaseException.__getattribute__"))) (hgt : findIn K (.ref D) "__getattr__" = some none) (hsub : subIn K (.ref D) (.type "BaseException") = some true)
    (hdct : hasDictIn K D = true) (ha : findIn K (.ref D) "__class__" = some (some (.builtin "object.__class__")))
    (hn : specialIn K (.builtin "object.__class__") "__get__" = some (some (.builtin "getset_descriptor.__get__"))) (htk : takesIn K (.builtin "object.__class__") = some true) (hm : mroIn K D (.type "object") = some true)
    (X : K.In s.heap) (I : InstAt s.heap x ox D od) (h : Q (some (.ref D)) { s with toks := s.toks + 1 }) : wpAny (model prog w) A (getAttr? (.ref x) "__class__") Q E s := by
  have hf : findObj K D od "__class__" = some (.bind (.builtin "getset_descriptor.__get__") (.builtin "object.__class__")) := find_dataN (by obtain ⟨cd, hc, _⟩ := any_some hdct; rw [hc]; rfl) ha hn htk
  obtain ⟨hp, g, d, t, os⟩ := s
  have L0 := I.type (M := model prog w)
  have L1 := looks_findIn (M := model prog w) X hga
  have L2 := looks_findIn (M := model prog w) X hgt
  have L3 := looks_find (M := model prog w) X I hf
  have sub : Looks (model prog w) hp (isInstance (.ref x) (.type "BaseException")) true := L0.andThen (looks_subIn X hsub)
  have hx0 : (false && onTheHeap (Value.builtin "BaseException.__getattribute__")) = false := rfl
  have hx2 : (Value.builtin "BaseException.__getattribute__" == Value.builtin "object.__getattribute__") = false := by decide +kernel
  have hx1 : (onTheHeap (Value.ref D) && Value.builtin "BaseException.__getattribute__" == Value.builtin "object.__getattribute__") = false := by rw [hx2]; rfl
  unfold getAttr? getAttrBy? getAttrBy
  refine wpAny_bind (wpAny_mkText (wpAny_bind (wpAny_attempt (wpAny_holding (wpAny_bind (L0.at (wpAny_bind (L1.at ?_))))))))
  show wpAny _ _ (if (onTheHeap (Value.ref D) && Value.builtin "BaseException.__getattribute__" == Value.builtin "object.__getattribute__") = true then _ else _) _ _ _
  rw [hx1, if_neg Bool.false_ne_true]
  unfold getAttrByItsOwn hookBefore
  refine wpAny_bind ?_
  rw [if_pos (show onTheHeap (Value.ref D) = true from rfl)]
  refine L2.at ?_
  refine wpAny_bind (wpAny_attempt (wpAny_holding ?_))
  unfold callGetattribute
  rw [hx0, if_neg Bool.false_ne_true]
  unfold boundAndCalled
  rw [PySem.F.excAttr_ValueError.ga.bind (.ref x)]
  refine wpAny_bind (wpAny_pure ?_)
  show wpAny _ _ (call (.builtin "BaseException.__getattribute__") [.ref x, .str "__class__" t]) _ _ _
  refine wpAny_call (codeAny_call_builtin PySem.F.excAttr_ValueError.ga.plain PySem.F.entry_bexc_ga ?_)
  refine @check_slot (model prog w) _ _ ⟨hp, g, d, t + 1, os⟩ "BaseException.__getattribute__" "BaseException" "__getattribute__" (.ref x) [.str "__class__" t] [] _ (by decide +kernel) (by decide +kernel) sub (PySem.F.args_bexc_ga (.ref x) (.str "__class__" t)) ?_
  unfold Builtin.«object.__getattribute__»
  refine wpAny_bind (wpAny_of_eq (a := ((Value.ref x : Value), [Value.str "__class__" t])) (by first | rfl | (simp only [slotArgs]; rfl)) ?_)
  refine wpAny_bind (wpAny_pure (wpAny_bind (L0.at (wpAny_bind (L3.at ?_)))))
  show wpAny _ _ (holding [Value.builtin "object.__class__"] (call (.builtin "getset_descriptor.__get__") [.builtin "object.__class__", .ref x, .ref D]) >>= ret) _ _ _
  refine wpAny_bind (wpAny_holding (wpAny_call (class_get (s := ⟨hp, g, d, t + 1, os⟩) (ox := ox) (od := od) X I hm ?_)))
  refine wpAny_pure ?_
  show wpAny _ _ (handedOut (.ref D)) _ _ _
  rw [handedOut_of (v := .ref D) rfl]
  first
    | exact wpAny_pure (wpAny_pure h)
    | exact wpAny_pure h
    | exact wpAny_pure (wpAny_bind (wpAny_pure (wpAny_pure h)))
theorem kitx_excd (hga : findIn K (.ref D) "__getattribute__" = some (some (.builtin "BaseException.__getattribute__"))) (hgt : findIn K (.ref D) "__getattr__" = some none) (hsub : subIn K (.ref D) (.type "BaseException") = some true) (hdct : hasDictIn K D = true) (ha : findIn K (.ref D) "__class__" = some (some (.builtin "object.__class__")))
    (hn : specialIn K (.builtin "object.__class__") "__get__" = some (some (.builtin "getset_descriptor.__get__"))) (htk : takesIn K (.builtin "object.__class__") = some true) (hm : mroIn K D (.type "object") = some true) :
    KitX K (.ref x) (.ref D) (fun h => ∃ ox od, InstAt h x ox D od) where
  ty := fun _ _ _ ⟨_, _, I⟩ => I.type
  it := fun _ _ X _ => by
    obtain ⟨cdD, hcD, _⟩ := any_some hdct
    unfold clsIn at hcD
    split at hcD
    · rename_i c' d' cd' sl' ho
      intro A' Q' E' s' k q
      unfold isType loadHead
      exact wpAny_bind (wpAny_loadPart (k _ _ (X _ _ ho)) (wpAny_pure q))
    · cases hcD
  ne := fun h tp dd its n sl X htp => by
    obtain ⟨cdD, hcD, _⟩ := any_some hdct
    refine Bool.eq_false_iff.mpr fun q => ?_
    have e : D = tp := Value.ref.inj (beq_iff_eq.mp q)
    subst e
    unfold clsIn at hcD
    split at hcD
    · rename_i c' d' cd' sl' ho
      have z := (X _ _ ho).symm.trans htp
      cases z
    · cases hcD
  ca := fun X ⟨_, _, I⟩ k => kin_classEd hga hgt hsub hdct ha hn htk hm X I k
end
end PySem.W

namespace EV
open PySem PySem.Spec PyProof.Rows L2
/-- an error of the class at C with the fields fs stands at a -/
def ErrAt (H : Hp) (a C : Addr) (fs : List (Str × V)) : Prop := (fs = [] ∧ H a = some (exo a C none)) ∨ ∃ dx, H a = some (exo a C (some dx)) ∧ H dx = some (exd dx fs)
theorem ErrAt.of_same {H H' : Hp} {a C : Addr} {fs : List (Str × V)} (e : ErrAt H a C fs) (k : ∀ b o, H b = some o → H' b = some o) : ErrAt H' a C fs := by
  rcases e with ⟨h1, h2⟩ | ⟨dx, h1, h2⟩
  · exact .inl ⟨h1, k _ _ h2⟩
  · exact .inr ⟨dx, k _ _ h1, k _ _ h2⟩
section
variable {X : Cx} {pins : List (Addr × Obj)} {σ : L2.St} {H : Hp} {s : Shared}
theorem ErrAt.inst (I : Inv X pins σ H s) {a C : Addr} {fs : List (Str × V)} (e : ErrAt H a C fs) : ∃ ox od, PySem.W.InstAt s.heap a ox C od ∧ ∀ f, RelO (fs.lookup f) ((od.bind fun o => PySem.W.lookIn f o).join) := by
  rcases e with ⟨rfl, h⟩ | ⟨dx, h1, h2⟩
  · obtain ⟨t1, ho⟩ := exo_at I.hok h
    exact ⟨_, none, ⟨ho, rfl, rfl, trivial⟩, fun f => trivial⟩
  · obtain ⟨t1, ho⟩ := exo_at I.hok h1
    obtain ⟨mA, hns, hr⟩ := exd_at I.hok h2
    obtain ⟨od, hod, hl⟩ := lookIn_ns hns
    refine ⟨_, some od, ⟨ho, rfl, rfl, hod⟩, fun f => ?_⟩
    show RelO (fs.lookup f) (PySem.W.lookIn f od).join
    rw [hl f]
    exact hr f
end
/-! ### the field of an error that is a value -/
def tEf (K : PySem.W.Frag) (f : Str) (te : TE) : TE := fun σ H Q => te σ H fun x H1 => ∃ (a C dx : Addr) (fs : List (Str × V)) (v : V), x = .ref a ∧ XfC K C ∧ PySem.W.findIn K (.ref C) f = some none ∧ H1 a = some (exo a C (some dx)) ∧ H1 dx = some (exd dx fs) ∧ fs.lookup f = some v ∧ Q v H1
theorem pe_ef {X : Cx} {e : Expr} {te : TE} {pos : Pos} {n : Str} (he : PE X e te) (hb : attributeBase e n X.env (eval e X.env) = eval e X.env := by rfl) : PE X (.Attribute e n pos) (tEf X.K n te) := by
  refine ⟨fun pins s σ H Q I h => ?_⟩
  refine attr_of hb (thn (he.run pins s σ H _ I h) fun u s1 hh => ?_)
  obtain ⟨x, H1, I1, rx, a, C, dx, fs, v, ex, T, hno, h1, h2, l, q⟩ := hh
  subst ex
  obtain rfl : u = Value.ref a := rx
  obtain ⟨t1, ho⟩ := exo_at I1.hok h1
  obtain ⟨mA, hns, hr⟩ := exd_at I1.hok h2
  obtain ⟨od, hod, hl⟩ := lookIn_ns hns
  obtain ⟨u, hu, ru⟩ := RelO.some_of (v := v) (o := mA n) (by rw [← l]; exact hr n)
  have J : PySem.W.InstAt s1.heap a _ C (some od) := ⟨ho, rfl, rfl, hod⟩
  exact HandSPX.exc_get I1.kIn J T.ga T.gg T.exC (PySem.W.findObj_own T.hdC hno rfl (by rw [hl, hu])) (handed_of ru) ⟨v, H1, I1.tok _, ru, q⟩
/-! ### isinstance of it -/
def rIsX (K : PySem.W.Frag) : List V → Hp → VK → Prop := fun xs H Q => ∃ (a D : Addr) (fs : List (Str × V)) (c : V) (cv : Value) (b : Bool), xs = [.ref a, c] ∧ ErrAt H a D fs ∧ ClsV c cv ∧ ExcC K D ∧ PySem.W.kitOne K (.ref D) cv = some b ∧ Q (.bl b) H
theorem call_isX {X : Cx} : CallR X (.builtin "isinstance") (rIsX X.K) := by
  intro pins s σ H xs us Q I r h
  obtain ⟨a, D, fs, c, cv, b, rfl, ea, k, C, e, q⟩ := h
  obtain ⟨u1, u2, rfl, r1, r2⟩ := vals2 r
  have e2 := k.eq r2
  subst e2
  cases (show u1 = Value.ref a from r1)
  obtain ⟨ox, od, J, _⟩ := ea.inst I
  exact PySem.W.kia_one (PySem.W.kitx_excd C.hg C.hk C.hs C.hd C.ha C.hn C.ht C.hm) I.kIn ⟨_, _, J⟩ e (fun z => nomatch z) fun tk => ⟨.bl b, H, I.tok tk, rfl, q⟩
/-! ### made -/
section
variable {X : Cx} {CX : CXT} {k : Nat} {C fI : Addr} {fd : FuncData} {ps : List Str} {sp : Sp} {E : XK} {x : Str} {p pos : Pos} {e : Expr} {es : List Expr} {ta : TA}
theorem run_mkE {pins : List (Addr × Obj)} {σ : L2.St} {H : Hp} {s : Shared} {Q : VK} {us ws : List Value} {kw : List (Str × Value)} {zs : List V} (T : OexC X.K C) (iC : PySem.W.findIn X.K (.ref C) "__init__" = some (some (.ref fI))) (tI : PySem.W.typeIn X.K (.ref fI) = some (.type "function"))
    (F : FnOk X.prog X.w X.K X.mg X.base CX k fI fd ps sp) (hr : Room (k + 1) X.A) (hx : Passes CX X E) (I : Inv X pins σ H s) (hus : us.length ≤ 1000)
    (bt : ∀ (s' : Shared) (self : Value), X.K.In s'.heap → (self :: ws).length = ps.length → BindsTo s' fd ⟨self :: us, kw⟩ (ps.zip (self :: ws))) (r : Vals zs ws)
    (h : ∀ a, H a = none → sp (.ref a :: zs) (upd H a (exo a C none)) (fun v H2 => v = .non ∧ Q (.ref a) H2) E) :
    wpAny (model X.prog X.w) X.A (call (.ref C) us kw) (EP X pins σ Q) X.xe s := by
  obtain ⟨nm, q, N, bs, bm, sn, sub, ab, col, dd, k0, k1, k2, k3, k5, hC, hbm⟩ := T.cls
  obtain ⟨hp, g, dr, tk, os⟩ := s
  have hsz : hp.objs.size ≤ hp.objs.size + 1 := Nat.le_succ _
  have hn : H (hp.objs.size + 1) = none := I.hok.fresh hsz
  have hq := h (hp.objs.size + 1) hn
  have kk : ∀ b o, hp.get? b = some o → ((hp.push (PySem.W.kdv_tup us)).push (PySem.HandSPX.excO C hp.objs.size)).get? b = some o := fun b o e => Heap.get?_push_of_some _ (Heap.get?_push_of_some _ e)
  have hget : ((hp.push (PySem.W.kdv_tup us)).push (PySem.HandSPX.excO C hp.objs.size)).get? (hp.objs.size + 1) = some (PySem.HandSPX.excO C hp.objs.size) := by heap_get
  have I2 : Inv X pins σ (upd H (hp.objs.size + 1) (exo (hp.objs.size + 1) C none)) ⟨(hp.push (PySem.W.kdv_tup us)).push (PySem.HandSPX.excO C hp.objs.size), g, dr, tk, os⟩ :=
    I.laid (t' := tk) (a := hp.objs.size + 1) (o := exo (hp.objs.size + 1) C none) (h' := (hp.push (PySem.W.kdv_tup us)).push (PySem.HandSPX.excO C hp.objs.size)) kk hsz (exo_ok hget)
  have r2 : Vals (V.ref (hp.objs.size + 1) :: zs) (Value.ref (hp.objs.size + 1) :: ws) := .cons rfl r
  have hl : (Value.ref (hp.objs.size + 1) :: ws).length = ps.length := by
    have e := r2.length
    rw [F.len _ _ _ _ hq] at e
    exact e.symm
  have hus2 : us.length ≤ sizeLine := by
    rw [sizeLine_eq]
    omega
  refine wpAny_call (PySem.EK.call_kw PySem.F.excBase_ValueError (fun Y => PySem.HandSPX.refsVE_contains Y bm hbm) (I.kIn _ _ hC) (PySem.W.looks_findIn I.kIn iC) (fun self => PySem.W.bind_fn I.kIn self tI) hus2
    (codeAny_mono (F.run _ X.stack _ _ ⟨Value.ref (hp.objs.size + 1) :: us, kw⟩ (Value.ref (hp.objs.size + 1) :: ws) _ _ E (hr.make C us kw) (I2.env0.make C us kw) (bt _ _ I2.kIn hl) r2 hq) fun r s' hq' => ?_))
  cases r with
  | error er => exact hx pins σ _ _ er s' I2 hq'
  | ok fl =>
    cases fl with
    | ret u =>
      obtain ⟨v, H', I3, rv, ev, q3⟩ := I2.after hq'
      subst ev
      exact ⟨rv, ⟨V.ref (hp.objs.size + 1), H', I3, rfl, q3⟩⟩
    | next => exact False.elim hq'
    | brk => exact False.elim hq'
    | cont => exact False.elim hq'
/-- C(e, ..) and C(), the error as a value; C's own __init__ keeps sp -/
def tMkE (C : Addr) (sp : Sp) (E : XK) (ta : TA) : TE := fun σ H Q => ta σ H fun vs H1 => vs.length ≤ 1000 ∧ ∀ a, H1 a = none → sp (.ref a :: vs) (upd H1 a (exo a C none)) (fun v H2 => v = .non ∧ Q (.ref a) H2) E
/-- C(k = v, ..) -/
def tMkEk (C : Addr) (m : Nat) (sp : Sp) (E : XK) (gV : List V → List V) (tk : TA) : TE := fun σ H Q => tk σ H fun zs H1 => zs.length = m ∧ ∀ a, H1 a = none → sp (.ref a :: gV zs) (upd H1 a (exo a C none)) (fun v H2 => v = .non ∧ Q (.ref a) H2) E
theorem pe_mkE (T : OexC X.K C) (iC : PySem.W.findIn X.K (.ref C) "__init__" = some (some (.ref fI))) (tI : PySem.W.typeIn X.K (.ref fI) = some (.type "function")) (F : FnOk X.prog X.w X.K X.mg X.base CX k fI fd ps sp) (hr : Room (k + 1) X.A) (hb : Binds X.K fd ps []) (hx : Passes CX X E)
    (hg : Gl X x) (hm : X.mg x = some (.ref C)) (ha : PA X (e :: es) ta)
    (hdb : (x == ("__debug__" : Str)) = false := by decide) (he : starEach (e :: es) X.env = (false, eval e X.env) :: starEach es X.env := by rfl) (hpl : (backTo pos (starEach es X.env)).any (·.1) = false := by rfl) :
    PE X (.Call (.Name x p) (e :: es) [] pos) (tMkE C sp E ta) := by
  refine ⟨fun pins s σ H Q I h => ?_⟩
  refine wpAny_Call_Name_kw (ld_glob I hg hm ?_ hdb)
  refine PySem.W.callWith_K (h₀ := X.base) I.ok.mod.kin T.kC (thn (ha.run pos pins s σ H _ I h) fun us s1 ⟨vs, H1, I1, r1, hz, q1⟩ => ⟨I1.kIn, ?_⟩) he hpl
  refine run_mkE (ws := us) T iC tI F hr hx I1 (by show us.length ≤ 1000; rw [← r1.length]; exact hz) (fun s' self hk hl => ?_) r1 q1
  have z := hb s' (self :: us) hk (by rw [List.append_nil]; exact hl)
  rw [List.append_nil] at z
  exact z
theorem pe_mkE0 (T : OexC X.K C) (iC : PySem.W.findIn X.K (.ref C) "__init__" = some (some (.ref fI))) (tI : PySem.W.typeIn X.K (.ref fI) = some (.type "function")) (F : FnOk X.prog X.w X.K X.mg X.base CX k fI fd ps sp) (hr : Room (k + 1) X.A) (hb : Binds X.K fd ps []) (hx : Passes CX X E)
    (hg : Gl X x) (hm : X.mg x = some (.ref C)) (hdb : (x == ("__debug__" : Str)) = false := by decide) :
    PE X (.Call (.Name x p) [] [] pos) (tMkE C sp E tNil) := by
  refine ⟨fun pins s σ H Q I h => ?_⟩
  refine wpAny_Call_Name_kw (ld_glob I hg hm ?_ hdb)
  obtain ⟨_, h⟩ := (show ([] : List V).length ≤ 1000 ∧ _ from h)
  refine PySem.W.callWith_K0 I.kIn T.kC (run_mkE (us := []) (ws := []) (kw := []) T iC tI F hr hx I (by decide) (fun s' self hk hl => ?_) .nil h)
  have z := hb s' [self] hk hl
  exact z
theorem pe_mkEk {ks : List Str} {g : List Value → List Value} {gV : List V → List V} {kws : List Keyword} {tk : TA} (T : OexC X.K C) (iC : PySem.W.findIn X.K (.ref C) "__init__" = some (some (.ref fI))) (tI : PySem.W.typeIn X.K (.ref fI) = some (.type "function"))
    (F : FnOk X.prog X.w X.K X.mg X.base CX k fI fd ps sp) (hr : Room (k + 1) X.A) (hx : Passes CX X E)
    (hb : ∀ (s' : Shared) (self : Value) (ws : List Value), ws.length = ks.length → BindsTo s' fd ⟨[self], ks.zip ws⟩ (ps.zip (self :: g ws))) (hrel : ∀ {zs : List V} {ws : List Value}, Vals zs ws → zs.length = ks.length → Vals (gV zs) (g ws))
    (hg : Gl X x) (hm : X.mg x = some (.ref C)) (hkw : PK X kws tk)
    (hall : (backToKw pos (keywordEach kws X.env)).all (·.1.isSome) = true := by rfl) (hks : (backToKw pos (keywordEach kws X.env)).filterMap (·.1) = ks := by rfl) (hdb : (x == ("__debug__" : Str)) = false := by decide)
    (hpl : ((backTo pos (starEach [] X.env)).any (·.1) || (backToKw pos (keywordEach kws X.env)).any (·.1.isNone)) = false := by rfl) :
    PE X (.Call (.Name x p) [] kws pos) (tMkEk C ks.length sp E gV tk) := by
  refine ⟨fun pins s σ H Q I h => ?_⟩
  refine wpAny_Call_Name_kw (ld_glob I hg hm ?_ hdb)
  refine PySem.W.callWith_KW0 (h₀ := X.base) I.ok.mod.kin T.kC hall ?_ hpl
  refine thn (hkw.run pos pins s σ H _ I h) fun ws s2 ⟨zs, H2, I2, rz, l2, q2⟩ => ⟨I2.kIn, ?_⟩
  rw [hks]
  exact run_mkE (us := []) T iC tI F hr hx I2 (by decide) (fun s' self hk hl => hb s' self ws (by rw [← rz.length]; exact l2)) (hrel rz l2) q2
/-- an error class without an __init__ of its own, made with nothing -/
theorem pe_exc0 {bmB : List Value} {B newId initId : String} (F : ExcBaseFacts B newId initId bmB) (q : PySem.W.excIn X.K C bmB newId = true) (hm : X.mg x = some (.ref C)) (kC : PySem.W.keepIn X.K (.ref C) = true) (hg : Gl X x) (hdb : (x == ("__debug__" : Str)) = false := by decide) :
    PE X (.Call (.Name x p) [] [] pos) (fun σ H Q => ∀ a, H a = none → Q (.ref a) (upd H a (exo a C none))) := by
  refine ⟨fun pins s σ H Q I h => ?_⟩
  refine wpAny_Call_Name_kw (ld_glob I hg hm ?_ hdb)
  refine PySem.W.callWith_K0 I.kIn kC ?_
  obtain ⟨bm, N, nm, qn, bs, hdct, sn, sub, ab, col, dd, k0, k1, k2, k3, k5, mN, hC, hN, hni, T⟩ := exc_obj I.kIn q
  refine wpAny_call_exc_subT F T hC hN hni (fun h' a hm => ?_) (by show 0 ≤ sizeLine; exact Nat.zero_le _)
  have hn : H a = none := I.hok.gone hm.new
  obtain ⟨t, ht, _, _⟩ := hm.there
  exact ⟨.ref a, upd H a (exo a C none), I.laidN hm.keeps hm.new hn (exo_ok ht), rfl, h a hn⟩
/-- Base.__init__(self, ..), Base an own error class without an __init__ of its own -/
theorem pe_binit {pl : Sem Bool} {O : Addr} {p1 p2 : Pos} (r : ClX.CRead X.K O (.type "type")) (vV : PySem.W.findCls X.K (.ref O) (.type "type") "__init__" = some (.val (.builtin "ValueError.__init__"))) (hg : Gl X x) (hm : X.mg x = some (.ref O)) (ha : PA X (e :: es) ta)
    (hdb : (x == ("__debug__" : Str)) = false := by decide)
    (hc : eval (.Call (.Attribute (.Name x p1) "__init__" p2) (e :: es) [] pos) X.env = (do
      let ov ← eval (.Name x p1) X.env
      standAt p2.atName
      let (f, first) ← holding [ov] (getMethod ov "__init__" pl)
      callWith pos f first (backTo pos (starEach (e :: es) X.env)) (backToKw pos (keywordEach [] X.env))) := by rfl)
    (he : starEach (e :: es) X.env = (false, eval e X.env) :: starEach es X.env := by rfl) (hpl : (backTo pos (starEach es X.env)).any (·.1) = false := by rfl) :
    PE X (.Call (.Attribute (.Name x p1) "__init__" p2) (e :: es) [] pos) (tVeI X.K ta) := by
  refine ⟨fun pins s σ H Q I h => ?_⟩
  refine PySem.W.methodCall_KW (ld_glob I hg hm ?_ hdb) hc
  refine PySem.W.method_cls I.kIn r.ga (PySem.W.cls_value I.kIn r.rd vV (by decide +kernel) ?_)
  show wpAny _ _ (callWith pos (Value.builtin "ValueError.__init__") [] (backTo pos (starEach (e :: es) X.env)) []) _ _ _
  refine PyProof.Rows.callWith_method1 (thn (ha.run pos pins _ σ H _ (I.tok _) h) fun us s1 ⟨vs, H1, I1, r1, a, C, ws, ev, hl, T, ea, q⟩ => ?_) he hpl
  subst ev
  cases r1 with
  | @cons _ u0 _ ur ra rw' =>
    obtain rfl : u0 = Value.ref a := ra
    have hlen : ur.length ≤ sizeLine := by
      rw [← Paired.length rw', sizeLine_eq]
      omega
    exact oinit_ok T I1 ea hlen fun s' J => ⟨.non, H1, J, rfl, q⟩
end
end EV
namespace EV
open PySem PySem.Spec PyProof.Rows L2
/-! ### data with dicts, to be shown -/
def keyD : Key → PyData
  | .inl i => .int i
  | .inr x => .str x
mutual
inductive Dq (K : PySem.W.Frag) (H : Hp) : V → PyData → Prop
  | non : Dq K H .non .none
  | bl (b : Bool) : Dq K H (.bl b) (.bool b)
  | int (i : Int) : Dq K H (.int i) (.int i)
  | str (x : Str) : Dq K H (.str x) (.str x)
  | lst {a : Addr} {xs : List V} {ds : List PyData} : SqL K H a xs → a ≠ sysModules → DqAll K H xs ds → Dq K H (.ref a) (.list ds)
  | tup {a : Addr} {xs : List V} {ds : List PyData} : SqT K H a xs → DqAll K H xs ds → Dq K H (.ref a) (.tuple ds)
  | dct {a : Addr} {kvs : List (Key × V)} {ds : List PyData} : H a = some (.dK kvs) → DqAll K H (kvs.map (·.2)) ds → Dq K H (.ref a) (.dict ((kvs.map fun p => keyD p.1).zip ds))
inductive DqAll (K : PySem.W.Frag) (H : Hp) : List V → List PyData → Prop
  | nil : DqAll K H [] []
  | cons {v : V} {vs : List V} {d : PyData} {ds : List PyData} : Dq K H v d → DqAll K H vs ds → DqAll K H (v :: vs) (d :: ds)
end
theorem DqAll.len {K : PySem.W.Frag} {H : Hp} : ∀ {vs : List V} {ds : List PyData}, DqAll K H vs ds → vs.length = ds.length
  | _, _, .nil => rfl
  | _, _, .cons _ t => congrArg Nat.succ (DqAll.len t)
section
variable {X : Cx} {pins : List (Addr × Obj)} {σ : L2.St} {H : Hp} {s : Shared}
theorem keys_read {h : Heap} : ∀ {es : List DictEntry} {vs : List (Key × Value)}, Pairs (mixKind X.prog X.w) es vs → ReadsAll h (es.map (·.key)) (vs.map fun p => keyD p.1) []
  | _, _, .nil => .nil
  | _, _, .cons (e := e) (kv := kv) h1 h2 t => by
    have r := keys_read (h := h) t
    have one : Reads h e.key (keyD kv.1) [] := by
      rcases keyIs_shape (show keyIs kv.1 e.key = true from h1) with ⟨i, tk, e1, e2⟩ | ⟨y, tk, e1, e2⟩
      · rw [e1, e2]
        exact .int i tk
      · rw [e1, e2]
        exact .str y tk
    exact .cons one r
theorem vals_are : ∀ {es : List DictEntry} {vs : List (Key × Value)}, Pairs (mixKind X.prog X.w) es vs → es.map (·.val) = vs.map (·.2)
  | _, _, .nil => rfl
  | _, _, .cons h1 h2 t => by
    rw [List.map_cons, List.map_cons, h2, vals_are t]
theorem kv_vals : ∀ {kvs : List (Key × V)} {vs : List (Key × Value)}, KV kvs vs → Vals (kvs.map (·.2)) (vs.map (·.2))
  | _, _, .nil => .nil
  | _, _, .cons r t => .cons r.2 (kv_vals t)
theorem kv_keys : ∀ {kvs : List (Key × V)} {vs : List (Key × Value)}, KV kvs vs → kvs.map (fun p => keyD p.1) = vs.map (fun p => keyD p.1)
  | _, _, .nil => rfl
  | _, _, .cons r t => by rw [List.map_cons, List.map_cons, r.1, kv_keys t]
theorem zip_fst {α β : Type} : ∀ {l : List α} {m : List β}, l.length = m.length → (l.zip m).map (·.1) = l
  | [], [], _ => rfl
  | a :: l, b :: m, h => by rw [List.zip_cons_cons, List.map_cons, zip_fst (Nat.succ.inj h)]
theorem zip_snd {α β : Type} : ∀ {l : List α} {m : List β}, l.length = m.length → (l.zip m).map (·.2) = m
  | [], [], _ => rfl
  | a :: l, b :: m, h => by rw [List.zip_cons_cons, List.map_cons, zip_snd (Nat.succ.inj h)]
mutual
theorem Dq.reads (I : Inv X pins σ H s) : ∀ {v : V} {d : PyData} {u : Value}, Dq X.K H v d → RelV v u → ∃ as, Reads s.heap u d as ∧ sysModules ∉ as
  | _, _, _, .non, r => by cases r; exact ⟨_, .none, by simp⟩
  | _, _, _, .bl b, r => by cases r; exact ⟨_, .bool b, by simp⟩
  | _, _, _, .int i, r => by obtain ⟨t, rfl⟩ := r; exact ⟨_, .int i t, by simp⟩
  | _, _, _, .str x, r => by obtain ⟨t, rfl⟩ := r; exact ⟨_, .str x t, by simp⟩
  | _, _, _, .lst hs ne ha, r => by
    cases r
    obtain ⟨its, rv, ⟨o, n, ho, hc, _, hd⟩, _⟩ := I.list hs
    obtain ⟨as, hr, hn⟩ := DqAll.reads I ha rv
    refine ⟨_, Reads.list ho hc hd hr, fun z => ?_⟩
    rcases List.mem_cons.mp z with e | e
    · exact ne e.symm
    · exact hn e
  | _, _, _, .tup hs ha, r => by
    cases r
    obtain ⟨its, rv, ⟨o, ho, hc, n, hd⟩, _⟩ := I.tuple hs
    obtain ⟨as, hr, hn⟩ := DqAll.reads I ha rv
    exact ⟨_, Reads.tuple ho hc hd hr, hn⟩
  | _, _, _, .dct (a := a) (kvs := kvs) (ds := ds) he ha, r => by
    cases r
    obtain ⟨_, hsm, vs, kv, o, es, ep, ho, hx, hd, _, hp, _⟩ := (show ObjOk X.prog X.w H s.heap a (.dK kvs) from I.hok a _ he)
    obtain ⟨as, hr, hn⟩ := DqAll.reads I ha (kv_vals kv)
    have hl : (kvs.map fun p => keyD p.1).length = ds.length := by rw [List.length_map, ← ha.len, List.length_map]
    have hk := keys_read (h := s.heap) hp
    refine ⟨_, Reads.dict (as := []) (bs := as) ho hx.1 hd ?_ ?_, fun z => ?_⟩
    · rw [zip_fst hl, kv_keys kv]
      exact hk
    · rw [zip_snd hl, vals_are hp]
      exact hr
    · rcases List.mem_cons.mp z with e | e
      · exact (beq_eq_false_iff_ne.mp hsm) e.symm
      · exact hn e
theorem DqAll.reads (I : Inv X pins σ H s) : ∀ {vs : List V} {ds : List PyData} {us : List Value}, DqAll X.K H vs ds → Vals vs us → ∃ as, ReadsAll s.heap us ds as ∧ sysModules ∉ as
  | _, _, _, .nil, r => by cases r; exact ⟨_, .nil, by simp⟩
  | _, _, _, .cons h1 h2, r => by
    cases r with
    | cons r1 r2 =>
      obtain ⟨as, q1, n1⟩ := Dq.reads I h1 r1
      obtain ⟨bs, q2, n2⟩ := DqAll.reads I h2 r2
      exact ⟨_, .cons q1 q2, fun z => (List.mem_append.mp z).elim n1 n2⟩
end
end
theorem sqT_same {K : PySem.W.Frag} {H H' : Hp} (k : ∀ b o, H b = some o → H' b = some o) {a : Addr} {xs : List V} (h : SqT K H a xs) : SqT K H' a xs := by
  rcases h with (h | ⟨o, h⟩) | h
  · exact .inl (.inl (k _ _ h))
  · exact .inl (.inr ⟨o, k _ _ h⟩)
  · exact .inr h
mutual
theorem Dq.same {K : PySem.W.Frag} {H H' : Hp} (k : ∀ b o, H b = some o → H' b = some o) : ∀ {v : V} {d : PyData}, Dq K H v d → Dq K H' v d
  | _, _, .non => .non
  | _, _, .bl b => .bl b
  | _, _, .int i => .int i
  | _, _, .str x => .str x
  | _, _, .lst hs ne ha => .lst (Same.seq k hs) ne (DqAll.same k ha)
  | _, _, .tup hs ha => .tup (sqT_same k hs) (DqAll.same k ha)
  | _, _, .dct he ha => .dct (k _ _ he) (DqAll.same k ha)
theorem DqAll.same {K : PySem.W.Frag} {H H' : Hp} (k : ∀ b o, H b = some o → H' b = some o) : ∀ {vs : List V} {ds : List PyData}, DqAll K H vs ds → DqAll K H' vs ds
  | _, _, .nil => .nil
  | _, _, .cons h t => .cons (Dq.same k h) (DqAll.same k t)
end
/-! ### repr -/
def rRepr (K : PySem.W.Frag) : List V → Hp → VK → Prop := fun xs H Q => ∃ (x : V) (d : PyData), xs = [x] ∧ Dq K H x d ∧ d.showable = true ∧ d.shown.length ≤ sizeLine ∧ d.depth ≤ 60 ∧ Q (.str d.shown) H
theorem call_reprD {X : Cx} (hg : X.A.guards = some []) (hu : X.A.units + 64 < cLine) : CallR X (.builtin "repr") (rRepr X.K) := by
  intro pins s σ H xs us Q I r h
  obtain ⟨x, d, rfl, hd, hs, hz, hdp, q⟩ := h
  obtain ⟨u, rfl, ru⟩ := r.one
  cases hd with
  | non =>
    cases ru
    exact PySem.P.repr_of_none ⟨.str _, H, I.tok _, ⟨_, rfl⟩, q⟩
  | bl b =>
    cases ru
    refine PySem.P.repr_of_bool ⟨.str _, H, I.tok _, ⟨_, rfl⟩, ?_⟩
    cases b <;> exact q
  | int i =>
    obtain ⟨t, rfl⟩ := ru
    exact PySem.P.repr_of_int (by simpa [PyData.showable] using hs) ⟨.str _, H, I.tok _, ⟨_, rfl⟩, q⟩
  | str y =>
    obtain ⟨t, rfl⟩ := ru
    exact PySem.P.repr_of_str ⟨.str _, H, I.tok _, ⟨_, rfl⟩, q⟩ hz
  | lst h1 h2 h3 =>
    obtain ⟨as, hr, hn⟩ := Dq.reads I (.lst h1 h2 h3) ru
    cases ru
    exact repr_of_reads' hr hs (fun _ => hn) hg (by omega) (fun _ _ e => e) (fun h' u tk k => ⟨.str _, H, I.kept k, ⟨u, rfl⟩, q⟩) hz
  | tup h1 h2 =>
    obtain ⟨as, hr, hn⟩ := Dq.reads I (.tup h1 h2) ru
    cases ru
    exact repr_of_reads' hr hs (fun _ => hn) hg (by omega) (fun _ _ e => e) (fun h' u tk k => ⟨.str _, H, I.kept k, ⟨u, rfl⟩, q⟩) hz
  | dct h1 h2 =>
    obtain ⟨as, hr, hn⟩ := Dq.reads I (.dct h1 h2) ru
    cases ru
    exact repr_of_reads' hr hs (fun _ => hn) hg (by omega) (fun _ _ e => e) (fun h' u tk k => ⟨.str _, H, I.kept k, ⟨u, rfl⟩, q⟩) hz
/-! ### a list display: its place is told to be a new one -/
def tLstB (t : TA) : TE := fun σ H Q => t σ H fun xs H1 => xs.length ≤ sizeLine ∧ ∀ p, H1 p = none → p ≠ sysModules → Q (.ref p) (upd H1 p (.lst xs))
theorem pe_lstB {X : Cx} {es : List Expr} {t : TA} {pos : Pos} (h : PA X es t) : PE X (.List es pos) (tLstB t) := ⟨fun pins s σ H Q I hq =>
  wpAny_List_spliced (thn (h.run pos pins s σ H _ I hq) fun us s1 ⟨xs, H1, I1, r, z, q⟩ => ⟨r.length ▸ z, .ref s1.heap.objs.size, upd H1 s1.heap.objs.size (.lst xs),
    I1.laid (t' := s1.toks) (fun _ _ e => Heap.get?_push_of_some _ e) (Nat.le_refl _) ⟨z, us, 0, r, Heap.get?_push_size _ rfl⟩, rfl, q _ (I1.hok.fresh (Nat.le_refl _)) (Nat.ne_of_gt I1.big)⟩)⟩
/-! ### xs.count(True), xs a list of truth values -/
def isTrueV : Value → Bool
  | .bool b => b
  | _ => false
def rCntT (K : PySem.W.Frag) : V → List V → Hp → VK → Prop := fun x xs H Q => ∃ (p : Addr) (bs : List Bool), x = .ref p ∧ xs = [.bl true] ∧ SqL K H p (bs.map V.bl) ∧ Q (.int (bs.countP id : Nat)) H
theorem true_count : ∀ {bs : List Bool} {us : List Value}, Vals (bs.map V.bl) us → us.countP isTrueV = bs.countP id ∧ ∀ y ∈ us, ∃ b, y = .bool b
  | [], _, r => by cases r; exact ⟨rfl, fun _ h => nomatch h⟩
  | b :: bs, _, r => by
    cases r with
    | cons r1 r2 =>
      cases r1
      obtain ⟨h1, h2⟩ := true_count r2
      refine ⟨?_, fun y hy => ?_⟩
      · rw [List.countP_cons, List.countP_cons, h1] <;> rfl
      · rcases List.mem_cons.mp hy with e | e
        · exact ⟨b, e⟩
        · exact h2 y e
theorem mt_countT {X : Cx} : MtR X "list.count" (rCntT X.K) := by
  intro pins s σ H x xs v us Q I rx rxs h
  obtain ⟨p, bs, rfl, rfl, hs, q⟩ := h
  cases rx
  obtain ⟨u, rfl, ru⟩ := rxs.one
  cases ru
  obtain ⟨its, rv, ⟨⟨cls, dd, data, sl⟩, n, ho, hc, hdn, hd⟩, hlen⟩ := I.list hs
  simp only at hc hd
  subst hc hd
  obtain ⟨ec, eb⟩ := true_count rv
  refine call_meets PySem.F.slot_list_count ⟨_, ho, rfl⟩ PySem.F.entry_list_count (PySem.F.args_list_count_2 _ _)
    (SeqAt.list_countAt p its.toArray n dd sl (.bool true) isTrueV) ⟨ho, fun y hy => ?_, .int (bs.countP id : Nat), H, I.tok _, ⟨s.toks, ?_⟩, q⟩
  · obtain ⟨b, rfl⟩ := eb y (by simpa using hy)
    have z := SeqAt.EqAt.bool_bool (A := X.A.in1) (s := s) b true
    rw [show (b == true) = isTrueV (.bool b) by cases b <;> rfl] at z
    exact z
  · have e3 : its.toArray.toList.countP isTrueV = bs.countP id := ec
    show Value.int ((its.toArray.toList.countP isTrueV : Nat) : Int) s.toks = _
    rw [e3]
end EV
namespace EV
open PySem PySem.Spec PyProof.Rows L2 LamX NdefX
/-! ### a lambda without captured names, as a value -/
def LamO (f : Addr) (F : NF) (e : Expr) : HO := .ext fun h => ∃ (od : Option Addr) (sl : Array (Option Value)) (pm ctv : Value), h.get? f = some (⟨.type "function", od, .func (PySem.W.kla_fn F.name F.qual F.params e F.scope F.cl pm (.ref F.c) ctv), sl⟩ : Obj)
theorem lamO_at {P : Program} {w : World} {H : Hp} {h : Heap} {f : Addr} {F : NF} {e : Expr} (hok : HOk P w H h) (x : H f = some (LamO f F e)) : ∃ (od : Option Addr) (sl : Array (Option Value)) (pm ctv : Value), h.get? f = some (⟨.type "function", od, .func (PySem.W.kla_fn F.name F.qual F.params e F.scope F.cl pm (.ref F.c) ctv), sl⟩ : Obj) := (hok f _ x).1
theorem lamO_ne {f : Addr} {F : NF} {e : Expr} (ps : Array Value) : LamO f F e ≠ .tbl ps := fun z => by
  unfold LamO at z
  cases z
section
variable {X : Cx} {pins : List (Addr × Obj)} {σ : L2.St} {H : Hp} {s : Shared}
theorem inv_lam {F : NF} {e : Expr} {h' : Heap} {t' : Nat} {pm ctv : Value} (I : Inv X pins σ H { s with heap := h', toks := t' }) :
    Inv X pins σ (upd H h'.objs.size (LamO h'.objs.size F e)) { s with heap := h'.push ({ cls := .type "function", data := .func (PySem.W.kla_fn F.name F.qual F.params e F.scope F.cl pm (.ref F.c) ctv) } : Obj), toks := t' } := by
  have at_ : (h'.push ({ cls := .type "function", data := .func (PySem.W.kla_fn F.name F.qual F.params e F.scope F.cl pm (.ref F.c) ctv) } : Obj)).get? h'.objs.size = some ({ cls := .type "function", data := .func (PySem.W.kla_fn F.name F.qual F.params e F.scope F.cl pm (.ref F.c) ctv) } : Obj) := Heap.get?_push_size _ rfl
  exact I.laid (a := h'.objs.size) (o := LamO h'.objs.size F e) (t' := t') (fun _ _ z => Heap.get?_push_of_some _ z) (Nat.le_refl _) ⟨⟨_, _, pm, ctv, at_⟩, ⟨_, at_⟩, fun _ _ ⟨od, sl, p, t, z⟩ st => ⟨od, sl, p, t, st _ z⟩⟩
/-- its making: the code object is new, or found in the table -/
theorem lam_new {T : List (Addr × Str)} {c P : Addr} {params : Arguments} {body : Expr} {scope : Scope} {pos : Pos} {E : Value → Shared → Prop} {Q : Value → Shared → Prop} (I : Inv X pins σ H s) (TB : TabB X.base X.mg c P) (hcode : X.env.code = .ref c)
    (hm : (P, X.env.qual ++ "<lambda>") ∈ T) (hu : ∀ p ∈ T, p.1 = P → p.2 = X.env.qual ++ "<lambda>") (hT : Tabs T H) (hdef : defaultsOf params X.env = ([], [])) (hfree : ∀ y ∈ scope.names, y.2 = .free → ∃ c, X.env.cells.lookup y.1 = some c) (hcl : cloFrom X.env.cells scope.names [] = [])
    (h : ∀ (f c' : Addr) (H1 : Hp) (s' : Shared), Inv X pins σ H1 s' → ExtN H H1 → Tabs T H1 → H f = none → H1 f = some (LamO f ⟨"<lambda>", X.env.qual ++ "<lambda>", params, [], scope, [], c'⟩ body) → H1 c' = some (CodeO c' (X.env.qual ++ "<lambda>")) → Q (.ref f) s') :
    wpAny (model X.prog X.w) X.A (eval (.Lambda params body scope pos) X.env) Q E s := by
  obtain ⟨ps, hP, ht, ha⟩ := hT _ hm
  have bP := TB.bm.keeps I.bk
  have hP' : s.heap.get? P = some { cls := .none, data := .fields ps } := I.hok P _ hP
  have clo := closure_ok (env := X.env) hfree
  rw [hcl] at clo
  refine PySem.W.kla_eval hdef ?_
  cases hc : codeAmong pos ps.toList with
  | some cv =>
    obtain ⟨c', e, hco⟩ := ha pos cv hc
    subst e
    refine PySem.W.kla_makeFunctionHit (mg := X.mg) (c := c) (P := P) (ps := ps) clo I.ok.glob (I.mod.glob.keeps I.bk) hcode (TB.code.keeps I.bk) hP' ht hc bP fun ctv h' tk hx hsz => ?_
    have J : Inv X pins σ H { s with heap := h', toks := tk } := I.kept hx
    have nf := J.hok.fresh (Nat.le_refl h'.objs.size)
    exact h h'.objs.size c' _ _ (inv_lam (F := ⟨"<lambda>", X.env.qual ++ "<lambda>", params, [], scope, [], c'⟩) J) (fun b o e _ => (upd_ne (ne_of_none e nf)).trans e) (fun p hp => (hT p hp).ext fun b o e => (upd_ne (ne_of_none e nf)).trans e) nf upd_same ((upd_ne (ne_of_none hco nf)).trans hco)
  | none =>
    refine PySem.W.kla_makeFunction (mg := X.mg) (c := c) (P := P) (ps := ps) clo I.ok.glob (I.mod.glob.keeps I.bk) hcode (TB.code.keeps I.bk) hP' ht hc TB.gP bP fun c' ctv h' tk hx hge hlt hrec htb => ?_
    obtain ⟨c2, oc, vs, t, e2, hoc, hd, hv⟩ := hrec
    cases e2
    have nC : H c' = none := I.hok.fresh hge
    have J := inv_table (t' := tk) (more := #[rawInt pos.line, rawInt pos.col, .ref c']) (h' := h') I hP (fun b o hb e => hx b o hb e) htb hge ⟨oc, vs, t, hoc, hd, hv⟩
    have grow : ExtN H (upd (upd H P (.tbl (ps ++ #[rawInt pos.line, rawInt pos.col, .ref c']))) c' (CodeO c' (X.env.qual ++ "<lambda>"))) := fun b o e n => by
      rw [upd_ne (ne_of_none e nC), upd_ne fun z => n ps (Option.some.inj (e.symm.trans (by rw [z]; exact hP)))]
      exact e
    have eL : (ps ++ #[rawInt pos.line, rawInt pos.col, .ref c']).toList = ps.toList ++ [rawInt pos.line, rawInt pos.col, .ref c'] := by simp
    have T1 : Tabs T (upd (upd H P (.tbl (ps ++ #[rawInt pos.line, rawInt pos.col, .ref c']))) c' (CodeO c' (X.env.qual ++ "<lambda>"))) := fun p hp => by
      by_cases hb : p.1 = P
      · rw [hu p hp hb, hb]
        refine ⟨_, (upd_ne (ne_of_none hP nC)).trans upd_same, eL ▸ PySem.TriplesOk_snoc _ _ _ _ ht, fun p' cv hcv => ?_⟩
        rcases among_app _ ht (eL ▸ hcv) with z | z
        · obtain ⟨c0, e1, e2⟩ := ha p' cv z
          exact ⟨c0, e1, grow _ _ e2 codeO_ne⟩
        · exact ⟨c', z, upd_same⟩
      · obtain ⟨ps', a1, a2, a3⟩ := hT p hp
        refine ⟨ps', (upd_ne (ne_of_none a1 nC)).trans ((upd_ne hb).trans a1), a2, fun p' cv hcv => ?_⟩
        obtain ⟨c0, e1, e2⟩ := a3 p' cv hcv
        exact ⟨c0, e1, grow _ _ e2 codeO_ne⟩
    have nf := J.hok.fresh (Nat.le_refl h'.objs.size)
    refine h h'.objs.size c' _ _ (inv_lam (F := ⟨"<lambda>", X.env.qual ++ "<lambda>", params, [], scope, [], c'⟩) J) (fun b o e n => (upd_ne (ne_of_none (grow b o e n) nf)).trans (grow b o e n)) (fun p hp => (T1 p hp).ext fun b o e => (upd_ne (ne_of_none e nf)).trans e) ?_ upd_same
      ((upd_ne (Nat.ne_of_lt hlt)).trans upd_same)
    exact I.hok.fresh (Nat.le_trans hge (Nat.le_of_lt hlt))
end
def tLamV (T : List (Addr × Str)) (mk : Addr → NF) (e : Expr) : TE := fun σ H Q => Tabs T H ∧ ∀ (f c' : Addr) (H1 : Hp), ExtN H H1 → Tabs T H1 → H f = none → H1 f = some (LamO f (mk c') e) → H1 c' = some (CodeO c' (mk c').qual) → Q (.ref f) H1
theorem pe_lamV {X : Cx} {T : List (Addr × Str)} {c P : Addr} {params : Arguments} {body : Expr} {scope : Scope} {pos : Pos} (TB : TabB X.base X.mg c P) (hcode : X.env.code = .ref c) (hm : (P, X.env.qual ++ "<lambda>") ∈ T) (hu : ∀ p ∈ T, p.1 = P → p.2 = X.env.qual ++ "<lambda>")
    (hnf : ∀ y ∈ scope.names, y.2 ≠ .free) (hcl : cloFrom X.env.cells scope.names [] = []) (hdef : defaultsOf params X.env = ([], []) := by rfl) :
    PE X (.Lambda params body scope pos) (tLamV T (fun c' => ⟨"<lambda>", X.env.qual ++ "<lambda>", params, [], scope, [], c'⟩) body) :=
  ⟨fun pins s σ H Q I h => lam_new I TB hcode hm hu h.1 hdef (fun y hy e => (hnf y hy e).elim) hcl fun f c' H1 s' J eN T1 f0 f1 c1 => ⟨.ref f, H1, J, rfl, h.2 f c' H1 eN T1 f0 f1 c1⟩⟩
/-! ### its call -/
section
variable {X : Cx} {pins : List (Addr × Obj)} {σ : L2.St} {H : Hp} {s : Shared} {CX : CXT} {E : XK} {k : Nat} {x : Str} {F : NF} {body : Expr} {f : Addr} {Q : VK} {v : V} {u : Value} {tb : TE}
theorem run_lam (I : Inv X pins σ H s) (S : NScope [x] [x] [] F.scope) (hcl : F.cl = []) (hb : ∀ (pm ctv u : Value), bindArgs (PySem.W.kla_fn F.name F.qual F.params body F.scope F.cl pm (.ref F.c) ctv) ⟨[u], []⟩ = pure [(x, u)])
    (hf : H f = some (LamO f F body)) (hc : H F.c = some (CodeO F.c F.qual)) (hr : Room (k + 1) X.A) (hx : Passes CX X E) (r : RelV v u)
    (hbody : ∀ (A : Around) (outer : List Env) (s : Shared), PE (ncx CX X.prog X.w X.K X.mg X.base [x] F f A outer s H E) body tb) (q : tb [some v] H Q) :
    wpAny (model X.prog X.w) X.A (call (.ref f) [u]) (EP X pins σ Q) X.xe s := by
  obtain ⟨od, sl, pm, ctv, ho⟩ := lamO_at I.hok hf
  have cr := codeO_at I.hok hc
  have lim := I.nolimit
  have run : codeAny (model X.prog X.w) X.A (.call (.ref f) ⟨[u], []⟩) (CR CX X.stack X.prog X.w H s Q E) s := by
    refine PySem.W.kla_callFunE hr.depth ho rfl S.co S.gen rfl cr ?_
    rw [hb pm ctv u]
    refine wpAny_pure (wpAny_newFunctionEnv S.nocell (fun y hy => ?_) (fun h₁ hns hsb => ⟨lim.fresh _ hsb, ?_⟩) S.kind)
    · rcases List.mem_cons.mp hy with e | e
      · rw [e]
        exact S.par x List.mem_cons_self
      · cases e
    · show codeAny _ _ (.expr body (envF F f s.heap.objs.size)) _ _
      have kp : ∀ b o, s.heap.get? b = some o → h₁.get? b = some o := fun b o e => hsb.extBut b o (Nat.ne_of_lt (Heap.lt_size e)) (Heap.get?_push_of_some _ e)
      have C : CellsAt F.cl [] [] s.heap H := by
        rw [hcl]
        exact ⟨rfl, (fun _ _ e => nomatch e), (fun _ _ _ e => nomatch e), (fun _ _ e => nomatch e)⟩
      have J : Inv (ncx CX X.prog X.w X.K X.mg X.base [x] F f X.A X.stack s H E) [] (startF [x] [v] []) H { s with heap := h₁, toks := s.toks + 1 } := inv_startN (us := [u]) S hr.hd I.env0 rfl (.cons r .nil) C hns kp
      refine PySem.W.kla_codeExpr (wpAny_mono ((hbody X.A X.stack s).run [] _ (startF [x] [v] []) H Q J q) (fun w' s' hq => ?_) fun e s' hq => hq)
      obtain ⟨y, H', J', rv, q'⟩ := hq
      exact ⟨y, H', J'.os, J'.bare, J'.base, J'.hok, rv, q'⟩
  refine wpAny_call (codeAny_mono run fun r s' hq => ?_)
  cases r with
  | error e => exact hx pins σ H s e s' I hq
  | ok fl =>
    cases fl with
    | ret w' => exact I.after hq
    | next => exact False.elim hq
    | brk => exact False.elim hq
    | cont => exact False.elim hq
end
end EV
namespace EV
open PySem PySem.Spec PyProof.Rows L2 LamX NdefX
/-! ### the law's own call, with the surroundings told (nothing is being shown ahead of it) -/
/-- the abstract heap at the law's entry: the tables, and the script if the written part does not tell it -/
def entryH (cs : List (Addr × Addr)) (K : PySem.W.Frag) (a : Addr) (o : Obj) (xs : List V) : Hp := fun b =>
  if b ∈ cs.map (·.2) then some (.tbl #[]) else if b = a ∧ K.lookup a = none then some (.frz o (.lst xs)) else none
theorem entryH_cases {cs : List (Addr × Addr)} {K : PySem.W.Frag} {a : Addr} {o : Obj} {xs : List V} {b : Addr} {u : HO} (h : entryH cs K a o xs b = some u) : (b ∈ cs.map (·.2) ∧ u = .tbl #[]) ∨ (b ∉ cs.map (·.2) ∧ b = a ∧ K.lookup a = none ∧ u = .frz o (.lst xs)) := by
  unfold entryH at h
  by_cases h1 : b ∈ cs.map (·.2)
  · rw [if_pos h1] at h
    exact .inl ⟨h1, (Option.some.inj h).symm⟩
  · rw [if_neg h1] at h
    by_cases h2 : b = a ∧ K.lookup a = none
    · rw [if_pos h2] at h
      exact .inr ⟨h1, h2.1, h2.2, (Option.some.inj h).symm⟩
    · rw [if_neg h2] at h
      cases h
theorem law_callG {P : Program} {w : World} {K : PySem.W.Frag} {mg mb : Str → Option Value} {fa a : Addr} {cs : List (Addr × Addr)} {s₁ : Shared} {vs : List Value} {ns : List Int}
    (KX : K.In s₁.heap) (gl : s₁.heap.Ns mainGlobals mg) (bl : s₁.heap.Ns builtinsNs mb) (bb : ∀ x : Str, x ≠ "__name__" → mb x = bootBuiltins x) (lim : s₁.heap.NoLimit) (hg : s₁.gens = #[])
    (tb : ∀ p ∈ cs, s₁.heap.get? p.2 = some { cls := .none, data := .fields #[] }) (tk : ∀ p ∈ cs, K.lookup p.2 = none) (cd : ∀ p ∈ cs, PySem.W.CodeHd s₁.heap p.1 p.2)
    (bm : ∃ (bm : Addr) (ob : Obj), mg "__builtins__" = some (.ref bm) ∧ bm ≠ builtinsNs ∧ s₁.heap.get? bm = some ob ∧ ob.cls = .type "module" ∧ ob.dict = some builtinsNs ∧ ob.data = .plain)
    (ha : s₁.heap.get? a = some { cls := .type "list", data := .seq vs.toArray }) (hi : IntsAre vs ns) (hl : ns.length ≤ sizeLine)
    (F : ∀ (base : Heap) (H : Hp), K.In base → base.Ns mainGlobals mg → (∀ p ∈ cs, TabB base mg p.1 p.2) → (∀ p ∈ cs, H p.2 = some (.tbl #[])) → SqL K H a (ns.map V.int) → Env0 P w K mg base callerA [] s₁ H →
      codeAny (model P w) callerA (.call (.ref fa) ⟨[.ref a], []⟩) (CR CX0 [] P w H s₁ (fun v _ => v = .bl true) E0) s₁) :
    codeAny (model P w) callerA (.call (.ref fa) ⟨[.ref a], []⟩) (fun r s' => r = .ok (.ret (.bool true)) ∧ OldK s₁.heap s'.heap ∧ s'.os = s₁.os ∧ AllBare s'.gens) s₁ := by
  have rv := vals_ints hi
  have ln := hi.length
  have inT : ∀ {b : Addr}, b ∈ cs.map (·.2) → ∃ p ∈ cs, p.2 = b := fun hb => by
    obtain ⟨p, hp, e⟩ := List.mem_map.mp hb
    exact ⟨p, hp, e⟩
  have atT : ∀ {b : Addr}, b ∈ cs.map (·.2) → s₁.heap.get? b = some { cls := .none, data := .fields #[] } := fun hb => by
    obtain ⟨p, hp, rfl⟩ := inT hb
    exact tb p hp
  have aT : a ∉ cs.map (·.2) := fun z => by
    have q := ha.symm.trans (atT z)
    cases q
  generalize hH : entryH cs K a { cls := .type "list", data := .seq vs.toArray } (ns.map V.int) = H
  have split : ∀ {b : Addr} {u : HO}, H b = some u → (b ∈ cs.map (·.2) ∧ u = .tbl #[]) ∨ (b ∉ cs.map (·.2) ∧ b = a ∧ K.lookup a = none ∧ u = .frz { cls := .type "list", data := .seq vs.toArray } (.lst (ns.map V.int))) := fun e => entryH_cases (hH ▸ e)
  have tabs : ∀ p ∈ cs, H p.2 = some (.tbl #[]) := fun p hp => by
    rw [← hH]
    exact if_pos (List.mem_map.mpr ⟨p, hp, rfl⟩)
  -- what is no list and no empty table is not tracked
  have off : ∀ {b : Addr} {o : Obj}, s₁.heap.get? b = some o → (∀ us n, o.data ≠ .seq us n) → o.data ≠ .fields #[] → H b = none := fun {b o} e h1 h2 => by
    cases q : H b with
    | none => rfl
    | some u =>
      rcases split q with ⟨z, _⟩ | ⟨_, z, _, _⟩
      · have y := e.symm.trans (atT z)
        cases y
        exact (h2 rfl).elim
      · rw [z] at e
        have y := e.symm.trans ha
        cases y
        exact (h1 _ _ rfl).elim
  have kept : ∀ {b : Addr} {o : Obj}, s₁.heap.get? b = some o → H b = none → (hidT s₁.heap H).get? b = some o := fun e n => hidT_get e n
  have nss : ∀ {b : Addr} {m : Str → Option Value}, s₁.heap.Ns b m → (hidT s₁.heap H).Ns b m := fun ⟨o, es, ep, e, d, r⟩ => ⟨o, es, ep, kept e (off e (fun _ _ z => by rw [d] at z; cases z) fun z => by rw [d] at z; cases z), d, r⟩
  have kin : K.In (hidT s₁.heap H) := fun b o e => kept (KX b o e) (by
    cases q : H b with
    | none => rfl
    | some u =>
      rcases split q with ⟨z, _⟩ | ⟨_, z, n, _⟩
      · obtain ⟨p, hp, ep⟩ := inT z
        have y := tk p hp
        rw [ep, e] at y
        cases y
      · rw [← z, e] at n
        cases n)
  have tbs : ∀ p ∈ cs, TabB (hidT s₁.heap H) mg p.1 p.2 := fun p hp => by
    have t0 := tb p hp
    refine ⟨?_, ?_, fun z => ?_⟩
    · obtain ⟨o, us, file, tf, flags, tg, inF, text, tt, e1, r1, r2, r3, r⟩ := cd p hp
      refine ⟨o, us, file, tf, flags, tg, inF, text, tt, kept e1 (off e1 (fun _ _ z => by rw [r2] at z; cases z) fun z => ?_), r1, r2, r3, r⟩
      rw [r2] at z
      cases z
      simp at r3
    · obtain ⟨m, ob, b1, b2, b3, b4, b5, b6⟩ := bm
      refine ⟨m, ob, b1, b2, fun q => ?_, fun q => ?_, kept b3 (off b3 (fun _ _ z => by rw [b6] at z; cases z) fun z => by rw [b6] at z; cases z), b4, b5, b6⟩
      · obtain ⟨o, es, ep, e, hd, _⟩ := gl
        rw [q] at b3
        have y := b3.symm.trans e
        cases y
        rw [b6] at hd
        cases hd
      · rw [q] at b3
        have y := b3.symm.trans t0
        cases y
        cases b6
    · obtain ⟨o, es, ep, e, hd, _⟩ := gl
      rw [z] at e
      have y := t0.symm.trans e
      cases y
      cases hd
  have hok : HOk P w H s₁.heap := fun b u e => by
    rcases split e with ⟨z, rfl⟩ | ⟨_, rfl, _, rfl⟩
    · exact atT z
    · exact ⟨ha, (by rw [List.length_map]; exact hl), vs, _, rv, ha⟩
  have seq : SqL K H a (ns.map V.int) := by
    cases hk : K.lookup a with
    | none =>
      refine .inl (.inr ⟨{ cls := .type "list", data := .seq vs.toArray }, ?_⟩)
      rw [← hH]
      exact (if_neg aT).trans (if_pos ⟨rfl, hk⟩)
    | some o =>
      have y := (KX a o hk).symm.trans ha
      cases y
      exact .inr ⟨_, vs.toArray, _, hk, rfl, rfl, rfl, (by rw [List.size_toArray, ln]; exact hl), by simpa using rv⟩
  have e0 : Env0 P w K mg (hidT s₁.heap H) callerA [] s₁ H := ⟨rfl, ⟨kin, nss gl, ⟨mb, nss bl, bb⟩, let ⟨mc, h1, h2⟩ := lim; ⟨mc, nss h1, h2⟩⟩, fun b o e => of_hidT e, Nat.le_of_eq (hidT_size _ _), trivial, fun b hb => absurd (show b ∈ ([] : List Addr) from hb) (by simp), hok, .of_eq hg⟩
  refine codeAny_mono (F _ H kin (nss gl) tbs tabs seq e0) fun r s' h => ?_
  cases r with
  | error e => exact False.elim h
  | ok fl =>
    cases fl with
    | next => exact False.elim h
    | brk => exact False.elim h
    | cont => exact False.elim h
    | ret u =>
      obtain ⟨v, H', os, bare, un, ok2, rel, q⟩ := h
      have q' : v = .bl true := q
      subst q'
      obtain rfl : u = Value.bool true := rel
      have stays : ∀ b o, b ∉ cs.map (·.2) → s₁.heap.get? b = some o → s'.heap.get? b = some o := fun b o nb e => by
        cases q : H b with
        | none => exact un.keep b o e q (by intro z; exact absurd (show b ∈ ([] : List Addr) from z) (by simp)) (by simp)
        | some u =>
          rcases split q with ⟨z, _⟩ | ⟨_, z, _, rfl⟩
          · exact absurd z nb
          · obtain ⟨e1, _⟩ := ok2 b _ (un.frzs b _ _ q)
            rw [z] at e
            have y := e.symm.trans ha
            cases y
            exact e1
      have grown : ∀ {b : Addr}, b ∈ cs.map (·.2) → ∃ (p : Addr × Addr) (more : Array Value), p ∈ cs ∧ p.2 = b ∧ s'.heap.get? b = some { cls := .none, data := .fields more } := fun {b} hb => by
        obtain ⟨p, hp, rfl⟩ := inT hb
        obtain ⟨more, z⟩ := un.tbls p.2 #[] (tabs p hp)
        exact ⟨p, _, hp, rfl, ok2 p.2 _ z⟩
      refine ⟨rfl, ⟨fun b o e => ?_, fun b o e => ?_⟩, os, bare⟩
      · by_cases hb : b ∈ cs.map (·.2)
        · obtain ⟨p, more, hp, rfl, hm⟩ := grown hb
          have y := e.symm.trans (tb p hp)
          cases y
          exact .inr (.inl ⟨((cd p hp).tab (tb p hp)).isCodeTable, rfl, #[], more, rfl, by rw [Array.empty_append]; exact hm⟩)
        · exact .inl (stays b o hb e)
      · by_cases hb : b ∈ cs.map (·.2)
        · obtain ⟨p, more, hp, rfl, hm⟩ := grown hb
          exact ⟨_, hm⟩
        · exact ⟨o, stays b o hb e⟩
/-! ### a promise that wants to know that nothing is being shown -/
structure FnG (P : Program) (w : World) (K : PySem.W.Frag) (mg : Str → Option Value) (base : Heap) (k : Nat) (f : Addr) (fd : FuncData) (ps : List Str) (sp : Sp) : Prop where
  len : ∀ vs H Q E, sp vs H Q E → vs.length = ps.length
  run : ∀ (A : Around) (outer : List Env) (s : Shared) (H : Hp) (args : Args) (us : List Value) (vs : List V) (Q : VK) (E : XK), A.guards = some [] → Room k A → Env0 P w K mg base A outer s H → BindsTo s fd args (ps.zip us) → Vals vs us → sp vs H Q E →
    codeAny (model P w) A (.call (.ref f) args) (CR CX0 outer P w H s Q E) s
theorem fng_of {P : Program} {w : World} {K : PySem.W.Frag} {mg : Str → Option Value} {base : Heap} {k : Nat} {x qual : Str} {st : Stmt} {f : Addr} {fd : FuncData} {N ps : List Str} {sp : Sp} (F : Fun K x qual st f fd) (S : FnScope N ps (defScope st)) (len : ∀ vs H Q E, sp vs H Q E → vs.length = ps.length)
    (hbody : ∀ (cdv : Value) (A : Around) (outer : List Env) (s : Shared) (H : Hp) (vs : List V) (Q : VK) (E : XK), (A.deeper (envOfC qual (defScope st) s.heap.objs.size f cdv)).guards = some [] → Room k (A.deeper (envOfC qual (defScope st) s.heap.objs.size f cdv)) → sp vs H Q E →
      ∃ t, PSs (cxOf CX0 P w K mg base N qual (defScope st) f cdv A outer s H E).nox (defBody st) t ∧ t { nx := fun _ H' => Q .non H', rt := Q } (start N vs) H) : FnG P w K mg base (k + 1) f fd ps sp := by
  obtain ⟨oc, od, kV, doc, pm, an, cdv, ct, osl, rfl, lk, hcd⟩ := F.ex
  refine ⟨len, fun A outer s H args us vs Q E hg hr e0 hb r hsp => run_ofS lk hcd S hr e0 hb r (len _ _ _ _ hsp) fun hr' => ?_⟩
  obtain ⟨t, h1, h2⟩ := hbody cdv A outer s H vs Q E hg hr' hsp
  exact ⟨t, h1.nox, h2⟩
section
variable {X : Cx} {k : Nat} {f : Addr} {fd : FuncData} {ps : List Str} {sp : Sp} {x : Str} {p pos : Pos} {e : Expr} {es : List Expr} {t : TA}
theorem pe_callG (F : FnG X.prog X.w X.K X.mg X.base k f fd ps sp) (gd : X.A.guards = some []) (hr : Room k X.A) (hg : Gl X x) (hm : X.mg x = some (.ref f)) (hk : PySem.W.keepIn X.K (.ref f) = true) (hb : Binds X.K fd ps []) (ha : PA X (e :: es) t)
    (hdb : (x == ("__debug__" : Str)) = false := by decide) (he : starEach (e :: es) X.env = (false, eval e X.env) :: starEach es X.env := by rfl) (hpl : (backTo pos (starEach es X.env)).any (·.1) = false := by rfl) :
    PE X (.Call (.Name x p) (e :: es) [] pos) (tCall sp [] E0 t) := by
  refine ⟨fun pins s σ H Q I h => ?_⟩
  refine wpAny_Call_Name_kw (ld_glob I hg hm ?_ hdb)
  refine PySem.W.callWith_K (h₀ := X.base) I.ok.mod.kin hk (thn (ha.run pos pins s σ H _ I h) fun us s1 ⟨vs, H1, I1, r, q⟩ => ⟨I1.kIn, ?_⟩) he hpl
  have q : sp (vs ++ []) H1 Q E0 := q
  rw [List.append_nil] at q
  have hl : (us ++ []).length = ps.length := by rw [List.append_nil, ← r.length]; exact F.len _ _ _ _ q
  have b := hb s1 us I1.kIn hl
  rw [List.append_nil] at b
  refine wpAny_call (codeAny_mono (F.run X.A X.stack s1 H1 ⟨us, []⟩ us vs Q E0 gd hr I1.env0 b r q) fun z s' hq => ?_)
  cases z with
  | error e => exact False.elim hq
  | ok fl =>
    cases fl with
    | ret u => exact I1.after hq
    | next => exact False.elim hq
    | brk => exact False.elim hq
    | cont => exact False.elim hq
end
end EV
/-! Dict comprehensions whose keys may be tuples: the store is what DPut says. -/
namespace EV
open PySem PySem.Spec PyProof.Rows L2
section
variable {X : Cx} {pins : List (Addr × Obj)} {σ : L2.St} {H : Hp} {s : Shared}
/-- an entry laid by a comprehension, whatever the key is -/
theorem lay_entry {P : Unit → Shared → Prop} {E : Value → Shared → Prop} {D : Addr} {y z : V} {u r : Value} {H' : Hp} (hu : X.A.units + 1 < cLine) (I : Inv X pins σ H s) (g : DPut H D y z H') (ry : RelV y u) (rz : RelV z r) (k : ∀ s', Inv X pins σ H' s' → P () s') :
    wpAny (model X.prog X.w) X.A (dictSet D u r) P E s := by
  rcases g with ⟨kvs, ky, hD, rfl, small, rfl⟩ | ⟨kvs, ky, b, hD, rfl, hb, small, rfl⟩
  · exact d_dictSet I hD small ry rz k
  · obtain rfl : u = Value.ref b := ry
    obtain ⟨le, nsys, xs, kt, dh⟩ := dt_of I.hok hD
    have le' : xs.length ≤ sizeLine := Paired.length kt ▸ le
    have room : (putK kvs ky z).length ≤ sizeLine := by
      have t := length_putK kvs ky z
      omega
    have hr : (tupleKind (mixKind X.prog X.w)).room X.A := Nat.lt_of_succ_lt hu
    refine wpAny_dictSet_heap (hsz := le') hr (key_of I.hok hb) dh fun h2 dh2 but => k _ ?_
    obtain ⟨o, es, ep, q1, q2, q3, q4, _, q6⟩ := dh2
    refine d_write I (by rw [hD]; exact True.intro) but ⟨o, q1⟩ ⟨room, nsys, _, KT.keeps (kt.put ky hb rz) fun c ys hc => ?_, o, es, ep, q1, q2, q3, q4, q6⟩
    exact (upd_ne (ne_of hc hD fun t => nomatch t)).trans hc
end
section
variable {X : Cx}
/-- the empty dict, to hold keys of the one kind or of the other -/
inductive Bare0 : HO → Prop
  | k : Bare0 (.dK [])
  | t : Bare0 (.dT [])
theorem bare0_lay {P : Program} {w : World} {H : Hp} {h : Heap} {o : HO} (b : Bare0 o) (big : sysModules < h.objs.size) : ObjOk P w H (h.push { cls := .type "dict", data := .dict #[] }) h.objs.size o := by
  cases b
  · exact dk_empty h big
  · exact dt_empty h big
/-- one turn of the comprehension's block, as a reading -/
def turnP (D : Addr) (g : TG) (tt : TT) (tk tv : TE) (vs : List Nat) (σ : L2.St) (Nx : Hp → Prop) (x : V) (H' : Hp) : Prop :=
  g x (wipe σ vs) H' fun σ2 H2 => wipe σ2 vs = wipe σ vs ∧ tt σ2 H2 fun b H3 =>
    if b = true then tk σ2 H3 fun y H4 => tv σ2 H4 fun z H5 => ∃ H6, DPut H5 D y z H6 ∧ Nx H6 else Nx H3
def tDcP (o0 : HO) (wi : TI) (g : TG) (tt : TT) (tk tv : TE) (vs : List Nat) : TE := fun σ H Q => wi σ H fun J H1 => ∀ D, H1 D = none → ∃ W : Nat → Nat → Hp → Prop, (∃ m, W 0 m (upd H1 D o0)) ∧
  ∀ i m H2, W i m H2 → (J.stop i H2 ∧ Q (.ref D) H2) ∨ (J.go i H2 ∧ ∃ Nx : Hp → Prop, (∀ H3, Nx H3 → ∃ m', m' < m ∧ W (i + 1) m' H3) ∧ ∀ x H3, J.yld i H2 x H3 → turnP D g tt tk tv vs σ Nx x H3)
abbrev AllBlk (X : Cx) (scope : Scope) (p : Cx → Prop) : Prop := ∀ (s : Shared) (H : Hp) (C : Addr) (cl : List (Str × Addr)) (fp : List Addr), p (X.blk s H scope (compEnvC scope cl C X.env) fp)
theorem pe_dcP {kx vx tg iter : Expr} {ifs : List Expr} {scope : Scope} {own : List (Str × Nat)} {pos : Pos} {wi : TI} {g : TG} {tt : TT} {tk tv : TE} {o0 : HO} (b0 : Bare0 o0) (calm : X.calm = true) (hu : X.A.units + 1 < cLine) (hN : X.N.Nodup) (hi : PI X tg iter wi) (ok : BlkOk X.N X.env.scope scope own)
    (hg : AllBlk X scope fun B => PG B tg g) (ht : AllBlk X scope fun B => PTs B ifs tt) (hk : AllBlk X scope fun B => PE B kx tk) (he : AllBlk X scope fun B => PE B vx tv)
    (fold : ∀ x, foldedSetIterable iter X.env x = pure x := by intro _; rfl) : PE X (.DictComp kx vx [⟨tg, iter, ifs, 0⟩] scope pos) (tDcP o0 wi g tt tk tv (own.map (·.2))) := by
  refine ⟨fun pins s σ H Q I reading => ?_⟩
  rw [arm_eval_DictComp]
  have frees : ∀ y ∈ scope.names, y.2 = .free → ∃ c, X.env.cells.lookup y.1 = some c := fun y hy e => (ok.free y hy e).elim (fun q => I.ok.has _ (.inl q)) fun q => I.ok.has _ (.inr q)
  refine wpAny_comprehension_free rfl fold (closure_ok frees) ok.kind (fun y hy e => (ok.uniq y hy).trans (congrArg some e)) (thn (hi.run pins s σ H _ I reading) fun xv s1 made => thn made fun itv s2 stands => ?_)
  obtain ⟨it, fp, tn, J, H2, rfl, I2, T, at0, fpk, rest⟩ := stands
  refine wpAny_newObj_type (newEnv_comp ?_)
  obtain ⟨D, eD⟩ : ∃ D, s2.heap.objs.size = D := ⟨_, rfl⟩
  rw [eD]
  have new : H2 D = none := I2.hok.fresh (Nat.le_of_eq eD)
  obtain ⟨W, ⟨m0, start⟩, turns⟩ := rest D new
  -- the empty dict stands
  obtain ⟨s3, e3⟩ : ∃ s3 : Shared, ({ s2 with heap := s2.heap.push { cls := .type "dict", data := .dict #[] } } : Shared) = s3 := ⟨_, rfl⟩
  have grow : ∀ b o, s2.heap.get? b = some o → s3.heap.get? b = some o := fun b o e => by
    rw [← e3]
    exact Heap.get?_push_of_some _ e
  have size3 : s3.heap.objs.size = s2.heap.objs.size + 1 := by
    rw [← e3]
    exact Heap.size_push ..
  have I3 : Inv X pins σ (upd H2 D o0) s3 := by
    rw [← e3]
    refine I2.laid (t' := s2.toks) (fun b o e => Heap.get?_push_of_some _ e) (Nat.le_of_eq eD) ?_
    rw [← eD]
    exact bare0_lay b0 I2.big
  have small : ∀ b ∈ fp, b < s2.heap.objs.size := fun b hb => (T.obj _ _ at0 b hb).elim fun o q => Heap.lt_size q.1
  have fp3 : ∀ b ∈ fp, FpOk X pins (upd H2 D o0) b ∧ b < s3.heap.objs.size := fun b hb => by
    have lt := small b hb
    have ne : b ≠ D := Nat.ne_of_lt (eD ▸ lt)
    exact ⟨⟨(upd_ne ne).trans (fpk b hb).1, (fpk b hb).2⟩, size3 ▸ Nat.lt_succ_of_lt lt⟩
  have at3 : tn 0 s3.heap := T.keep _ _ _ at0 fun b _ o e => grow b o e
  have I4 := block_start I3 ok hN fp3
  generalize eC : s3.heap.objs.size = C at I4
  generalize ecl : cellsFrom (C + 1) scope.names (cloFrom X.env.cells scope.names []) = cl at I4
  have pg := hg s3 (upd H2 D o0) C cl fp
  have pt := ht s3 (upd H2 D o0) C cl fp
  have pk := hk s3 (upd H2 D o0) C cl fp
  have pv := he s3 (upd H2 D o0) C cl fp
  have none3 : ∀ b ∈ fp, (upd H2 D o0) b = none := fun b hb => (fp3 b hb).1.1
  have h4s : ∀ b o, s3.heap.get? b = some o → (pushCells (s3.heap.push { cls := .type "dict", data := .dict #[] }) scope.names).get? b = some o := fun b o e => pushCells_keeps _ _ _ _ (Heap.get?_push_of_some _ e)
  rw [e3]
  show codeAny _ _ (.compStart (.DictComp kx vx [⟨tg, iter, ifs, 0⟩] scope pos) 0 (.ref it) (.ref D) (compEnvC scope (cellsFrom (s3.heap.objs.size + 1) scope.names (cloFrom X.env.cells scope.names [])) s3.heap.objs.size X.env)) (compPost (model X.prog X.w) X.A X.xe _ _ (.ref D) s3.heap.objs.size) { s3 with heap := pushCells (s3.heap.push { cls := .type "dict", data := .dict #[] }) scope.names }
  rw [eC, ecl]
  generalize eB : compEnvC scope cl C X.env = B at I4 pg pt pk pv ⊢
  have locB : B.locals = C := eB ▸ rfl
  have at4 : tn 0 (pushCells (s3.heap.push { cls := .type "dict", data := .dict #[] }) scope.names) := T.keep _ _ _ at3 fun b _ o e => h4s b o e
  generalize e4 : ({ s3 with heap := pushCells (s3.heap.push { cls := .type "dict", data := .dict #[] }) scope.names } : Shared) = s4 at I4 ⊢
  have at4 : tn 0 s4.heap := e4 ▸ at4
  -- the iterator's own objects, seen from the block
  have own4 : ∀ {σ' : L2.St} {G : Hp} {s' : Shared}, Inv (X.blk s3 (upd H2 D o0) scope B fp) [] σ' G s' → (∀ b ∈ fp, G b = none) → ∀ b ∈ fp, FpOk (X.blk s3 (upd H2 D o0) scope B fp) [] G b := fun {σ' G s'} J' z b hb =>
    ⟨z b hb, (J'.ok.exf b hb).1, J'.ok.exfs b hb, .inl hb, fun x c e => (J'.ok.exf b hb).2 x c e, fun p hp => by simp [Cx.blk] at hp⟩
  have walk : codeAny (model X.prog X.w) X.A (.compLoop (.DictComp kx vx [⟨tg, iter, ifs, 0⟩] scope pos) 0 (.ref it) (.ref D) B) (compPost (model X.prog X.w) X.A X.xe none (fun v s' => ∃ x H', Inv X pins σ H' s' ∧ RelV x v ∧ Q x H') (.ref D) C) s4 := by
    refine compLoop_anyD (fun n s5 => ∃ i G, Inv (X.blk s3 (upd H2 D o0) scope B fp) [] (wipe σ (own.map (·.2))) G s5 ∧ tn i s5.heap ∧ (∀ b ∈ fp, G b = none) ∧ W i n G) ?_ m0 ⟨0, _, I4, at4, none3, start⟩
    rintro n s5 ⟨i, G, I5, at5, none5, w5⟩
    rcases turns i n G w5 with ⟨over, found⟩ | ⟨more, Nx, next, step⟩
    · -- no further item: the def's own frame again
      refine thnF (T.done (X.blk s3 (upd H2 D o0) scope B fp) rfl rfl rfl calm i [] s5 _ G (fun _ _ => False) I5 (own4 I5 none5) at5 over) fun r s6 fin => ?_
      obtain ⟨rfl, I6⟩ := fin
      have back : Inv X pins σ G s6 := I3.call' (ch := fp) I6.os I6.base I6.hok I6.bare fun b hb => ⟨(fp3 b hb).1.2.2.2.1, (fp3 b hb).1.2.1, (fp3 b hb).1.2.2.2.2.1, (fp3 b hb).1.2.2.2.2.2⟩
      have freeC : G C = none := locB ▸ (show G B.locals = none from I6.free)
      obtain ⟨m, ns, _⟩ := I6.loc
      have nsC : s6.heap.Ns C m := locB ▸ (show s6.heap.Ns B.locals m from ns)
      obtain ⟨f0, f1, f2, f3, f4, f5⟩ := I3.fpOk (Nat.le_of_eq eC) freeC
      exact ⟨m, nsC, fun h9 but => ⟨.ref D, G, back.turned (t' := s6.toks) (fun b o hb e => (but.2 b hb).trans e) f0 f1 f3 f4 f5, rfl, found⟩⟩
    · refine thnF (T.item (X.blk s3 (upd H2 D o0) scope B fp) rfl rfl rfl calm i [] s5 _ G (fun _ _ => False) I5 (own4 I5 none5) at5 more) fun r s6 got => ?_
      obtain ⟨u, rfl, later⟩ := got
      refine thnF later fun _ s7 st => ?_
      obtain ⟨x, G7, I7, rx, y7, at7, none7⟩ := st
      have I8 := I7.pinned (own4 I7 none7) (T.obj _ _ at7)
      refine thnF (pg.run _ s7 _ G7 x u _ I8 rx (step x G7 y7)) fun _ s8 ⟨σ8, G8, I9, same8, q8⟩ => ?_
      -- what the turn leaves
      have goOn : ∀ {s9 : Shared} {G9 : Hp}, Inv (X.blk s3 (upd H2 D o0) scope B fp) ([] ++ pinsAt fp s7.heap) σ8 G9 s9 → Nx G9 → ∃ m, m < n ∧ ∃ j G', Inv (X.blk s3 (upd H2 D o0) scope B fp) [] (wipe σ (own.map (·.2))) G' s9 ∧ tn j s9.heap ∧ (∀ b ∈ fp, G' b = none) ∧ W j m G' := by
        intro s9 G9 J nx
        obtain ⟨m, lt, w9⟩ := next G9 nx
        have stood : ∀ b ∈ fp, ∀ o, s7.heap.get? b = some o → s9.heap.get? b = some o ∧ G9 b = none := fun b hb o e => by
          have z := J.pin (b, o) (List.mem_append_right _ (List.mem_append_right _ (mem_pinsAt hb e)))
          exact ⟨z.1, z.2.1⟩
        have len8 : (wipe σ (own.map (·.2))).length = σ8.length := same8 ▸ wipe_length ..
        refine ⟨m, lt, i + 1, G9, (J.unpinned (pins := [])).weak len8 (fun j v e => (wipe_some (same8.symm ▸ e)).1), T.keep _ _ _ at7 fun b hb o e => (stood b hb o e).1, fun b hb => ?_, w9⟩
        obtain ⟨o, e, _⟩ := T.obj _ _ at7 b hb
        exact (stood b hb o e).2
      refine thnF (pt.run _ s8 σ8 G8 _ I9 q8) fun b s9 ⟨G9, I10, q9⟩ => ?_
      by_cases kept : b = true
      · have q9 : tk σ8 G9 fun y H4 => tv σ8 H4 fun z H5 => ∃ H6, DPut H5 D y z H6 ∧ Nx H6 := by
          have q9 := show (if b = true then _ else _) from q9
          rwa [if_pos kept] at q9
        rw [if_pos kept]
        refine thnF (pk.run _ s9 σ8 G9 _ I10 q9) fun ku s10 ⟨y, G10, I11, ry, q10⟩ => ?_
        refine thnF (pv.run _ s10 σ8 G10 _ I11 q10) fun vu s11 ⟨z, G11, I12, rz, G12, put, nx⟩ => ?_
        exact lay_entry (X := X.blk s3 (upd H2 D o0) scope B fp) hu I12 put ry rz fun s12 I13 => goOn I13 nx
      · have q9 : Nx G9 := by
          have q9 := show (if b = true then _ else _) from q9
          rwa [if_neg kept] at q9
        rw [if_neg kept]
        exact goOn I10 q9
  exact codeAny_compStart_dict walk (T.self X.A 0 _ _ _ at4 walk)
end
end EV
/-! Walks over what is a list or a tuple; enumerate of either; comprehensions of dicts over any walk. -/
namespace EV
open PySem PySem.Spec PyProof.Rows L2
open AutoSeq1 (wpAny_loadPart')
/-- a list (b) or a tuple -/
def Sq (K : PySem.W.Frag) (b : Bool) (H : Hp) (a : Addr) (xs : List V) : Prop := if b = true then SqL K H a xs else SqT K H a xs
def IB (K : PySem.W.Frag) (b : Bool) (a : Addr) : It := if b = true then Itl K a else Itt K a
theorem Sq.any {K : PySem.W.Frag} {b : Bool} {H : Hp} {a : Addr} {xs : List V} (h : Sq K b H a xs) : SqL K H a xs ∨ SqT K H a xs := by
  cases b
  · exact .inr h
  · exact .inl h
theorem Sq.lst {K : PySem.W.Frag} {H : Hp} {a : Addr} {xs : List V} (h : H a = some (.lst xs)) : Sq K true H a xs := SqL.of h
theorem Sq.tup {K : PySem.W.Frag} {H : Hp} {a : Addr} {xs : List V} (h : H a = some (.tup xs)) : Sq K false H a xs := SqT.of h
theorem walk_sq {K : PySem.W.Frag} {b : Bool} {a : Addr} {xs : List V} : Walk (IB K b a) xs.length (fun H => Sq K b H a xs) (YAt xs) := by
  cases b
  · exact walk_tup
  · exact walk_list
def iSeq (K : PySem.W.Frag) (tl : TE) : TI := fun σ H R => tl σ H fun x H1 => ∃ b a xs, x = .ref a ∧ Sq K b H1 a xs ∧ R (IB K b a) H1
section
variable {X : Cx} {tg : Expr}
theorem pi_seq {l : Expr} {tl : TE} (hl : PE X l tl) : PI X tg l (iSeq X.K tl) := by
  refine ⟨fun pins s σ H R I h => thn (hl.run pins s σ H _ I h) fun v s1 got => ?_⟩
  obtain ⟨x, H1, I1, rx, b, a, xs, rfl, hs, q⟩ := got
  obtain rfl : v = Value.ref a := rx
  cases b
  · obtain ⟨its, _, p, _⟩ := I1.tuple hs
    exact wpAny_pyIter_tuple (items := its.toArray) p (pi_one (tk := s1.toks) I1 _ (turn_tuple a _) ⟨_, Heap.get?_push_size _ rfl, rfl, rfl⟩ q)
  · obtain ⟨its, _, p, _⟩ := I1.list hs
    exact wpAny_pyIter_list p.isList (pi_one (tk := s1.toks) I1 _ (turn_list a _) ⟨_, Heap.get?_push_size _ rfl, rfl, rfl⟩ q)
end
/-! ### enumerate(tuple) -/
theorem meets_enumerate_newT (t : Addr) (items : Array Value) (n : Nat) (dct : Option Addr) (sl : Array (Option Value)) :
    Meets (Builtin.«enumerate.__new__» ⟨[.type "enumerate", .ref t], []⟩) (fun _ R s => s.heap.get? t = some { cls := .type "tuple", dict := dct, data := .seq items n, slots := sl } ∧
      R (.ok (.ret (.ref (s.heap.objs.size + 1))))
        { s with heap := (s.heap.push { cls := .type "tuple_iterator", data := .fields #[.ref t, .int 0 0] }).push { cls := .type "enumerate", data := .fields #[.none, .bool false, .ref s.heap.objs.size, rawInt 0, .none, .none] } }) :=
  .of_wp fun prog w A R s h => by
    obtain ⟨hp, g, d, tk, os⟩ := s
    obtain ⟨hl, h⟩ := h
    have two : (Heap.push hp { cls := .type "tuple_iterator", data := .fields #[.ref t, .int 0 0] }).objs.size = hp.objs.size + 1 := Heap.size_push ..
    rw [show (Shared.heap ⟨hp, g, d, tk, os⟩).objs.size + 1 = (Heap.push hp { cls := .type "tuple_iterator", data := .fields #[.ref t, .int 0 0] }).objs.size from two.symm] at h
    have hsub := sub_enumerate
    have hT : Heap.IsTuple (Shared.heap ⟨hp, g, d, tk, os⟩) t items := ⟨_, hl, rfl, n, rfl⟩
    wp_walk using wpAny_loadPart' hl
    refine wpAny_stack_any fun st => wpAny_pure ?_
    split
    · rename_i c _ _ _ _ _
      cases (c == Value.type "enumerate") <;> (wp_walk using wpAny_loadPart' hl, wpAny_pyIter_tuple hT; exact ⟨_, rfl, h⟩)
    · wp_walk using wpAny_loadPart' hl, wpAny_pyIter_tuple hT
      exact ⟨_, rfl, h⟩
section
variable {prog : Program} {w : World} {A : Around} {E : Value → Shared → Prop} {s : Shared}
theorem call_enumerate_tuple {t : Addr} {items : Array Value} {Q : Value → Shared → Prop} (hT : s.heap.IsTuple t items)
    (k : ∀ h', IsEnum h' (s.heap.objs.size + 1) s.heap.objs.size 0 .none → h'.IsTupleIter s.heap.objs.size t 0 → (∀ b o, s.heap.get? b = some o → h'.get? b = some o) → Q (.ref (s.heap.objs.size + 1)) { s with heap := h' }) :
    wpAny (model prog w) A (call (.type "enumerate") [.ref t]) Q E s := by
  obtain ⟨⟨c, dct, dt, sl⟩, at0, hc, n, hd⟩ := hT
  obtain rfl : c = .type "tuple" := hc
  obtain rfl : dt = .seq items n := hd
  have e1 := Heap.get?_push_size (s.heap.push { cls := .type "tuple_iterator", data := .fields #[.ref t, .int 0 0] }) (o := { cls := .type "enumerate", data := .fields #[.none, .bool false, .ref s.heap.objs.size, rawInt 0, .none, .none] }) rfl
  rw [Heap.size_push] at e1
  exact callType_new F.called_enumerate (by decide) (F.typeCall_enumerate_1 _) (F.newCall_enumerate_1 _) (fun obj => F.args_object_init_2 obj _) F.entry_enumerate_new (meets_enumerate_newT t items n dct sl)
    ⟨at0, ⟨_, e1, rfl⟩, k _ e1 ⟨_, Heap.get?_push_of_some _ (Heap.get?_push_size _ rfl), rfl, rfl⟩ fun b o q => Heap.get?_push_of_some _ (Heap.get?_push_of_some _ q)⟩
end
theorem enumT_end {prog : Program} {w : World} {A : Around} {E : Value → Shared → Prop} {s : Shared} {e it t : Addr} {i : Nat} {k : Int} {items : Array Value} {old : Value} {Q : Option Value → Shared → Prop} (hh : A.in1.handled = none) (he : IsEnum s.heap e it k old) (hit : s.heap.IsTupleIter it t i) (ht : s.heap.IsTuple t items) (hx : items[i]? = none)
    (hQ : ∀ h', Heap.ExtBut it s.heap h' → Q none { s with heap := h' }) : wpAny (model prog w) A (pyNext (.ref e)) Q E s := by
  have D : Draws prog w A.in1 it [it, t] i (fun _ _ => True) (fun j h => j = i ∧ h.IsTupleIter it t i ∧ h.IsTuple t items) :=
    { live := fun _ _ st => st.2.1.elim fun o q => ⟨o, q.1⟩
      frame := fun _ _ _ st hk => ⟨st.1, st.2.1.at fun o q => hk it (by simp) o q, st.2.2.at fun o q => hk t (by simp) o q⟩
      item := fun j s Q E lt st _ => absurd lt (by rw [st.1]; exact Nat.lt_irrefl _)
      done := fun s Q E st hE => wpAny_nextOf_tuple_end hh st.2.1 st.2.2 hx hE }
  exact wpAny_pyNext_enum_endD D he ⟨rfl, hit, ht⟩ hQ
def IteT (K : PySem.W.Frag) (a : Addr) : It where
  go i H := ∃ xs x, SqT K H a xs ∧ xs[i]? = some x
  yld i H v H' := ∃ T x, v = .ref T ∧ H T = none ∧ H' = upd H T (.tup [.int (i : Nat), x]) ∧ ∀ xs, SqT K H a xs → xs[i]? = some x
  stop i H := ∃ xs, SqT K H a xs ∧ xs.length ≤ i
def IeB (K : PySem.W.Frag) (b : Bool) (a : Addr) : It := if b = true then Ite K a else IteT K a
theorem walk_enumB {K : PySem.W.Frag} {b : Bool} {a : Addr} {xs : List V} : Walk (IeB K b a) xs.length (fun H => Sq K b H a xs) (YPair (fun i => some (.int (i : Nat))) (fun i => xs[i]?)) := by
  cases b
  · refine ⟨fun i H hi q => ⟨xs, xs[i], q, by simp [hi]⟩, fun H q => ⟨xs, q, Nat.le_refl _⟩, fun i H v H' hi q y => ?_⟩
    obtain ⟨T, x, e1, e2, e3, e4⟩ := y
    exact ⟨T, _, x, e1, e2, e3, rfl, e4 xs q⟩
  · exact walk_enum
theorem turn_enumT {P : Program} {w : World} {K : PySem.W.Frag} {elts : List Expr} {kk : Nat} {tpos : Pos} (a e it : Addr) (hai : a ≠ it) (hae : a ≠ e) :
    Turn P w K (.Tuple elts kk tpos) (IteT K a) [e, it] e (fun i h => (∃ old, IsEnum h e it ((i : Nat) : Int) old) ∧ h.IsTupleIter it a i ∧ e ≠ it) where
  mem := List.mem_cons_self
  obj := fun i h st b hb => by
    obtain ⟨⟨old, he⟩, ⟨o, ho, hc, hd⟩, _⟩ := st
    rcases List.mem_cons.mp hb with rfl | hb
    · exact ⟨_, he, fun v q => nomatch q⟩
    · obtain rfl := List.mem_singleton.mp hb
      exact ⟨o, ho, fun v q => nomatch (hd.symm.trans q)⟩
  keep := fun i h h' st k => by
    obtain ⟨⟨old, he⟩, ⟨o, ho, r⟩, ne⟩ := st
    exact ⟨⟨old, k e (by simp) _ he⟩, ⟨o, k it (by simp) _ ho, r⟩, ne⟩
  item := by
    rintro X rfl rfl rfl calm i pins s σ H E I apart st ⟨xs, x, hq, hx⟩
    obtain ⟨⟨old, he⟩, hit, ne⟩ := st
    obtain ⟨its, rv, p, small⟩ := I.tuple hq
    obtain ⟨u, hu, ru⟩ := rv.get hx
    have el : e < s.heap.objs.size := Heap.lt_size he
    have il : it < s.heap.objs.size := hit.elim fun o q => Heap.lt_size q.1
    have hp : s.heap.IsTuple a its.toArray := p
    have len : i < its.toArray.size := by
      have := (List.getElem?_eq_some_iff.mp hu).1
      simpa using this
    have D := Draws.tuple (prog := X.prog) (w := X.w) (A := X.A.in1) (I.ok.hd calm) it a hai its.toArray
    refine wpAny_pyNext_enum_itemD D he ⟨hit, hp⟩ len ne (by simp [ne, hae.symm]) fun v h' tk hv out st' pair sz keep => ⟨_, rfl, wpAny_letOwnedTupleGo_enum (s := { s with heap := h', toks := tk + 1 }) out fun h'' he' but => ?_⟩
    obtain rfl : v = u := Option.some.inj (hv.symm.trans (by simpa using hu))
    have pair' : h''.get? s.heap.objs.size = some { cls := .type "tuple", data := .seq #[.int i tk, v] } := (but.2 _ (Nat.ne_of_gt el)).trans pair
    have off : ∀ b, b ∉ [e, it] → b ≠ e ∧ b ≠ it := fun b hb => ⟨fun q => hb (by simp [q]), fun q => hb (by simp [q])⟩
    have I1 : Inv X pins σ (upd H s.heap.objs.size (.tup [.int (i : Nat), x])) { s with heap := h'', toks := tk + 1 } :=
      I.turnedNew (ch := [e, it]) (fun b ob hb q => (but.2 b (off b hb).1).trans (keep b ob (off b hb).1 (off b hb).2 q)) apart (Nat.le_refl _) ⟨by show 2 ≤ sizeLine; decide, [.int i tk, v], .cons ⟨_, rfl⟩ (.cons ru .nil), ⟨_, pair', rfl, _, rfl⟩⟩
    obtain ⟨⟨oi, hoi, ri⟩, _⟩ := st'
    have nxt : ((i + 1 : Nat) : Int) = (i : Int) + 1 := by omega
    refine ⟨.ref s.heap.objs.size, _, I1, rfl, ⟨_, x, rfl, I.hok.fresh (Nat.le_refl _), rfl, fun ys hy => ?_⟩, ⟨⟨v, by rw [nxt]; exact he'⟩, ⟨oi, (but.2 it ne.symm).trans hoi, ri⟩, ne⟩, fun b hb => ?_⟩
    · obtain rfl := I.tuple_inj hy hq
      exact hx
    · have lt : b < s.heap.objs.size := by
        rcases List.mem_cons.mp hb with rfl | hb
        · exact el
        · exact List.mem_singleton.mp hb ▸ il
      exact (upd_ne (Nat.ne_of_lt lt)).trans (apart b hb).1
  done := by
    rintro X rfl rfl rfl calm i pins s σ H E I apart st ⟨xs, hq, hx⟩
    obtain ⟨⟨old, he⟩, hit, ne⟩ := st
    obtain ⟨its, rv, p, small⟩ := I.tuple hq
    have hp : s.heap.IsTuple a its.toArray := p
    have none : its.toArray[i]? = none := by
      have l := rv.length
      rw [List.getElem?_toArray]
      exact List.getElem?_eq_none (by omega)
    have hd : X.A.in1.handled = .none := I.ok.hd calm
    obtain ⟨f0, f1, f2, f3, f4, f5⟩ := apart it (by simp)
    refine enumT_end hd he hit hp none fun h' eb => ⟨rfl, I.turned (t' := s.toks) (fun b o hb q => eb b o hb q) f0 f1 f3 f4 f5⟩
  self := fun A i s Q E st h => st.1.elim fun _ he => wpAny_pyIter_enum he h
def iEnumB (K : PySem.W.Frag) (ta : TA) : TI := fun σ H R => ta σ H fun vs H1 => ∃ b a xs, vs = [.ref a] ∧ Sq K b H1 a xs ∧ R (IeB K b a) H1
theorem pi_enumB {X : Cx} {e : Expr} {ta : TA} {p pos tpos : Pos} {elts : List Expr} {kk : Nat} (hg : Gl X "enumerate") (hm : X.mg "enumerate" = none) (ha : PA X [e] ta) (one : starEach [e] X.env = [(false, eval e X.env)] := by rfl) :
    PI X (.Tuple elts kk tpos) (.Call (.Name "enumerate" p) [e] [] pos) (iEnumB X.K ta) := by
  refine ⟨fun pins s σ H R I h => Call_ (ld_blt I hg hm boot_enumerate (PyProof.Rows.callWith_type1 (thn (ha.run pos pins s σ H _ I h) fun us s1 got => ?_) one rfl))⟩
  obtain ⟨vs, H1, I1, r1, b, a, xs, rfl, hs, q⟩ := got
  obtain ⟨u, rfl, ru⟩ : ∃ u, us = [u] ∧ RelV (.ref a) u := by
    cases r1 with
    | cons r rr => cases rr; exact ⟨_, rfl, r⟩
  obtain rfl : u = Value.ref a := ru
  have young : ∀ b ∈ [s1.heap.objs.size + 1, s1.heap.objs.size], s1.heap.objs.size ≤ b := fun b hb => by
    rcases List.mem_cons.mp hb with rfl | hb
    · exact Nat.le_add_right _ _
    · exact Nat.le_of_eq (List.mem_singleton.mp hb).symm
  have fp : ∀ b ∈ [s1.heap.objs.size + 1, s1.heap.objs.size], FpOk X pins H1 b := fun b hb => I1.fpOk (young b hb) (I1.hok.fresh (young b hb))
  cases b
  · obtain ⟨its, _, p, _⟩ := I1.tuple hs
    have hp : s1.heap.IsTuple a its.toArray := p
    have la : a < s1.heap.objs.size := hp.elim fun o q => Heap.lt_size q.1
    refine call_enumerate_tuple hp fun h' he hit keep => wpAny_pyIter_enum he ⟨s1.heap.objs.size + 1, _, _, _, H1, rfl, I1.kept (t' := s1.toks) keep, turn_enumT a (s1.heap.objs.size + 1) s1.heap.objs.size (Nat.ne_of_lt la) (Nat.ne_of_lt (Nat.lt_succ_of_lt la)), ⟨⟨.none, he⟩, hit, Nat.succ_ne_self _⟩, fp, q⟩
  · obtain ⟨its, _, p, _⟩ := I1.list hs
    exact call_enumerate_list p.isList fun h' he hit _ keep => wpAny_pyIter_enum he ⟨s1.heap.objs.size + 1, _, _, _, H1, rfl, I1.kept (t' := s1.toks) keep, turn_enum a (s1.heap.objs.size + 1) s1.heap.objs.size, ⟨⟨.none, he⟩, hit, Nat.succ_ne_self _⟩, fp, q⟩
/-- a comprehension of a dict over any walk -/
theorem dc_it {J : It} {n : Nat} {G : Hp → Prop} {Y : Nat → Hp → V → Hp → Prop} (w : Walk J n G Y) {g : TG} {tt : TT} {tk tv : TE} {vs : List Nat} {σ : L2.St} {H1 : Hp} {D : Addr} {o0 : HO} {Qd : Hp → Prop} (Pv : Nat → Hp → Prop) (start : Pv 0 (upd H1 D o0)) (stay : ∀ i H, i ≤ n → Pv i H → G H)
    (turn : ∀ i x H H', i < n → Pv i H → Y i H x H' → turnP D g tt tk tv vs σ (Pv (i + 1)) x H') (fin : ∀ H, Pv n H → Qd H) :
    ∃ W : Nat → Nat → Hp → Prop, (∃ m, W 0 m (upd H1 D o0)) ∧ ∀ i m H2, W i m H2 → (J.stop i H2 ∧ Qd H2) ∨ (J.go i H2 ∧ ∃ Nx : Hp → Prop, (∀ H3, Nx H3 → ∃ m', m' < m ∧ W (i + 1) m' H3) ∧ ∀ x H3, J.yld i H2 x H3 → turnP D g tt tk tv vs σ Nx x H3) := by
  refine ⟨fun i m H => i + m = n ∧ Pv i H, ⟨n, Nat.zero_add n, start⟩, fun i m H st => ?_⟩
  obtain ⟨sum, pv⟩ := st
  have g := stay i H (by omega) pv
  match m, sum with
  | 0, sum =>
    obtain rfl : i = n := sum
    exact .inl ⟨w.stops H g, fin H pv⟩
  | m + 1, sum => exact .inr ⟨w.goes i H (by omega) g, Pv (i + 1), fun H3 p3 => ⟨m, Nat.lt_succ_self m, by omega, p3⟩, fun x H3 y => turn i x H H3 (by omega) pv (w.yields i H x H3 (by omega) g y)⟩
end EV
namespace K6
open PySem PySem.Spec PyProof.Rows L2 LamX NdefX EV
def top (i : Nat) : Stmt := PySem.Challenge.pw_lastopen_k05_whole_consequences.main.body.getD i (.Pass ⟨0, 0, 0, 0⟩)
abbrev sDraw : Stmt := top 36
abbrev sPick : Stmt := top 37
abbrev sMixed : Stmt := top 38
abbrev sSame : Stmt := top 39
abbrev sFresh : Stmt := top 40
abbrev sNames : Stmt := top 41
abbrev sNeg : Stmt := top 42
abbrev sBare : Stmt := top 43
abbrev sFulls : Stmt := top 44
abbrev sHalves : Stmt := top 45
abbrev sMeets : Stmt := top 46
abbrev sForcedL : Stmt := top 47
abbrev sWithin : Stmt := top 48
abbrev sShortestL : Stmt := top 49
abbrev sDrawn : Stmt := top 50
abbrev sIsDrawn : Stmt := top 51
abbrev sLaw : Stmt := top 52
abbrev sIsName : Stmt := top 11
abbrev sIsList : Stmt := top 12
abbrev sNameOf : Stmt := top 13
abbrev sChkNames : Stmt := top 14
abbrev sChkCount : Stmt := top 15
abbrev sJoin : Stmt := top 16
abbrev sLits : Stmt := top 17
abbrev sPlaces : Stmt := top 18
abbrev sInOrder : Stmt := top 19
abbrev sWrong : Stmt := top 20
abbrev sIsClause : Stmt := top 21
abbrev sIsFull : Stmt := top 22
abbrev sChkSetting : Stmt := top 23
abbrev sFullSettings : Stmt := top 24
abbrev sBehind : Stmt := top 25
abbrev sChkSign : Stmt := top 28
abbrev sAllows : Stmt := top 29
abbrev sRowWithout : Stmt := top 30
abbrev sShortestP : Stmt := top 31
abbrev sRowMarks : Stmt := top 32
abbrev sIsCons : Stmt := top 33
abbrev sIsShortest : Stmt := top 34
/-! ### the stream of draws: at S a list of the cells' list at L, the digits' cell, the number of draws, the mixed number -/
def StreamAt (H : Hp) (S L : Addr) (c : Nat) : Prop := ∃ (ns : List Int) (a m : Int), H S = some (.lst [.ref L, .int a, .int (c : Int), .int m]) ∧ H L = some (.lst (ns.map V.int)) ∧ 0 ≤ a ∧ 0 ≤ m ∧ m < 2147483647 ∧ ns.length ≤ 63
theorem StreamAt.ne {H : Hp} {S L : Addr} {c : Nat} (h : StreamAt H S L c) : S ≠ L := by
  obtain ⟨ns, a, m, h1, h2, _⟩ := h
  refine ne_of h1 h2 fun z => ?_
  cases ns with
  | nil => cases z
  | cons n r => cases z
/-- all but the two objects of the stream stay -/
def Kept (S L : Addr) (H H' : Hp) : Prop := ∀ b o, H b = some o → b ≠ S → b ≠ L → H' b = some o
theorem Kept.refl {S L : Addr} (H : Hp) : Kept S L H H := fun _ _ h _ _ => h
theorem Kept.trans {S L : Addr} {H H1 H2 : Hp} (a : Kept S L H H1) (b : Kept S L H1 H2) : Kept S L H H2 := fun x o h h1 h2 => b x o (a x o h h1 h2) h1 h2
/-- a draw: a number from 0 to many - 1 -/
def spDraw : Sp := fun vs H Q _ => ∃ (S L : Addr) (many : Int) (c : Nat), vs = [.ref S, .int many] ∧ 0 < many ∧ many ≤ 1000 ∧ c ≤ 100000 ∧ StreamAt H S L c ∧
  ∀ (r : Int) (H' : Hp), 0 ≤ r → r < many → StreamAt H' S L (c + 1) → Kept S L H H' → Q (.int r) H'
section
variable {P : Program} {w : World} {K : PySem.W.Frag} {mg : Str → Option Value} {base : Heap}
theorem scDraw : FnScope ["_law_stream", "_law_many", "_law_digit", "_law_mixed_here"] ["_law_stream", "_law_many"] (defScope sDraw) := ⟨rfl, rfl, rfl, by decide +kernel, rfl, by decide +kernel, by decide +kernel⟩
theorem dp_ints {H : Hp} : ∀ ns : List Int, DpAll K H (ns.map V.int) (ns.map PyData.int)
  | [] => .nil
  | n :: r => .cons (.int n) (dp_ints r)
theorem lay_ints : ∀ ns : List Int, PyData.canLayAll0 (ns.map PyData.int) = true ∧ PyData.depthAll (ns.map PyData.int) ≤ 2
  | [] => ⟨rfl, Nat.zero_le _⟩
  | n :: r => by
    obtain ⟨h1, h2⟩ := lay_ints r
    refine ⟨?_, ?_⟩
    · simp only [List.map_cons, PyData.canLayAll0, PyData.canLay0, h1, Bool.and_self]
    · simp only [List.map_cons, PyData.depthAll, PyData.depth]
      omega
theorem shaped_ints (ns : List Int) : SeqAt.shaped (.list (ns.map PyData.int)) = true := by
  obtain ⟨h1, h2⟩ := lay_ints ns
  refine Bool.and_eq_true_iff.mpr ⟨?_, decide_eq_true ?_⟩
  · simp only [PyData.canLay0, h1]
  · simp only [PyData.depth]
    omega
theorem eqv_nil : ∀ ns : List Int, PyData.eqv (.list (ns.map PyData.int)) (.list []) = decide (ns = [])
  | [] => rfl
  | n :: r => by simp [PyData.eqv, PyData.eqvAll]
theorem ok_draw {f : Addr} {fd : FuncData} (F : Fun K "_law_draw" "_law_draw" sDraw f fd) (mi : mg "int" = none) : FnOk P w K mg base CX0 1 f fd ["_law_stream", "_law_many"] spDraw := by
  refine F.ok scDraw (fun vs H Q E h => ?_) (fun cdv A outer s H vs Q E hr h => ?_)
  · obtain ⟨S, L, many, c, rfl, _⟩ := h
    rfl
  · obtain ⟨S, L, many, c, rfl, m0, m1, hc, ⟨ns, a, m, hS, hL, a0, h0, h1, hn⟩, k⟩ := h
    have hu := hu_of hr
    have nSL : S ≠ L := StreamAt.ne ⟨ns, a, m, hS, hL, a0, h0, h1, hn⟩
    -- what stands behind the first if
    obtain ⟨tt, htt, hrest⟩ : ∃ tt, PSs (cxOf CX0 P w K mg base ["_law_stream", "_law_many", "_law_digit", "_law_mixed_here"] "_law_draw" (defScope sDraw) f cdv A outer s H E).nox ((defBody sDraw).drop 2) tt ∧
        ∀ (ns : List Int) (a m : Int) (H1 : Hp), H1 S = some (.lst [.ref L, .int a, .int ((c : Int) + 1), .int m]) → H1 L = some (.lst (ns.map V.int)) → 0 ≤ a → 0 ≤ m → m < 2147483647 → ns.length ≤ 63 → Kept S L H H1 →
          tt { nx := fun _ H' => Q .non H', rt := Q } [some (.ref S), some (.int many), none, none] H1 := by
      refine ⟨_, pss_cons (ps_if (pt_cmpR op_gt (pe_ix ix_list (pv 0) pe_int (fun _ _ => rfl)) pe_int (nomark _))
        (pss_cons (ps_set (i := 2) scDraw.nd rfl (.inl rfl) (pe_op op_modN (pe_callTy call_int1 (by rfl) mi (by decide +kernel) (pa_cons (pe_ix ix_list (pv 0) pe_int (fun _ _ => rfl)) pa_nil)) (pv 1)))
        (pss_cons (ps_asg (pe_op op_fdivN (pe_ix ix_list (pv 0) pe_int (fun _ _ => rfl)) (pv 1)) (pg_sub (pv 0) pe_int set_list))
        (pss_one (ps_ret (pv 2))))) pss_nil)
        (pss_cons (ps_set (i := 3) scDraw.nd rfl (.inl rfl) (pe_op op_mod (pe_op op_pow (pe_op op_add (pe_op op_add (pe_ix ix_list (pv 0) pe_int (fun _ _ => rfl)) (pe_op op_mul pe_int (pe_ix ix_list (pv 0) pe_int (fun _ _ => rfl)))) pe_int) pe_int) pe_int))
        (pss_one (ps_ret (pe_op op_modN (pe_op op_mod (pe_op op_pow (pe_op op_add (pe_op op_add (pe_op op_mul (pv 3) pe_int) (pe_op op_mul (pe_op op_mul pe_int (pe_ix ix_list (pv 0) pe_int (fun _ _ => rfl))) (pe_ix ix_list (pv 0) pe_int (fun _ _ => rfl)))) pe_int) pe_int) pe_int) (pv 1))))), fun ns a m H1 hS hL a0 h0 h1 hn hk => ?_⟩
      refine ⟨_, rfl, S, _, 1, _, rfl, rfl, SqL.of hS, rfl, _, _, rfl, rfl, _, rfl, ?_⟩
      refine ite2 (fun hp => ?_) (fun hp => ?_)
      · have ha : 0 < a := by simpa using hp
        refine ⟨_, rfl, S, _, 1, _, rfl, rfl, SqL.of hS, rfl, .inl ⟨_, rfl, _, rfl, _, _, rfl, rfl, (by omega), ?_⟩⟩
        refine ⟨_, rfl, S, _, 1, _, rfl, rfl, SqL.of hS, rfl, _, rfl, _, _, rfl, rfl, ⟨(by omega), (by omega)⟩, _, rfl, S, _, 1, 1, rfl, rfl, hS, rfl, _, rfl, ?_⟩
        have r0 := Int.fmod_nonneg_of_pos a m0
        have r1 := Int.fmod_lt_of_pos a m0
        refine k _ _ r0 r1 ⟨ns, a.fdiv many, m, upd_same, (upd_ne nSL.symm).trans hL, Int.fdiv_nonneg a0 (by omega), h0, h1, hn⟩ fun b o e n1 n2 => (upd_ne n1).trans (hk b o e n1 n2)
      · refine ⟨_, rfl, S, _, 3, _, rfl, rfl, SqL.of hS, rfl, _, rfl, S, _, 2, _, rfl, rfl, SqL.of hS, rfl, _, _, rfl, rfl, .inl ⟨(by decide), (by decide)⟩, _, _, rfl, rfl, _, _, rfl, rfl, _, _, rfl, rfl, ⟨(by decide), (by decide), ?_⟩, _, _, rfl, rfl, (by show (0 : Int) < 2147483629; decide), ?_⟩
        · show (m + 104729 * ((c : Int) + 1) + 17).natAbs < 2 ^ 64
          omega
        have g0 := Int.emod_nonneg ((m + 104729 * ((c : Int) + 1) + 17) ^ (5 : Int).toNat) (show (2147483629 : Int) ≠ 0 by decide)
        have g1 := Int.emod_lt_of_pos ((m + 104729 * ((c : Int) + 1) + 17) ^ (5 : Int).toNat) (show (0 : Int) < 2147483629 by decide)
        have hcc : ((c : Int) + 1) * ((c : Int) + 1) ≤ 100001 * 100001 := Int.mul_le_mul (by omega) (by omega) (by omega) (by omega)
        have hc0 : 0 ≤ ((c : Int) + 1) * ((c : Int) + 1) := Int.mul_nonneg (by omega) (by omega)
        have hca : 40503 * ((c : Int) + 1) * ((c : Int) + 1) = 40503 * (((c : Int) + 1) * ((c : Int) + 1)) := Int.mul_assoc ..
        refine ⟨_, rfl, _, _, rfl, rfl, .inl ⟨(by omega), (by omega)⟩, _, rfl, S, _, 2, _, rfl, rfl, SqL.of hS, rfl, _, _, rfl, rfl, .inl ⟨(by decide), (by decide)⟩, _, rfl, S, _, 2, _, rfl, rfl, SqL.of hS, rfl, _, _, rfl, rfl, .inl ⟨(by show -(2 ^ 64) < 40503 * ((c : Int) + 1); omega), (by show 40503 * ((c : Int) + 1) < 2 ^ 64; omega)⟩,
          _, _, rfl, rfl, _, _, rfl, rfl, _, _, rfl, rfl, ⟨(by decide), (by decide), ?_⟩, _, _, rfl, rfl, (by show (0 : Int) < 1000000007; decide), _, rfl, _, _, rfl, rfl, (by omega), ?_⟩
        · show ((m + 104729 * ((c : Int) + 1) + 17) ^ (5 : Int).toNat % 2147483629 * 48271 + 40503 * ((c : Int) + 1) * ((c : Int) + 1) + 13).natAbs < 2 ^ 64
          rw [hca]
          generalize ((m + 104729 * ((c : Int) + 1) + 17) ^ (5 : Int).toNat) % 2147483629 = y at g0 g1 ⊢
          omega
        exact k _ _ (Int.fmod_nonneg_of_pos _ m0) (Int.fmod_lt_of_pos _ m0) ⟨ns, a, m, hS, hL, a0, h0, h1, hn⟩ hk
    refine ⟨_, pss_cons (ps_asg (pe_op op_add (pe_ix ix_list (pv 0) pe_int (fun _ _ => rfl)) pe_int) (pg_sub (pv 0) pe_int set_list))
      (pss_cons (ps_if (PW.pt (pw_and (pt_cmpR op_eq (pe_ix ix_list (pv 0) pe_int (fun _ _ => rfl)) pe_int (nomark _)) (pw_and1 (pt_cmpR (op_neD hr.units) (pe_ix ix_list (pv 0) pe_int (fun _ _ => rfl)) (pe_lst pa_nil) (nomark _)))))
        (pss_cons (ps_asg (pe_bm PySem.F.plainAttrs_list PySem.F.slot_list_pop PySem.F.type_list_pop mt_popAt (pe_ix ix_list (pv 0) pe_int (fun _ _ => rfl)) (pa_cons pe_int pa_nil)) (pg_sub (pv 0) pe_int set_list))
        (pss_one (ps_if (pt_cmpR op_lt (pe_ix ix_list (pv 0) pe_int (fun _ _ => rfl)) (pe_op op_pow pe_int pe_int) (nomark _))
          (pss_cons (ps_asg (pe_op op_mod (pe_callTy call_int1 (by rfl) mi (by decide +kernel) (pa_cons (pe_op op_add (pe_op op_add (pe_op op_mul (pe_ix ix_list (pv 0) pe_int (fun _ _ => rfl)) pe_int) (pe_ix ix_list (pv 0) pe_int (fun _ _ => rfl))) pe_int) pa_nil)) pe_int) (pg_sub (pv 0) pe_int set_list))
          (pss_one (ps_asg pe_int (pg_sub (pv 0) pe_int set_list)))) pss_nil))) pss_nil) htt), ?_⟩
    refine ⟨_, rfl, S, _, 2, _, rfl, rfl, SqL.of hS, rfl, _, _, rfl, rfl, _, rfl, S, _, 2, 2, rfl, rfl, hS, rfl, ?_⟩
    have hS1 : upd H S (.lst [.ref L, .int a, .int ((c : Int) + 1), .int m]) S = some (.lst [.ref L, .int a, .int ((c : Int) + 1), .int m]) := upd_same
    have hL1 : upd H S (.lst [.ref L, .int a, .int ((c : Int) + 1), .int m]) L = some (.lst (ns.map V.int)) := (upd_ne nSL.symm).trans hL
    have hK1 : Kept S L H (upd H S (.lst [.ref L, .int a, .int ((c : Int) + 1), .int m])) := fun b o e n1 n2 => (upd_ne n1).trans e
    refine ⟨_, rfl, S, _, 1, _, rfl, rfl, SqL.of hS1, rfl, rfl, _, rfl, ?_⟩
    refine ite2 (fun he => ?_) (fun _ => hrest ns a m _ hS1 hL1 a0 h0 h1 hn hK1)
    -- the second half of the test: is the cells' list empty
    refine ⟨_, rfl, S, _, 0, _, rfl, rfl, SqL.of hS1, rfl, (by show 0 ≤ sizeLine; exact Nat.zero_le _), fun p hp => ?_⟩
    have nSp : S ≠ p := ne_of_none hS1 hp
    have nLp : L ≠ p := ne_of_none hL1 hp
    refine ⟨_, _, .lst (SqL.of ((upd_ne nLp).trans hL1)) (dp_ints ns), .lst (SqL.of upd_same) .nil, shaped_ints ns, rfl, _, rfl, ?_⟩
    have hS2 := (upd_ne (H := upd H S (.lst [.ref L, .int a, .int ((c : Int) + 1), .int m])) (o := HO.lst []) nSp).trans hS1
    have hL2 := (upd_ne (H := upd H S (.lst [.ref L, .int a, .int ((c : Int) + 1), .int m])) (o := HO.lst []) nLp).trans hL1
    have hK2 : Kept S L H (upd (upd H S (.lst [.ref L, .int a, .int ((c : Int) + 1), .int m])) p (.lst [])) := fun b o e n1 n2 => (upd_ne (ne_of_none (hK1 b o e n1 n2) hp)).trans (hK1 b o e n1 n2)
    rw [eqv_nil]
    cases ns with
    | nil => exact iteF (hrest [] a m _ hS2 hL2 a0 h0 h1 hn hK2)
    | cons z zs =>
      refine iteT ?_
      have hz : zs.length ≤ 62 := by rw [List.length_cons] at hn; omega
      -- the first cell is taken out and looked at
      refine ⟨_, rfl, S, _, 0, _, rfl, rfl, SqL.of hS2, rfl, .inl ⟨rfl, _, SqL.of hL2⟩, L, _, 0, 0, _, rfl, rfl, hL2, (by decide), (by decide), (by rw [List.length_map, List.length_cons]; unfold seqIndex?; simp), rfl, _, rfl, S, _, 1, 1, rfl, rfl, (upd_ne nSL).trans hS2, rfl, ?_⟩
      have hS3 : ∀ (H9 : Hp) (o : HO), upd H9 S o S = some o := fun _ _ => upd_same
      have hL3 : ∀ (H9 : Hp) (o o' : HO), upd (upd H9 L o) S o' L = some o := fun _ _ _ => (upd_ne nSL.symm).trans upd_same
      have hK3 : ∀ (o o' : HO), Kept S L H (upd (upd (upd (upd H S (.lst [.ref L, .int a, .int ((c : Int) + 1), .int m])) p (.lst [])) L o) S o') := fun o o' b u e n1 n2 => (upd_ne n1).trans ((upd_ne n2).trans (hK2 b u e n1 n2))
      refine ⟨_, rfl, S, _, 1, _, rfl, rfl, SqL.of (hS3 _ _), rfl, _, _, rfl, rfl, ⟨(by decide), (by decide), (by decide)⟩, _, _, rfl, rfl, _, rfl, ?_⟩
      refine ite2 (fun hlt => ?_) (fun hge => ?_)
      · refine ⟨_, rfl, S, _, 3, _, rfl, rfl, SqL.of (hS3 _ _), rfl, _, _, rfl, rfl, .inl ⟨(by omega), (by omega)⟩, _, rfl, S, _, 1, _, rfl, rfl, SqL.of (hS3 _ _), rfl, _, _, rfl, rfl, _, _, rfl, rfl, .inl ⟨_, rfl, _, _, rfl, rfl, (by show (0 : Int) < 2147483647; decide), _, rfl, S, _, 3, 3, rfl, rfl, hS3 _ _, rfl, _, rfl, S, _, 1, 1, rfl, rfl, hS3 _ _, rfl, ?_⟩⟩
        exact hrest zs 0 ((m * 31 + z + 7) % 2147483647) _ upd_same ((upd_ne nSL.symm).trans ((upd_ne nSL.symm).trans (hL3 _ _ _))) (by decide) (Int.emod_nonneg _ (by decide)) (Int.emod_lt_of_pos _ (by decide)) (by omega) fun b u e n1 n2 => (upd_ne n1).trans ((upd_ne n1).trans (hK3 _ _ b u e n1 n2))
      · have h9 : (10 : Int) ^ (18 : Int).toNat ≤ z := Int.not_lt.mp fun q => hge (decide_eq_true q)
        have e9 : (10 : Int) ^ (18 : Int).toNat = 1000000000000000000 := by decide
        exact hrest zs z m _ upd_same (hL3 _ _ _) (by omega) h0 h1 (by omega) (hK3 _ _)
end
/-! ### picks -/
def spPickL (K : PySem.W.Frag) : Sp := fun vs H Q _ => ∃ (S L T : Addr) (xs : List V) (c : Nat), vs = [.ref S, .ref T] ∧ SqL K H T xs ∧ (∀ H', Kept S L H H' → SqL K H' T xs) ∧ 0 < xs.length ∧ xs.length ≤ 1000 ∧ c ≤ 100000 ∧ StreamAt H S L c ∧
  ∀ (i : Nat) (v : V) (H' : Hp), xs[i]? = some v → StreamAt H' S L (c + 1) → Kept S L H H' → Q v H'
def spPickS : Sp := fun vs H Q _ => ∃ (S L : Addr) (z : Str) (c : Nat), vs = [.ref S, .str z] ∧ 0 < z.length ∧ z.length ≤ 1000 ∧ c ≤ 100000 ∧ StreamAt H S L c ∧
  ∀ (i : Nat) (ch : Nat) (H' : Hp), z.cps.toList[i]? = some ch → StreamAt H' S L (c + 1) → Kept S L H H' → Q (.str ⟨#[ch]⟩) H'
section
variable {P : Program} {w : World} {K : PySem.W.Frag} {mg : Str → Option Value} {base : Heap}
theorem scPick : FnScope ["_law_stream", "_law_things"] ["_law_stream", "_law_things"] (defScope sPick) := ⟨rfl, rfl, rfl, by decide +kernel, rfl, by decide +kernel, by decide +kernel⟩
theorem at_in {α : Type} {xs : List α} {r : Int} (h0 : 0 ≤ r) (h1 : r < xs.length) : ∃ v, xs[r.toNat]? = some v ∧ atI xs r = some v := by
  have hl : r.toNat < xs.length := by omega
  refine ⟨xs[r.toNat], List.getElem?_eq_getElem hl, ?_⟩
  have z := atI_nat (List.getElem?_eq_getElem hl)
  rwa [Int.toNat_of_nonneg h0] at z
variable {f fD : Addr} {fd fdD : FuncData}
theorem ok_pickL (F : Fun K "_law_pick" "_law_pick" sPick f fd) (GD : FnOk P w K mg base CX0 1 fD fdD ["_law_stream", "_law_many"] spDraw) (mD : mg "_law_draw" = some (.ref fD)) (kD : PySem.W.keepIn K (.ref fD) = true) (bD : L2.Binds K fdD ["_law_stream", "_law_many"] []) (ml : mg "len" = none) :
    FnOk P w K mg base CX0 2 f fd ["_law_stream", "_law_things"] (spPickL K) := by
  refine F.ok scPick (fun vs H Q E h => ?_) (fun cdv A outer s H vs Q E hr h => ?_)
  · obtain ⟨S, L, T, xs, c, rfl, _⟩ := h
    rfl
  · obtain ⟨S, L, T, xs, c, rfl, hT, hT', x0, x1, hc, hS, k⟩ := h
    refine ⟨_, pss_one (ps_ret (pe_ix ix_seq (pv 1) (pe_call GD hr (by rfl) mD kD bD .nil pass0 (pa_cons (pv 0) (pa_cons (pe_callB call_len (by rfl) ml PySem.boot_len (pa_cons (pv 1) pa_nil)) pa_nil))) (fun _ _ => rfl))), ?_⟩
    refine ⟨_, rfl, _, rfl, _, rfl, _, xs.length, rfl, .inl ⟨xs, hT, rfl⟩, S, L, _, c, rfl, by omega, by omega, hc, hS, fun r H' r0 r1 hS' hk => ?_⟩
    obtain ⟨v, e1, e2⟩ := at_in r0 r1
    exact .inl ⟨T, xs, r, v, rfl, rfl, hT' H' hk, e2, k _ v H' e1 hS' hk⟩
theorem ok_pickS (F : Fun K "_law_pick" "_law_pick" sPick f fd) (GD : FnOk P w K mg base CX0 1 fD fdD ["_law_stream", "_law_many"] spDraw) (mD : mg "_law_draw" = some (.ref fD)) (kD : PySem.W.keepIn K (.ref fD) = true) (bD : L2.Binds K fdD ["_law_stream", "_law_many"] []) (ml : mg "len" = none) :
    FnOk P w K mg base CX0 2 f fd ["_law_stream", "_law_things"] spPickS := by
  refine F.ok scPick (fun vs H Q E h => ?_) (fun cdv A outer s H vs Q E hr h => ?_)
  · obtain ⟨S, L, z, c, rfl, _⟩ := h
    rfl
  · obtain ⟨S, L, z, c, rfl, x0, x1, hc, hS, k⟩ := h
    refine ⟨_, pss_one (ps_ret (pe_ix ix_seq (pv 1) (pe_call GD hr (by rfl) mD kD bD .nil pass0 (pa_cons (pv 0) (pa_cons (pe_callB call_len (by rfl) ml PySem.boot_len (pa_cons (pv 1) pa_nil)) pa_nil))) (fun _ _ => rfl))), ?_⟩
    have hz : z.length ≤ sizeLine := by rw [sizeLine_eq]; omega
    refine ⟨_, rfl, _, rfl, _, rfl, _, z.length, rfl, ⟨hz, rfl⟩, S, L, _, c, rfl, by omega, by omega, hc, hS, fun r H' r0 r1 hS' hk => ?_⟩
    obtain ⟨ch, e1, e2⟩ := at_in (xs := z.cps.toList) r0 (by rw [Array.length_toList]; exact r1)
    exact .inr (.inr ⟨z, r, ch, rfl, rfl, hz, e2, k _ ch H' e1 hS' hk⟩)
/-! ### the same shown text -/
def spSame (K : PySem.W.Frag) : Sp := fun vs H Q _ => ∃ (x y : V) (d : PyData), vs = [x, y] ∧ Dq K H x d ∧ Dq K H y d ∧ d.showable = true ∧ d.shown.length ≤ sizeLine ∧ d.depth ≤ 60 ∧ Q (.bl true) H
theorem scSame : FnScope ["_law_found", "_law_due"] ["_law_found", "_law_due"] (defScope sSame) := ⟨rfl, rfl, rfl, by decide +kernel, rfl, by decide +kernel, by decide +kernel⟩
theorem ok_same (F : Fun K "_law_same" "_law_same" sSame f fd) (mr : mg "repr" = none) : FnG P w K mg base 1 f fd ["_law_found", "_law_due"] (spSame K) := by
  refine fng_of F scSame (fun vs H Q E h => ?_) (fun cdv A outer s H vs Q E hg hr h => ?_)
  · obtain ⟨x, y, d, rfl, _⟩ := h
    rfl
  · obtain ⟨x, y, d, rfl, hx, hy, h1, h2, h3, k⟩ := h
    refine ⟨_, pss_one (ps_ret (pe_cmpR op_eq (pe_callB (call_reprD hg hr.units) (by rfl) mr (by decide +kernel) (pa_cons (pv 0) pa_nil)) (pe_callB (call_reprD hg hr.units) (by rfl) mr (by decide +kernel) (pa_cons (pv 1) pa_nil)) (nomark _))), ?_⟩
    refine ⟨_, rfl, _, d, rfl, hx, h1, h2, h3, _, rfl, _, d, rfl, hy, h1, h2, h3, rfl, ?_⟩
    show Q (.bl (decide (V.str d.shown = V.str d.shown))) H
    rw [decide_eq_true rfl]
    exact k
end
end K6
namespace K6
open PySem PySem.Spec PyProof.Rows L2 LamX NdefX EV
theorem StreamAt.new {H : Hp} {S L p : Addr} {c : Nat} {o : HO} (h : StreamAt H S L c) (hp : H p = none) : StreamAt (upd H p o) S L c := by
  obtain ⟨ns, a, m, e1, e2, r⟩ := h
  exact ⟨ns, a, m, (upd_ne (ne_of_none e1 hp)).trans e1, (upd_ne (ne_of_none e2 hp)).trans e2, r⟩
theorem StreamAt.off {H : Hp} {S L p : Addr} {c : Nat} (h : StreamAt H S L c) (hp : H p = none) : p ≠ S ∧ p ≠ L := by
  obtain ⟨ns, a, m, e1, e2, r⟩ := h
  exact ⟨(ne_of_none e1 hp).symm, (ne_of_none e2 hp).symm⟩
theorem StreamAt.put {H : Hp} {S L p : Addr} {c : Nat} {o : HO} (h : StreamAt H S L c) (n1 : p ≠ S) (n2 : p ≠ L) : StreamAt (upd H p o) S L c := by
  obtain ⟨ns, a, m, e1, e2, r⟩ := h
  exact ⟨ns, a, m, (upd_ne n1.symm).trans e1, (upd_ne n2.symm).trans e2, r⟩
theorem Kept.new {S L p : Addr} {H H' : Hp} {o : HO} (k : Kept S L H H') (hp : H p = none) : Kept S L H (upd H' p o) := fun b u e n1 n2 => (upd_ne (ne_of_none e hp)).trans (k b u e n1 n2)
theorem Kept.none {S L p : Addr} {H H' : Hp} (k : Kept S L H H') (h : H' p = none) (n1 : p ≠ S) (n2 : p ≠ L) : H p = none := by
  cases e : H p with
  | none => rfl
  | some o =>
    have z := k p o e n1 n2
    rw [h] at z
    exact nomatch z
section
variable {X : Cx} {Kf : PySem.W.Frag} {T name id : String} {o e : Expr} {es : List Expr} {apos cpos : Pos} {to : TE} {t : TA} {r : List V → Hp → VK → Prop}
/-- as the library's rules, the fragment named: so they serve within a comprehension's block -/
theorem len_k (hK : X.K = Kf := by rfl) : CallR X (.builtin "len") (fun xs H Q => ∃ x n, xs = [x] ∧ LenV Kf x H n ∧ Q (.int n) H) := by
  subst hK
  exact call_len
end
theorem seq_at {r : Int} {n : Nat} (h0 : 0 ≤ r) (h1 : r < n) : seqIndex? r n = some r.toNat := by
  unfold seqIndex?
  simp only [show ¬ r < 0 by omega, if_false]
  rw [if_pos (by simp; omega)]
theorem perm_erase {α : Type} : ∀ (xs : List α) (i : Nat) (v : α), xs[i]? = some v → (v :: xs.eraseIdx i).Perm xs
  | [], i, v, h => by simp at h
  | x :: r, 0, v, h => by
    obtain rfl : x = v := by simpa using h
    exact .refl _
  | x :: r, i + 1, v, h => (List.Perm.swap x v _).trans ((perm_erase r i v (by simpa using h)).cons x)
/-! ### a list in another order -/
def spMixed (K : PySem.W.Frag) : Sp := fun vs H Q _ => ∃ (S L T : Addr) (b : Bool) (xs : List V) (c : Nat), vs = [.ref S, .ref T] ∧ Sq K b H T xs ∧ xs.length ≤ 1000 ∧ c + xs.length ≤ 100000 ∧ StreamAt H S L c ∧
  ∀ (ys : List V) (p : Addr) (H' : Hp), ys.Perm xs → H p = none → H' p = some (.lst ys) → StreamAt H' S L (c + xs.length) → Kept S L H H' → Q (.ref p) H'
section
variable {P : Program} {w : World} {K : PySem.W.Frag} {mg : Str → Option Value} {base : Heap} {f fD : Addr} {fd fdD : FuncData}
abbrev nMixed : List Str := ["_law_stream", "_law_things", "_law_left", "_law_k"]
theorem scMixed : FnScope nMixed ["_law_stream", "_law_things"] (defScope sMixed) := ⟨rfl, rfl, rfl, by decide +kernel, rfl, by decide +kernel, by decide +kernel⟩
theorem ok_mixed (F : Fun K "_law_mixed" "_law_mixed" sMixed f fd) (GD : FnOk P w K mg base CX0 1 fD fdD ["_law_stream", "_law_many"] spDraw) (mD : mg "_law_draw" = some (.ref fD)) (kD : PySem.W.keepIn K (.ref fD) = true) (bD : L2.Binds K fdD ["_law_stream", "_law_many"] []) (ml : mg "len" = none) (mr : mg "range" = none) (mli : mg "list" = none) :
    FnOk P w K mg base CX0 2 f fd ["_law_stream", "_law_things"] (spMixed K) := by
  refine F.ok scMixed (fun vs H Q E h => ?_) (fun cdv A outer s H vs Q E hr h => ?_)
  · obtain ⟨S, L, T, b, xs, c, rfl, _⟩ := h
    rfl
  · obtain ⟨S, L, T, b, xs, c, rfl, hT, hx, hc, hS, k⟩ := h
    refine ⟨_, pss_cons (ps_set (i := 2) scMixed.nd rfl (.inr rfl) (pe_callTy call_list_of (by rfl) mli (by decide +kernel) (pa_cons (pv 1) pa_nil)))
      (pss_one (ps_ret (pe_lc (own := [("_law_k", 3)]) (g := gName 3) (tt := tYes) rfl scMixed.nd (pi_range1 (by rfl) mr (pa_cons (pe_callB call_len (by rfl) ml PySem.boot_len (pa_cons (pv 2) pa_nil)) pa_nil)) (blkOk_by (N := nMixed) (sc := defScope sMixed) (by decide +kernel))
          (fun _ _ _ _ _ => pg_name (i := 3) scMixed.nd rfl (.inl rfl)) (fun _ _ _ _ _ => pts_nil)
          (fun _ _ _ _ _ => show PE _ _ (tBM K _ _ _ _) from pe_bm PySem.F.plainAttrs_list PySem.F.slot_list_pop PySem.F.type_list_pop mt_popAt (pv 2) (pa_cons (pe_call GD hr (by rfl) mD kD bD .nil pass0 (pa_cons (pv 0) (pa_cons (pe_callB (len_k (Kf := K)) (by rfl) ml PySem.boot_len (pa_cons (pv 2) pa_nil)) pa_nil))) pa_nil))))), ?_⟩
    refine ⟨_, rfl, T, xs, rfl, hT.any, fun l hl => ?_⟩
    have lS := hS.off hl
    refine ⟨_, rfl, _, xs.length, rfl, .inl ⟨xs, SqL.of upd_same, rfl⟩, _, rfl, by omega, by omega, fun D hD => lc_range (lo := 0) (n := xs.length) (fun i H2 => ∃ acc rest : List V, (acc ++ rest).Perm xs ∧ acc.length = i ∧ H2 l = some (.lst rest) ∧ H2 D = some (.lst acc) ∧ StreamAt H2 S L (c + i) ∧ Kept S L H H2) ?_ ?_ ?_⟩
    · have nD : l ≠ D := ne_of_none upd_same hD
      exact ⟨[], xs, .refl _, rfl, (upd_ne nD).trans upd_same, upd_same, (hS.new hl).new hD, ((Kept.refl H).new hl).new ((Kept.none ((Kept.refl H).new hl) hD ((hS.new hl).off hD).1 ((hS.new hl).off hD).2))⟩
    · rintro i H2 hi ⟨acc, rest, hp, ha, hl2, hD2, hS2, hk2⟩
      have len : acc.length + rest.length = xs.length := by rw [← List.length_append]; exact hp.length_eq
      have nD : D ≠ S ∧ D ≠ L := (hS.new hl).off hD
      refine ⟨rfl, _, rfl, .inl ⟨rfl, _, SqL.of hl2⟩, _, rfl, _, rfl, _, rest.length, rfl, .inl ⟨rest, SqL.of hl2, rfl⟩, S, L, _, _, rfl, by omega, by omega, by omega, hS2, fun r H3 r0 r1 hS3 hk3 => ?_⟩
      have hl3 := hk3 _ _ hl2 lS.1 lS.2
      have hD3 := hk3 _ _ hD2 nD.1 nD.2
      obtain ⟨v, e1, e2⟩ := at_in r0 r1
      have lt : r.toNat < rest.length := (List.getElem?_eq_some_iff.mp e1).1
      have nlD : D ≠ l := (ne_of_none (show upd H l (.lst xs) l = some (.lst xs) from upd_same) hD).symm
      refine ⟨l, rest, r, r.toNat, v, rfl, rfl, hl3, by omega, by omega, ?_, e1, acc, (upd_ne nlD).trans hD3, by rw [sizeLine_eq]; omega, acc ++ [v], rest.eraseIdx r.toNat, ?_, by rw [List.length_append, ha]; rfl, ?_, upd_same, ?_, ?_⟩
      · exact seq_at r0 r1
      · have z := perm_erase rest r.toNat v e1
        rw [List.append_assoc]
        exact ((List.perm_append_left_iff acc).mpr z).trans hp
      · exact (upd_ne nlD.symm).trans upd_same
      · have z := (hS3.put (o := .lst (rest.eraseIdx r.toNat)) lS.1 lS.2).put (o := .lst (acc ++ [v])) nD.1 nD.2
        exact z
      · exact fun b u e n1 n2 => (upd_ne (ne_of_none ((upd_ne (ne_of_none e hl)).trans e) hD)).trans ((upd_ne (ne_of_none e hl)).trans (hk3 b u (hk2 b u e n1 n2) n1 n2))
    · rintro H2 ⟨acc, rest, hp, ha, hl2, hD2, hS2, hk2⟩
      have len : acc.length + rest.length = xs.length := by rw [← List.length_append]; exact hp.length_eq
      obtain rfl : rest = [] := List.eq_nil_of_length_eq_zero (by omega)
      rw [List.append_nil] at hp
      exact k acc D H2 hp (Kept.none ((Kept.refl H).new hl) hD ((hS.new hl).off hD).1 ((hS.new hl).off hD).2) hD2 hS2 hk2
end
end K6
namespace K6
open PySem PySem.Spec PyProof.Rows L2 LamX NdefX EV
/-! ### names -/
/-- one to eight small letters -/
def Name1 (z : Str) : Prop := 1 ≤ z.length ∧ z.length ≤ 8 ∧ ∀ ch ∈ z.cps.toList, 97 ≤ ch ∧ ch ≤ 122
theorem join_nil : ∀ l : List Nat, TL.joinL [] (l.map fun c => [c]) = l
  | [] => rfl
  | [_] => rfl
  | a :: b :: r => by
    have z := join_nil (b :: r)
    show [a] ++ ([] ++ TL.joinL [] ((b :: r).map fun c => [c])) = a :: b :: r
    rw [z]
    rfl
def signs (l : List Nat) : List Str := l.map fun c => ⟨#[c]⟩
theorem len_signs : ∀ l : List Nat, ((signs l).map (·.length)).sum = l.length
  | [] => rfl
  | a :: r => by
    have z := len_signs r
    show 1 + ((signs r).map (·.length)).sum = r.length + 1
    rw [z]
    omega
theorem join_signs (l : List Nat) : (Txt.join (Str.ofString "") (signs l)).cps.toList = l := by
  rw [TL.join_eq]
  have z := TL.tl_join (Str.ofString "") (signs l)
  have e : (signs l).map TL.tl = l.map fun c => [c] := by
    unfold signs
    rw [List.map_map]
    rfl
  rw [e] at z
  exact z.trans (join_nil l)
theorem nodup_le {α : Type} [DecidableEq α] : ∀ (xs ys : List α), xs.Nodup → (∀ x ∈ xs, x ∈ ys) → xs.length ≤ ys.length
  | [], ys, _, _ => Nat.zero_le _
  | x :: r, ys, nd, sub => by
    have nd' := List.nodup_cons.mp nd
    have z := nodup_le r (ys.erase x) nd'.2 fun y hy => (List.mem_erase_of_ne (fun e : y = x => nd'.1 (e ▸ hy))).mpr (sub y (List.mem_cons_of_mem _ hy))
    rw [List.length_erase_of_mem (sub x List.mem_cons_self)] at z
    have pos : 0 < ys.length := List.length_pos_of_mem (sub x List.mem_cons_self)
    show r.length + 1 ≤ _
    omega
theorem inV_str (z : Str) : ∀ ns : List Str, inV (.str z) (ns.map V.str) = decide (z ∈ ns)
  | [] => by simp [inV]
  | n :: r => by
    have h := inV_str z r
    unfold inV at h ⊢
    rw [List.map_cons, List.any_cons, h]
    show ((n == z) || decide (z ∈ r)) = decide (z ∈ n :: r)
    by_cases e : n = z
    · subst e; simp
    · rw [beq_eq_false_iff_ne.mpr e]
      have e2 : z ≠ n := fun q => e q.symm
      simp [e2]
theorem flat_str (ns : List Str) : (ns.map V.str).all flatV = true := by
  rw [List.all_map]
  exact List.all_eq_true.mpr fun _ _ => rfl
def letters : Str := Str.ofString "abcdefghijklmnopqrstuvwxyz"
def words : List Str := ["sign", "helper", "clause", "dead", "forced", "all", "found"]
theorem words_good : ∀ z ∈ words, Name1 z := by
  have all : ∀ z ∈ words, 1 ≤ z.length ∧ z.length ≤ 8 ∧ ∀ ch ∈ z.cps.toList, 97 ≤ ch ∧ ch ≤ 122 := by decide +kernel
  exact all
theorem letter_at : ∀ i < 26, letters.cps.toList[i]? = some (97 + i) := by decide +kernel
def spare (j : Nat) : Str := (Str.ofString "q" ++ ⟨#[97 + j / 26]⟩) ++ ⟨#[97 + j % 26]⟩
theorem spare_list (j : Nat) : (spare j).cps.toList = [113, 97 + j / 26, 97 + j % 26] := rfl
theorem spare_good {j : Nat} (h : j < 676) : Name1 (spare j) := by
  refine ⟨by show 1 ≤ 3; decide, by show 3 ≤ 8; decide, fun ch hc => ?_⟩
  rw [spare_list] at hc
  have h2 : j / 26 < 26 := by omega
  have h3 : j % 26 < 26 := by omega
  simp only [List.mem_cons, List.not_mem_nil, or_false] at hc
  omega
theorem spare_inj {i j : Nat} (h : spare i = spare j) : i = j := by
  have z := congrArg (fun s : Str => s.cps.toList) h
  replace z : [113, 97 + i / 26, 97 + i % 26] = [113, 97 + j / 26, 97 + j % 26] := z
  injection z with _ z
  injection z with z1 z
  injection z with z2 _
  omega
theorem spare_free {ns : List Str} (small : ns.length ≤ 600) (all : ∀ j < 676, spare j ∈ ns) : False := by
  have nd : ((List.range 676).map spare).Nodup := List.nodup_range.map spare fun i j ne e => ne (spare_inj e)
  have z := nodup_le _ ns nd fun x hx => by
    obtain ⟨j, hj, rfl⟩ := List.mem_map.mp hx
    exact all j (List.mem_range.mp hj)
  rw [List.length_map, List.length_range] at z
  omega
def spFresh (K : PySem.W.Frag) : Sp := fun vs H Q _ => ∃ (S L T : Addr) (ns : List Str) (c : Nat), vs = [.ref S, .ref T] ∧ SqL K H T (ns.map V.str) ∧ (∀ H', Kept S L H H' → SqL K H' T (ns.map V.str)) ∧ ns.length ≤ 600 ∧ c ≤ 90000 ∧ StreamAt H S L c ∧
  ∀ (z : Str) (c' : Nat) (H' : Hp), c' ≤ c + 11 → Name1 z → z ∉ ns → StreamAt H' S L c' → Kept S L H H' → Q (.str z) H'
section
variable {P : Program} {w : World} {K : PySem.W.Frag} {mg : Str → Option Value} {base : Heap} {f fD fP : Addr} {fd fdD fdP : FuncData}
abbrev nFresh : List Str := ["_law_stream", "_law_taken", "_law_letters", "_law_words", "_law_k", "_law_name", "_law_spare"]
theorem scFresh : FnScope nFresh ["_law_stream", "_law_taken"] (defScope sFresh) := ⟨rfl, rfl, rfl, by decide +kernel, rfl, by decide +kernel, by decide +kernel⟩
theorem ok_fresh (F : Fun K "_law_fresh" "_law_fresh" sFresh f fd) (GD : FnOk P w K mg base CX0 1 fD fdD ["_law_stream", "_law_many"] spDraw) (mD : mg "_law_draw" = some (.ref fD)) (kD : PySem.W.keepIn K (.ref fD) = true) (bD : L2.Binds K fdD ["_law_stream", "_law_many"] [])
    (GL : FnOk P w K mg base CX0 2 fP fdP ["_law_stream", "_law_things"] (spPickL K)) (mP : mg "_law_pick" = some (.ref fP)) (kP : PySem.W.keepIn K (.ref fP) = true) (bP : L2.Binds K fdP ["_law_stream", "_law_things"] []) (mr : mg "range" = none) (mi : mg "int" = none) :
    FnOk P w K mg base CX0 3 f fd ["_law_stream", "_law_taken"] (spFresh K) := by
  refine F.ok scFresh (fun vs H Q E h => ?_) (fun cdv A outer s H vs Q E hr h => ?_)
  · obtain ⟨S, L, T, ns, c, rfl, _⟩ := h
    rfl
  · obtain ⟨S, L, T, ns, c, rfl, hT, hT', hn, hc, hS, k⟩ := h
    have hr1 : Room 1 _ := hr.mono (by decide)
    have rest : ∃ tt, PSs (cxOf CX0 P w K mg base nFresh "_law_fresh" (defScope sFresh) f cdv A outer s H E).nox ((defBody sFresh).drop 3) tt ∧
        ∀ (z : Str) (c' : Nat) (H1 : Hp) (W : Addr) (o4 : Option V), c' ≤ c + 11 → Name1 z → StreamAt H1 S L c' → Kept S L H H1 → tt { nx := fun _ H' => Q .non H', rt := Q } [some (.ref S), some (.ref T), some (.str letters), some (.ref W), o4, some (.str z), none] H1 := by
      refine ⟨_, pss_cons (ps_for PassesOwn.never rfl (pi_range1 (by rfl) mr (pa_cons (pe_op op_mul pe_int (pe_callTy call_int1 (by rfl) mi (by decide +kernel) (pa_cons (pe_cmpR op_in_seq (pv 5) (pv 1) rfl) pa_nil))) pa_nil)) (pg_name (i := 4) scFresh.nd rfl (.inl rfl))
        (pss_cons (ps_set (i := 6) scFresh.nd rfl (.inl rfl) (pe_op op_add_str (pe_op op_add_str pe_str (pe_ix ix_seq (pv 2) (pe_op op_fdiv (pv 4) pe_int) (fun _ _ => rfl))) (pe_ix ix_seq (pv 2) (pe_op op_mod (pv 4) pe_int) (fun _ _ => rfl))))
        (pss_one (ps_if (pt_cmpR op_notIn_seq (pv 6) (pv 1) rfl) (pss_one (ps_ret (pv 6))) pss_nil))))
        (pss_one (ps_ret (pv 5))), fun z c' H1 W o4 hc' good hS1 hk1 => ?_⟩
      have hT1 := hT' H1 hk1
      refine ⟨_, rfl, _, rfl, T, _, rfl, .inl hT1, rfl, flat_str ns, .inr ⟨_, rfl, ?_⟩⟩
      rw [inV_str]
      by_cases hz : z ∈ ns
      · rw [decide_eq_true hz]
        refine ⟨_, _, rfl, rfl, .inl ⟨by decide, by decide⟩, _, rfl, by decide, by decide, ?_⟩
        refine for_range (lo := 0) (n := 676) (fun i σ H2 => H2 = H1 ∧ (∀ j < i, spare j ∈ ns) ∧ ∃ o4 o6, σ = [some (.ref S), some (.ref T), some (.str letters), some (.ref W), o4, some (.str z), o6]) ⟨rfl, fun j hj => absurd hj (Nat.not_lt_zero j), _, _, rfl⟩ ?_ ?_
        · rintro i σ H2 hi ⟨rfl, hj, _, _, rfl⟩
          have h26 : (26 : Int) ≠ 0 := by decide
          have a1 : (0 + (i : Int)) / 26 = ((i / 26 : Nat) : Int) := by omega
          have a2 : (0 + (i : Int)) % 26 = ((i % 26 : Nat) : Int) := by omega
          have b1 : i / 26 < 26 := by omega
          have b2 : i % 26 < 26 := by omega
          have len : letters.length ≤ sizeLine := by show 26 ≤ sizeLine; decide
          refine ⟨_, rfl, _, rfl, _, _, rfl, rfl, ⟨by decide, by decide⟩, ?_⟩
          refine .inr (.inr ⟨letters, _, 97 + i / 26, rfl, rfl, len, by rw [a1]; exact atI_nat (letter_at _ b1), ?_⟩)
          refine ⟨_, _, rfl, rfl, by show 1 + 1 ≤ sizeLine; decide, _, rfl, _, rfl, _, _, rfl, rfl, by show (0 : Int) < 26; decide, ?_⟩
          refine .inr (.inr ⟨letters, _, 97 + i % 26, rfl, rfl, len, by rw [a2]; exact atI_nat (letter_at _ b2), ?_⟩)
          refine ⟨_, _, rfl, rfl, by show 2 + 1 ≤ sizeLine; decide, _, rfl, _, rfl, T, _, rfl, .inl hT1, rfl, flat_str ns, _, rfl, ?_⟩
          rw [if_pos rfl, inV_str]
          by_cases hs : spare i ∈ ns
          · have e : decide ((Str.ofString "q" ++ (⟨#[97 + i / 26]⟩ : Str)) ++ (⟨#[97 + i % 26]⟩ : Str) ∈ ns) = true := decide_eq_true hs
            rw [e]
            refine iteF ⟨rfl, fun j hj' => ?_, _, _, rfl⟩
            rcases Nat.lt_succ_iff_lt_or_eq.mp hj' with q | q
            · exact hj j q
            · exact q ▸ hs
          · have e : decide ((Str.ofString "q" ++ (⟨#[97 + i / 26]⟩ : Str)) ++ (⟨#[97 + i % 26]⟩ : Str) ∈ ns) = false := decide_eq_false hs
            rw [e]
            exact iteT ⟨_, rfl, k (spare i) c' _ hc' (spare_good hi) hs hS1 hk1⟩
        · rintro σ H2 ⟨rfl, hj, _⟩
          exact (spare_free hn hj).elim
      · rw [decide_eq_false hz]
        refine ⟨_, _, rfl, rfl, .inl ⟨by decide, by decide⟩, _, rfl, by decide, by decide, ?_⟩
        refine for_range (lo := 0) (n := 0) (fun i σ H2 => H2 = H1 ∧ ∃ o4 o6, σ = [some (.ref S), some (.ref T), some (.str letters), some (.ref W), o4, some (.str z), o6]) ⟨rfl, _, _, rfl⟩ (fun i _ _ hi _ => absurd hi (Nat.not_lt_zero i)) ?_
        rintro σ H2 ⟨rfl, _, _, rfl⟩
        exact ⟨_, rfl, k z c' _ hc' good hz hS1 hk1⟩
    obtain ⟨tt, htt, hrest⟩ := rest
    refine ⟨_, pss_cons (ps_asg (pe_tup (pa_cons pe_str (pa_cons (pe_lst (pa_cons pe_str (pa_cons pe_str (pa_cons pe_str (pa_cons pe_str (pa_cons pe_str (pa_cons pe_str (pa_cons pe_str pa_nil)))))))) pa_nil))) (pg_tup rfl (pgs_cons (pg_name (i := 2) scFresh.nd rfl (.inr rfl)) (pgs_cons (pg_name (i := 3) scFresh.nd rfl (.inl rfl)) pgs_nil))))
      (pss_cons (ps_set (i := 5) scFresh.nd rfl (.inl rfl) (pe_join pe_str (pe_lc (own := [("_law_k", 4)]) (g := gName 4) (tt := tYes) rfl scFresh.nd (pi_range1 (by rfl) mr (pa_cons (pe_ix ix_list (pe_lst (pa_cons pe_int (pa_cons pe_int (pa_cons pe_int (pa_cons pe_int (pa_cons pe_int (pa_cons pe_int pa_nil))))))) (pe_call GD hr1 (by rfl) mD kD bD .nil pass0 (pa_cons (pv 0) (pa_cons pe_int pa_nil))) (fun _ _ => rfl)) pa_nil)) (blkOk_by (N := nFresh) (sc := defScope sFresh) (by decide +kernel))
          (fun _ _ _ _ _ => pg_name (i := 4) scFresh.nd rfl (.inl rfl)) (fun _ _ _ _ _ => pts_nil) (fun _ _ _ _ _ => show PE _ _ (tOp (rIx K) _ _) from pe_ix ix_seq (pv 2) (pe_call GD hr1 (by rfl) mD kD bD .nil pass0 (pa_cons (pv 0) (pa_cons pe_int pa_nil))) (fun _ _ => rfl)))))
      (pss_cons (ps_set (i := 5) scFresh.nd rfl (.inl rfl) (pe_ifExp (pt_cmpR op_eq (pe_call GD hr1 (by rfl) mD kD bD .nil pass0 (pa_cons (pv 0) (pa_cons pe_int pa_nil))) pe_int (nomark _)) (pe_call GL hr (by rfl) mP kP bP .nil pass0 (pa_cons (pv 0) (pa_cons (pv 3) pa_nil))) (pv 5)))
      htt)), ?_⟩
    refine ⟨(by show 7 ≤ sizeLine; decide), fun W hW => ⟨(by show 2 ≤ sizeLine; decide), fun t ht => ⟨t, _, rfl, SqT.of upd_same, rfl, _, _, rfl, _, _, rfl, rfl, ?_⟩⟩⟩
    have offW := hS.off hW
    have hS1 := hS.new (o := .lst (words.map V.str)) hW
    have offt := hS1.off ht
    have hS2 := hS1.new (o := .tup [.str letters, .ref W]) ht
    refine ⟨⟨_, rfl⟩, (by show 6 ≤ sizeLine; decide), fun l hl => ⟨_, rfl, S, L, 6, c, rfl, by decide, by decide, by omega, hS2.new hl, fun r H1 r0 r1 hS3 hk1 => ?_⟩⟩
    have offl := hS2.off hl
    have six : ∃ n : Nat, atI [V.int 1, V.int 1, V.int 1, V.int 2, V.int 3, V.int 8] r = some (.int (n : Int)) ∧ 1 ≤ n ∧ n ≤ 8 := by
      have hh : r = 0 ∨ r = 1 ∨ r = 2 ∨ r = 3 ∨ r = 4 ∨ r = 5 := by omega
      rcases hh with rfl | rfl | rfl | rfl | rfl | rfl
      · exact ⟨1, rfl, by decide, by decide⟩
      · exact ⟨1, rfl, by decide, by decide⟩
      · exact ⟨1, rfl, by decide, by decide⟩
      · exact ⟨2, rfl, by decide, by decide⟩
      · exact ⟨3, rfl, by decide, by decide⟩
      · exact ⟨8, rfl, by decide, by decide⟩
    obtain ⟨n, hn6, n0, n8⟩ := six
    have hl1 := hk1 _ _ upd_same offl.1 offl.2
    refine ⟨l, _, r, _, rfl, rfl, SqL.of hl1, hn6, _, rfl, by omega, by omega, fun D hD => lc_range (lo := 0) (n := n) (fun i H2 => ∃ cs : List Nat, cs.length = i ∧ (∀ ch ∈ cs, 97 ≤ ch ∧ ch ≤ 122) ∧ H2 D = some (.lst ((K6.signs cs).map V.str)) ∧ StreamAt H2 S L (c + 1 + i) ∧ Kept S L H1 H2)
      ⟨[], rfl, fun _ h => (nomatch h), upd_same, hS3.new hD, (Kept.refl H1).new hD⟩ ?_ ?_⟩
    · rintro i H2 hi ⟨cs, hcs, hch, hD2, hS4, hk2⟩
      have offD := hS3.off hD
      refine ⟨rfl, _, rfl, _, rfl, S, L, 26, _, rfl, by decide, by decide, by omega, hS4, fun q H3 q0 q1 hS5 hk3 => .inr (.inr ⟨letters, q, 97 + q.toNat, rfl, rfl, by show 26 ≤ sizeLine; decide, ?_, _, hk3 _ _ hD2 offD.1 offD.2, ?_, cs ++ [97 + q.toNat], ?_, ?_, ?_, hS5.put offD.1 offD.2, ?_⟩)⟩
      · have z := atI_nat (letter_at q.toNat (by omega))
        rwa [Int.toNat_of_nonneg q0] at z
      · rw [List.length_map]
        unfold K6.signs
        rw [List.length_map, sizeLine_eq]
        omega
      · rw [List.length_append, hcs]
        rfl
      · intro x hx
        rcases List.mem_append.mp hx with z | z
        · exact hch x z
        · rw [List.mem_singleton.mp z]
          omega
      · rw [upd_same]
        unfold K6.signs
        rw [List.map_append, List.map_append]
        rfl
      · exact fun b o e n1 n2 => (upd_ne (ne_of_none e hD)).trans (hk3 b o (hk2 b o e n1 n2) n1 n2)
    · rintro H2 ⟨cs, hcs, hch, hD2, hS4, hk2⟩
      refine ⟨_, D, K6.signs cs, rfl, rfl, .inl (SqL.of hD2), ?_, ?_⟩
      · rw [len_signs, hcs]
        show n + (K6.signs cs).length * 0 ≤ 16777216
        omega
      have good : Name1 (Txt.join (Str.ofString "") (K6.signs cs)) := by
        have e := join_signs cs
        have el : (Txt.join (Str.ofString "") (K6.signs cs)).length = n := by
          show (Txt.join (Str.ofString "") (K6.signs cs)).cps.size = n
          rw [← Array.length_toList, e, hcs]
        exact ⟨by omega, by omega, fun ch h => hch ch (e ▸ h)⟩
      have same3 : Kept S L H H2 := ((((Kept.refl H).new hW).trans ((Kept.refl _).new ht)).trans ((Kept.refl _).new hl)).trans (hk1.trans hk2)
      have hWs : ∀ H', Kept S L H2 H' → H' W = some (.lst (words.map V.str)) := fun H' hk' => hk' _ _ (hk2 _ _ (hk1 _ _ ((upd_ne (ne_of_none (show upd (upd H W (.lst (words.map V.str))) t _ W = some (.lst (words.map V.str)) from (upd_ne (ne_of_none upd_same ht)).trans upd_same) hl)).trans ((upd_ne (ne_of_none upd_same ht)).trans upd_same)) offW.1 offW.2) offW.1 offW.2) offW.1 offW.2
      refine ⟨_, rfl, S, L, 9, _, rfl, by decide, by decide, by omega, hS4, fun q H3 q0 q1 hS5 hk3 => ⟨rfl, _, rfl, ?_⟩⟩
      refine ite2 (fun _ => ?_) (fun _ => ?_)
      · refine ⟨_, rfl, _, rfl, S, L, W, words.map V.str, _, rfl, SqL.of (hWs H3 hk3), fun H' hk' => SqL.of (hWs H' (hk3.trans hk')), by decide, by decide, by omega, hS5, fun i v H4 hi hS6 hk4 => ?_⟩
        obtain ⟨z, hz, rfl⟩ : ∃ z ∈ words, v = .str z := by
          obtain ⟨z, h1, h2⟩ := List.mem_map.mp (List.mem_of_getElem? hi)
          exact ⟨z, h1, h2.symm⟩
        exact hrest z _ H4 W _ (by omega) (words_good z hz) hS6 ((same3.trans hk3).trans hk4)
      · exact ⟨_, rfl, hrest _ _ H3 W _ (by omega) good hS5 (same3.trans hk3)⟩
end
end K6
namespace K6
open PySem PySem.Spec PyProof.Rows L2 LamX NdefX EV
def spNames : Sp := fun vs H Q _ => ∃ (S L : Addr) (m c : Nat), vs = [.ref S, .int (m : Int)] ∧ m ≤ 60 ∧ c ≤ 80000 ∧ StreamAt H S L c ∧
  ∀ (ns : List Str) (p : Addr) (c' : Nat) (H' : Hp), ns.length = m → ns.Nodup → (∀ z ∈ ns, Name1 z) → H p = none → H' p = some (.lst (ns.map V.str)) → c' ≤ c + 11 * m → StreamAt H' S L c' → Kept S L H H' → Q (.ref p) H'
section
variable {P : Program} {w : World} {K : PySem.W.Frag} {mg : Str → Option Value} {base : Heap} {f fD fF : Addr} {fd fdD fdF : FuncData}
abbrev nNames : List Str := ["_law_stream", "_law_many", "_law_found", "_law_k"]
theorem scNames : FnScope nNames ["_law_stream", "_law_many"] (defScope sNames) := ⟨rfl, rfl, rfl, by decide +kernel, rfl, by decide +kernel, by decide +kernel⟩
theorem ok_names (F : Fun K "_law_names" "_law_names" sNames f fd) (GF : FnOk P w K mg base CX0 3 fF fdF ["_law_stream", "_law_taken"] (spFresh K)) (mF : mg "_law_fresh" = some (.ref fF)) (kF : PySem.W.keepIn K (.ref fF) = true) (bF : L2.Binds K fdF ["_law_stream", "_law_taken"] []) (mr : mg "range" = none) :
    FnOk P w K mg base CX0 4 f fd ["_law_stream", "_law_many"] spNames := by
  refine F.ok scNames (fun vs H Q E h => ?_) (fun cdv A outer s H vs Q E hr h => ?_)
  · obtain ⟨S, L, m, c, rfl, _⟩ := h
    rfl
  · obtain ⟨S, L, m, c, rfl, hm, hc, hS, k⟩ := h
    refine ⟨_, pss_cons (ps_set (i := 2) scNames.nd rfl (.inl rfl) (pe_lst pa_nil))
      (pss_cons (ps_for PassesOwn.never rfl (pi_range1 (by rfl) mr (pa_cons (pv 1) pa_nil)) (pg_name (i := 3) scNames.nd rfl (.inl rfl))
        (pss_one (ps_expr (pe_bm PySem.F.plainAttrs_list PySem.F.slot_list_append PySem.F.type_list_append mt_append (pv 2) (pa_cons (pe_call GF hr (by rfl) mF kF bF .nil pass0 (pa_cons (pv 0) (pa_cons (pv 2) pa_nil))) pa_nil)))))
      (pss_one (ps_ret (pv 2)))), ?_⟩
    refine ⟨by show 0 ≤ sizeLine; exact Nat.zero_le _, fun p hp => ⟨_, rfl, _, rfl, by omega, by omega, for_range (lo := 0) (n := m) (fun i σ H2 => ∃ (ns : List Str) (c' : Nat) (o3 : Option V), σ = [some (.ref S), some (.int (m : Int)), some (.ref p), o3] ∧ ns.length = i ∧ ns.Nodup ∧ (∀ z ∈ ns, Name1 z) ∧ H2 p = some (.lst (ns.map V.str)) ∧ c' ≤ c + 11 * i ∧ StreamAt H2 S L c' ∧ Kept S L H H2)
      ⟨[], c, _, rfl, rfl, List.nodup_nil, (fun _ h => nomatch h), upd_same, by omega, hS.new hp, (Kept.refl H).new hp⟩ ?_ ?_⟩⟩
    · rintro i σ H2 hi ⟨ns, c', o3, rfl, hl, nd, good, hp2, hc', hS2, hk2⟩
      have off := hS.off hp
      refine ⟨_, rfl, .inl ⟨rfl, _, SqL.of hp2⟩, _, rfl, _, rfl, S, L, p, ns, c', rfl, SqL.of hp2, fun H' hk' => SqL.of (hk' _ _ hp2 off.1 off.2), by omega, by omega, hS2, fun z c2 H3 hc2 hz hn hS3 hk3 => ?_⟩
      have hp3 := hk3 _ _ hp2 off.1 off.2
      refine ⟨p, _, _, rfl, rfl, hp3, by rw [List.length_map, sizeLine_eq]; omega, ns ++ [z], c2, _, rfl, by rw [List.length_append, hl]; rfl, ?_, ?_, ?_, by omega, hS3.put off.1 off.2, ?_⟩
      · exact List.nodup_append.mpr ⟨nd, List.nodup_cons.mpr ⟨fun h => (nomatch h), List.nodup_nil⟩, fun a ha b hb e => hn (by rw [← List.mem_singleton.mp hb, ← e]; exact ha)⟩
      · intro y hy
        rcases List.mem_append.mp hy with q | q
        · exact good y q
        · exact List.mem_singleton.mp q ▸ hz
      · rw [upd_same, List.map_append]
        rfl
      · exact fun b o e n1 n2 => (upd_ne (ne_of_none e hp)).trans (hk3 b o (hk2 b o e n1 n2) n1 n2)
    · rintro σ H2 ⟨ns, c', o3, rfl, hl, nd, good, hp2, hc', hS2, hk2⟩
      exact ⟨_, rfl, k ns p c' H2 hl nd good hp hp2 hc' hS2 hk2⟩
end
theorem same_new {H : Hp} {p : Addr} {o : HO} (h : H p = none) : Same H (upd H p o) := fun _ _ e => (upd_ne (ne_of_none e h)).trans e
/-! ### literals, ascending -/
def neg (n : Str) : Str := Str.ofString "-" ++ n
def lits (ns : List Str) : List Str := ns.flatMap fun n => [n, neg n]
def asc (ns some : List Str) : List Str := (lits ns).filter fun l => decide (l ∈ some)
theorem neg_list (n : Str) : (neg n).cps.toList = 45 :: n.cps.toList := by
  show (#[45] ++ n.cps).toList = _
  rw [Array.toList_append]
  rfl
theorem neg_len (n : Str) : (neg n).length = n.length + 1 := by
  show (neg n).cps.size = n.cps.size + 1
  rw [← Array.length_toList, neg_list, List.length_cons, Array.length_toList]
theorem lits_len (ns : List Str) : (lits ns).length = 2 * ns.length := by
  unfold lits
  induction ns with
  | nil => rfl
  | cons n r ih => rw [List.flatMap_cons, List.length_append, ih]; show 2 + 2 * r.length = 2 * (r.length + 1); omega
theorem asc_len (ns some : List Str) : (asc ns some).length ≤ 2 * ns.length := Nat.le_trans (List.length_filter_le ..) (Nat.le_of_eq (lits_len ns))
section
variable {P : Program} {w : World} {K : PySem.W.Frag} {mg : Str → Option Value} {base : Heap} {f : Addr} {fd : FuncData}
end
end K6
namespace K6
open PySem PySem.Spec PyProof.Rows L2 LamX NdefX EV
/-- a literal: a name, or its other side -/
def lit (q : Bool × Str) : Str := if q.1 = true then neg q.2 else q.2
/-- literals of distinct names of these -/
structure Lits (ns : List Str) (qs : List (Bool × Str)) : Prop where
  nd : (qs.map Prod.snd).Nodup
  sub : ∀ q ∈ qs, q.2 ∈ ns
theorem Kept.add {S L p : Addr} {H H' : Hp} {o : HO} (k : Kept S L H H') (h : H' p = Option.none) (off : p ≠ S ∧ p ≠ L) : Kept S L H (upd H' p o) := k.new (k.none h off.1 off.2)
theorem empty_add (n : Str) : Str.ofString "" ++ n = n := by
  obtain ⟨c⟩ := n
  show Str.mk (#[] ++ c) = _
  rw [Array.empty_append]
theorem unmap_str : ∀ (ys : List V) (xs : List Str), ys.Perm (xs.map V.str) → ∃ ms : List Str, ys = ms.map V.str ∧ ms.Perm xs := by
  intro ys xs h
  let un : V → Str := fun v => match v with | .str z => z | _ => Str.ofString ""
  have all : ∀ y ∈ ys, V.str (un y) = y := fun y hy => by
    obtain ⟨z, _, rfl⟩ := List.mem_map.mp (h.mem_iff.mp hy)
    rfl
  refine ⟨ys.map un, ?_, ?_⟩
  · rw [List.map_map]
    exact ((List.map_congr_left (f := V.str ∘ un) (g := id) all).trans (List.map_id ys)).symm
  · have z := h.map un
    rw [List.map_map] at z
    have e : xs.map (un ∘ V.str) = xs := (List.map_congr_left (g := id) fun _ _ => rfl).trans (List.map_id xs)
    rwa [e] at z
theorem dp_strs {K : PySem.W.Frag} {H : Hp} : ∀ ns : List Str, DpAll K H (ns.map V.str) (ns.map PyData.str)
  | [] => .nil
  | n :: r => .cons (.str n) (dp_strs r)
/-- a text of code points that are few enough -/
def Fit (z : Str) : Prop := ∀ ch ∈ z.cps.toList, ch < 128
theorem Fit.ok {z : Str} (h : Fit z) : PyData.strOk z = true := by
  show z.cps.all (fun c => decide (c < 0x110000)) = true
  rw [← Array.all_toList]
  exact List.all_eq_true.mpr fun c hc => decide_eq_true (Nat.lt_trans (h c hc) (by decide))
theorem Name1.fit {z : Str} (h : Name1 z) : Fit z := fun ch hc => Nat.lt_of_le_of_lt (h.2.2 ch hc).2 (by decide)
theorem Fit.neg {z : Str} (h : Fit z) : Fit (neg z) := fun ch hc => by
  rw [neg_list] at hc
  rcases List.mem_cons.mp hc with rfl | q
  · decide
  · exact h ch q
theorem Fit.lit {q : Bool × Str} (h : Fit q.2) : Fit (lit q) := by
  unfold K6.lit
  split
  · exact h.neg
  · exact h
theorem lay_strs : ∀ ns : List Str, (∀ z ∈ ns, Fit z) → PyData.canLayAll0 (ns.map PyData.str) = true ∧ PyData.depthAll (ns.map PyData.str) ≤ 2
  | [], _ => ⟨rfl, Nat.zero_le _⟩
  | n :: r, f => by
    obtain ⟨h1, h2⟩ := lay_strs r fun z h => f z (List.mem_cons_of_mem _ h)
    have h0 := (f n List.mem_cons_self).ok
    refine ⟨?_, ?_⟩
    · simp only [List.map_cons, PyData.canLayAll0, PyData.canLay0, h1, h0, Bool.and_self]
    · simp only [List.map_cons, PyData.depthAll, PyData.depth]
      omega
theorem shaped_strs (ns : List Str) (f : ∀ z ∈ ns, Fit z) : SeqAt.shaped (.list (ns.map PyData.str)) = true := by
  obtain ⟨h1, h2⟩ := lay_strs ns f
  refine Bool.and_eq_true_iff.mpr ⟨?_, decide_eq_true ?_⟩
  · simp only [PyData.canLay0, h1]
  · simp only [PyData.depth]
    omega
theorem eqv_nilS : ∀ ns : List Str, PyData.eqv (.list (ns.map PyData.str)) (.list []) = decide (ns = [])
  | [] => rfl
  | n :: r => by simp [PyData.eqv, PyData.eqvAll]
theorem cutV_take (xs : List V) (k : Nat) : cutV xs none (some (k : Int)) = xs.take k := by
  unfold cutV
  rw [HT.sIx_none, HT.sIx_nat, List.drop_zero, Nat.sub_zero]
  by_cases h : k ≤ xs.length
  · rw [Nat.min_eq_left h]
  · rw [Nat.min_eq_right (by omega), List.take_of_length_le (Nat.le_refl _), List.take_of_length_le (by omega)]
theorem cutV_drop (xs : List V) (k : Nat) : cutV xs (some (k : Int)) none = xs.drop k := by
  unfold cutV
  rw [HT.sIx_none, HT.sIx_nat]
  by_cases h : k ≤ xs.length
  · rw [Nat.min_eq_left h, List.take_of_length_le (by rw [List.length_drop]; exact Nat.le_refl _)]
  · rw [Nat.min_eq_right (by omega), Nat.sub_self, List.take_zero, List.drop_eq_nil_of_le (by omega)]
section
variable {P : Program} {w : World} {K : PySem.W.Frag} {mg : Str → Option Value} {base : Heap} {f fD fM fS : Addr} {fd fdD fdM fdS : FuncData}
end
end K6
namespace K6
open PySem PySem.Spec PyProof.Rows L2 LamX NdefX EV
theorem hu65 {A : Around} {k : Nat} (hr : Room k A) : A.units + 65 < cLine := by
  have := hr.un
  omega
/-! ### rows: tuples of texts that stand in the heap -/
def TupAt (H : Hp) (t : Addr) (r : List Str) : Prop := H t = some (.tup (r.map V.str))
abbrev RowsAt (H : Hp) : List Addr → List (List Str) → Prop := Paired (TupAt H)
theorem RowsAt.same {H H' : Hp} (sm : Same H H') {ts : List Addr} {rs : List (List Str)} (h : RowsAt H ts rs) : RowsAt H' ts rs := by
  induction h with
  | nil => exact .nil
  | cons a _ ih => exact .cons (sm _ _ a) ih
theorem RowsAt.get {H : Hp} : ∀ {ts : List Addr} {rs : List (List Str)}, RowsAt H ts rs → ∀ (i : Nat) (t : Addr), ts[i]? = some t → ∃ r, rs[i]? = some r ∧ TupAt H t r
  | _, _, .nil, i, t, h => by simp at h
  | _, _, .cons a _, 0, t, h => ⟨_, rfl, by simp at h; exact h ▸ a⟩
  | _, _, .cons _ q, i + 1, t, h => by simpa using RowsAt.get q i t (by simpa using h)
theorem RowsAt.put {H : Hp} {p : Addr} {xs : List V} {o : HO} (hp : H p = some (.lst xs)) {ts : List Addr} {rs : List (List Str)} (h : RowsAt H ts rs) : RowsAt (upd H p o) ts rs := by
  induction h with
  | nil => exact .nil
  | cons a _ ih => exact .cons ((upd_ne (ne_of a hp fun z => nomatch z)).trans a) ih
theorem RowsAt.lift {K : PySem.W.Frag} {H : Hp} : ∀ {ts : List Addr} {rs : List (List Str)}, RowsAt H ts rs → DpAll K H (ts.map V.ref) (rs.map fun r => PyData.tuple (r.map PyData.str))
  | _, _, .nil => .nil
  | _, _, .cons a q => .cons (.tup (SqT.of a) (dp_strs _)) (RowsAt.lift q)
theorem lay_rows : ∀ rs : List (List Str), (∀ r ∈ rs, ∀ z ∈ r, Fit z) → PyData.canLayAll0 (rs.map fun r => PyData.tuple (r.map PyData.str)) = true ∧ PyData.depthAll (rs.map fun r => PyData.tuple (r.map PyData.str)) ≤ 5
  | [], _ => ⟨rfl, Nat.zero_le _⟩
  | r :: rs, f => by
    obtain ⟨h1, h2⟩ := lay_rows rs fun r h => f r (List.mem_cons_of_mem _ h)
    obtain ⟨h3, h4⟩ := lay_strs r (f r List.mem_cons_self)
    refine ⟨?_, ?_⟩
    · simp only [List.map_cons, PyData.canLayAll0, PyData.canLay0, h1, h3, Bool.and_self]
    · simp only [List.map_cons, PyData.depthAll, PyData.depth]
      omega
theorem shaped_row (r : List Str) (f : ∀ z ∈ r, Fit z) : SeqAt.shaped (.tuple (r.map PyData.str)) = true := by
  obtain ⟨h1, h2⟩ := lay_strs r f
  refine Bool.and_eq_true_iff.mpr ⟨?_, decide_eq_true ?_⟩
  · simp only [PyData.canLay0, h1]
  · simp only [PyData.depth]
    omega
theorem shaped_rows (rs : List (List Str)) (f : ∀ r ∈ rs, ∀ z ∈ r, Fit z) : SeqAt.shaped (.list (rs.map fun r => PyData.tuple (r.map PyData.str))) = true := by
  obtain ⟨h1, h2⟩ := lay_rows rs f
  refine Bool.and_eq_true_iff.mpr ⟨?_, decide_eq_true ?_⟩
  · simp only [PyData.canLay0, h1]
  · simp only [PyData.depth]
    omega
theorem eqvAll_strs : ∀ a b : List Str, PyData.eqvAll (a.map PyData.str) (b.map PyData.str) = decide (a = b)
  | [], [] => rfl
  | [], _ :: _ => by simp [PyData.eqvAll]
  | _ :: _, [] => by simp [PyData.eqvAll]
  | x :: a, y :: b => by
    have h := eqvAll_strs a b
    simp only [List.map_cons, PyData.eqvAll, PyData.eqv, h]
    by_cases e : x = y
    · subst e; simp
    · simp [e]
theorem eqv_row (a b : List Str) : PyData.eqv (.tuple (a.map PyData.str)) (.tuple (b.map PyData.str)) = decide (a = b) := by
  rw [PyData.eqv]
  exact eqvAll_strs a b
theorem any_rows (r : List Str) : ∀ rs : List (List Str), ((rs.map fun r => PyData.tuple (r.map PyData.str)).any fun z => PyData.eqv z (.tuple (r.map PyData.str))) = decide (r ∈ rs)
  | [] => by simp
  | x :: rs => by
    rw [List.map_cons, List.any_cons, any_rows r rs, eqv_row]
    by_cases e : x = r
    · subst e; simp
    · have e2 : r ≠ x := fun q => e q.symm
      simp [e, e2]
theorem lits_fit {ns : List Str} (f : ∀ z ∈ ns, Fit z) : ∀ l ∈ lits ns, Fit l := fun l h => by
  obtain ⟨n, hn, hl⟩ := List.mem_flatMap.mp h
  rcases List.mem_cons.mp hl with rfl | hl
  · exact f _ hn
  · exact List.mem_singleton.mp hl ▸ (f n hn).neg
theorem asc_fit {ns ls : List Str} (f : ∀ z ∈ ns, Fit z) : ∀ l ∈ asc ns ls, Fit l := fun l h => lits_fit f l ((List.mem_filter.mp h).1)
section
variable {P : Program} {w : World} {K : PySem.W.Frag} {mg : Str → Option Value} {base : Heap} {f fU : Addr} {fd fdU : FuncData}
theorem get_map {α β : Type} {g : α → β} {xs : List α} {i : Nat} {y : β} (h : (xs.map g)[i]? = some y) : ∃ x, xs[i]? = some x ∧ y = g x := by
  rw [List.getElem?_map] at h
  cases e : xs[i]? with
  | none => rw [e] at h; cases h
  | some x => rw [e] at h; exact ⟨x, rfl, (Option.some.inj h).symm⟩
theorem paired_get {α β : Type} {R : α → β → Prop} : ∀ {xs : List α} {ys : List β}, Paired R xs ys → ∀ (i : Nat) (x : α), xs[i]? = some x → ∃ y, ys[i]? = some y ∧ R x y
  | _, _, .nil, i, x, h => by simp at h
  | _, _, .cons a _, 0, x, h => ⟨_, rfl, by simp at h; exact h ▸ a⟩
  | _, _, .cons _ q, i + 1, x, h => by simpa using paired_get q i x (by simpa using h)
end
end K6
namespace K6
open PySem PySem.Spec PyProof.Rows L2 LamX NdefX EV
/-- a row of a code: the ascending literals of a clause over these names -/
def RowOf (ns r : List Str) : Prop := ∃ qs, Lits ns qs ∧ r = asc ns (qs.map lit)
section
variable {P : Program} {w : World} {K : PySem.W.Frag} {mg : Str → Option Value} {base : Heap} {f fD fN fC fO : Addr} {fd fdD fdN fdC fdO : FuncData}
end
end K6
namespace K6
open PySem PySem.Spec PyProof.Rows L2 LamX NdefX EV
/-! ### the program: names and literals -/
theorem in_letters {ch : Nat} (h : 97 ≤ ch ∧ ch ≤ 122) : ch ∈ letters.cps.toList := by
  have z := letter_at (ch - 97) (by omega)
  have e : 97 + (ch - 97) = ch := by omega
  rw [e] at z
  exact List.mem_of_getElem? z
def spIsName : Sp := fun vs H Q _ => ∃ z : Str, vs = [.str z] ∧ Name1 z ∧ ∀ H', Same H H' → Q (.bl true) H'
section
variable {P : Program} {w : World} {K : PySem.W.Frag} {mg : Str → Option Value} {base : Heap} {f fI : Addr} {fd fdI : FuncData}
abbrev nIsName : List Str := ["thing", "letter"]
theorem scIsName : FnScope nIsName ["thing"] (defScope sIsName) := ⟨rfl, rfl, rfl, by decide +kernel, rfl, by decide +kernel, by decide +kernel⟩
theorem ok_isName (F : Fun K "is_name" "is_name" sIsName f fd) (mi : mg "isinstance" = none) (ms : mg "str" = none) (ml : mg "len" = none) (ma : mg "all" = none) (mL : ∃ t, mg "LETTERS" = some (.str letters t)) (mM : ∃ t, mg "MOST_LETTERS" = some (.int 8 t)) :
    FnOk P w K mg base CX0 1 f fd ["thing"] spIsName := by
  obtain ⟨tL, mL⟩ := mL
  obtain ⟨tM, mM⟩ := mM
  refine F.ok scIsName (fun vs H Q E h => ?_) (fun cdv A outer s H vs Q E hr h => ?_)
  · obtain ⟨z, rfl, _⟩ := h
    rfl
  · obtain ⟨z, rfl, good, k⟩ := h
    refine ⟨_, pss_cons (ps_if (PW.pt (pw_or (pt_not (pt_val (pe_callB call_isi (by rfl) mi (by decide +kernel) (pa_cons (pv 0) (pa_cons (pe_bltn (v := .ty "str") (by rfl) ms (by decide +kernel) rfl) pa_nil))))) (pw_or1 (pt_not (pt_chain op_le op_le pe_int (pe_callB call_len (by rfl) ml PySem.boot_len (pa_cons (pv 0) pa_nil)) (pe_glob (v := .int 8) (by rfl) mM ⟨_, rfl⟩))))))
        (pss_one (ps_ret pe_bl)) pss_nil)
      (pss_one (ps_ret (pe_callB (cr_all rfl) (by rfl) ma (by decide +kernel) (pa_cons (pe_lc (own := [("letter", 1)]) (g := gName 1) (tt := tYes) rfl scIsName.nd (pi_str (pv 0)) (blkOk_by (N := nIsName) (sc := defScope sIsName) (by decide +kernel))
          (fun _ _ _ _ _ => pg_name (i := 1) scIsName.nd rfl (.inl rfl)) (fun _ _ _ _ _ => pts_nil) (fun _ _ _ _ _ => pe_cmpR op_in_sign (pv 1) (pe_glob (v := .str letters) (by rfl) mL ⟨_, rfl⟩) rfl)) pa_nil)))), ?_⟩
    have g1 := good.1
    have g2 := good.2.1
    have lz : z.length ≤ sizeLine := by rw [sizeLine_eq]; omega
    refine ⟨_, rfl, _, _, _, _, true, rfl, .ty "str", .base (.str z), kit_ty (by decide +kernel), _, rfl, ?_⟩
    refine iteF ⟨_, rfl, _, z.length, rfl, ⟨lz, rfl⟩, ?_⟩
    refine ⟨_, _, rfl, rfl, _, rfl, ?_⟩
    have d1 : decide ((1 : Int) ≤ ((z.length : Nat) : Int)) = true := decide_eq_true (by omega)
    have d2 : decide (((z.length : Nat) : Int) ≤ 8) = true := decide_eq_true (by omega)
    rw [d1]
    refine iteT ⟨_, _, rfl, rfl, _, rfl, ?_⟩
    rw [d2]
    refine iteF ⟨_, rfl, z, rfl, fun D hD => lc_it walk_str (fun i H2 => Same H H2 ∧ H2 D = some (.lst ((List.replicate i true).map V.bl))) ⟨same_new hD, upd_same⟩ (fun _ _ _ _ => trivial) ?_ ?_⟩
    · rintro i x H2 H3 hi ⟨sm, hD2⟩ ⟨rfl, ch, hch, rfl⟩
      have mem : ch ∈ z.cps.toList := List.mem_of_getElem? (by rw [Array.getElem?_toList]; exact hch)
      have zl : z.cps.size = z.length := rfl
      refine ⟨rfl, _, rfl, ch, letters, rfl, rfl, _, hD2, by rw [List.length_map, List.length_replicate, sizeLine_eq]; omega, fun b o e => (upd_ne (ne_of_none e hD)).trans (sm b o e), ?_⟩
      rw [upd_same, decide_eq_true (in_letters (good.2.2 ch mem)), List.replicate_succ', List.map_append]
      rfl
    · rintro H2 ⟨sm, hD2⟩
      refine ⟨D, _, rfl, SqL.of hD2, ?_⟩
      have e : (List.replicate z.cps.size true).all id = true := List.all_eq_true.mpr fun x hx => (List.mem_replicate.mp hx).2
      rw [e]
      exact k H2 sm
end
end K6
namespace K6
open PySem PySem.Spec PyProof.Rows L2 LamX NdefX EV
/-- a comprehension of two fors over any walks: the outer one, and the inner one within a turn of it -/
theorem lc2_it {J : It} {n : Nat} {G : Hp → Prop} {Y : Nat → Hp → V → Hp → Prop} (w : Walk J n G Y) {D : Addr} {H1 : Hp} {Qd : Hp → Prop} {T : (Hp → Prop) → V → Hp → Prop} (Pv : Nat → Hp → Prop) (start : Pv 0 (upd H1 D (.lst []))) (stay : ∀ i H, i ≤ n → Pv i H → G H)
    (turn : ∀ i x H H', i < n → Pv i H → Y i H x H' → T (Pv (i + 1)) x H') (fin : ∀ H, Pv n H → Qd H) :
    ∃ W : Nat → Nat → Hp → Prop, (∃ m, W 0 m (upd H1 D (.lst []))) ∧ ∀ i m H, W i m H → (J.stop i H ∧ Qd H) ∨ (J.go i H ∧ ∃ Nx : Hp → Prop, (∀ H', Nx H' → ∃ m', m' < m ∧ W (i + 1) m' H') ∧ ∀ x H', J.yld i H x H' → T Nx x H') := by
  refine ⟨fun i m H => i + m = n ∧ Pv i H, ⟨n, Nat.zero_add n, start⟩, fun i m H st => ?_⟩
  obtain ⟨sum, pv⟩ := st
  have g := stay i H (by omega) pv
  match m, sum with
  | 0, sum =>
    obtain rfl : i = n := sum
    exact .inl ⟨w.stops H g, fin H pv⟩
  | m + 1, sum => exact .inr ⟨w.goes i H (by omega) g, Pv (i + 1), fun H3 p3 => ⟨m, Nat.lt_succ_self m, by omega, p3⟩, fun x H3 y => turn i x H H3 (by omega) pv (w.yields i H x H3 (by omega) g y)⟩
theorem in_it {J : It} {n : Nat} {G : Hp → Prop} {Y : Nat → Hp → V → Hp → Prop} (w : Walk J n G Y) {H1 : Hp} {Nx : Hp → Prop} {T : (Hp → Prop) → V → Hp → Prop} (Pv : Nat → Hp → Prop) (start : Pv 0 H1) (stay : ∀ i H, i ≤ n → Pv i H → G H)
    (turn : ∀ i x H H', i < n → Pv i H → Y i H x H' → T (Pv (i + 1)) x H') (fin : ∀ H, Pv n H → Nx H) :
    ∃ W : Nat → Nat → Hp → Prop, (∃ m, W 0 m H1) ∧ ∀ i m H, W i m H → (J.stop i H ∧ Nx H) ∨ (J.go i H ∧ ∃ Nx1 : Hp → Prop, (∀ H', Nx1 H' → ∃ m', m' < m ∧ W (i + 1) m' H') ∧ ∀ x H', J.yld i H x H' → T Nx1 x H') := by
  refine ⟨fun i m H => i + m = n ∧ Pv i H, ⟨n, Nat.zero_add n, start⟩, fun i m H st => ?_⟩
  obtain ⟨sum, pv⟩ := st
  have g := stay i H (by omega) pv
  match m, sum with
  | 0, sum =>
    obtain rfl : i = n := sum
    exact .inl ⟨w.stops H g, fin H pv⟩
  | m + 1, sum => exact .inr ⟨w.goes i H (by omega) g, Pv (i + 1), fun H3 p3 => ⟨m, Nat.lt_succ_self m, by omega, p3⟩, fun x H3 y => turn i x H H3 (by omega) pv (w.yields i H x H3 (by omega) g y)⟩
/-! ### a literal's name -/
theorem starts_iff (x y : Str) : Txt.startswith x y = true ↔ StrLaws.At x y x.length 0 := by
  unfold Txt.startswith StrLaws.At
  simp
theorem starts_neg (n : Str) : Txt.startswith (neg n) (Str.ofString "-") = true := by
  refine (starts_iff _ _).mpr ((TL.at_iff (y := Str.ofString "-") (fun h => nomatch h) 0).mpr ?_)
  show TL.pre [45] ((neg n).cps.toList.drop 0) = true
  rw [neg_list]
  rfl
theorem starts_name {n : Str} (h : Name1 n) : Txt.startswith n (Str.ofString "-") = false := by
  cases e : Txt.startswith n (Str.ofString "-") with
  | false => rfl
  | true =>
    have z := (TL.at_iff (y := Str.ofString "-") (fun h => nomatch h) 0).mp ((starts_iff _ _).mp e)
    replace z : TL.pre [45] (n.cps.toList.drop 0) = true := z
    rw [List.drop_zero] at z
    cases q : n.cps.toList with
    | nil => rw [q] at z; cases z
    | cons c r =>
      rw [q] at z
      have hc := h.2.2 c (by rw [q]; exact List.mem_cons_self)
      have e45 : c = 45 := by simpa [TL.pre] using z
      omega
theorem cut_neg (n : Str) : cutS (neg n) (some 1) none = n := by
  obtain ⟨cs⟩ := n
  unfold cutS
  rw [HT.sIx_none, show HT.sIx (neg ⟨cs⟩).length 0 (some 1) = min 1 (neg ⟨cs⟩).length from HT.sIx_nat _ _ 1, neg_list, neg_len, Nat.min_eq_left (by omega)]
  show Str.mk ((cs.toList.take _).toArray) = _
  rw [List.take_of_length_le (by rw [Array.length_toList]; exact Nat.le_of_eq rfl), Array.toArray_toList]
def spNameOf : Sp := fun vs H Q _ => ∃ q : Bool × Str, vs = [.str (lit q)] ∧ Name1 q.2 ∧ Q (.str q.2) H
def spLits (K : PySem.W.Frag) : Sp := fun vs H Q _ => ∃ (T : Addr) (b : Bool) (ns : List Str), vs = [.ref T] ∧ Sq K b H T (ns.map V.str) ∧ (∀ H', Same H H' → Sq K b H' T (ns.map V.str)) ∧ ns.length ≤ 60 ∧ (∀ z ∈ ns, z.length ≤ 8) ∧
  ∀ (p : Addr) (H' : Hp), H p = none → H' p = some (.lst ((lits ns).map V.str)) → Same H H' → Q (.ref p) H'
section
variable {P : Program} {w : World} {K : PySem.W.Frag} {mg : Str → Option Value} {base : Heap} {f fI : Addr} {fd fdI : FuncData}
theorem scNameOf : FnScope ["literal"] ["literal"] (defScope sNameOf) := ⟨rfl, rfl, rfl, by decide +kernel, rfl, by decide +kernel, by decide +kernel⟩
theorem ok_nameOf (F : Fun K "name_of" "name_of" sNameOf f fd) : FnOk P w K mg base CX0 1 f fd ["literal"] spNameOf := by
  refine F.ok scNameOf (fun vs H Q E h => ?_) (fun cdv A outer s H vs Q E hr h => ?_)
  · obtain ⟨q, rfl, _⟩ := h
    rfl
  · obtain ⟨⟨b, n⟩, rfl, good, k⟩ := h
    have n8 := good.2.1
    replace n8 : n.length ≤ 8 := n8
    refine ⟨_, pss_cons (ps_if (pt_val (pe_m1 PySem.F.slot_str_startswith PySem.F.type_str_startswith mt_startswith (pv 0) pe_str)) (pss_one (ps_ret (pe_slice sl_str (pv 0) (po_some pe_int) po_none))) pss_nil) (pss_one (ps_ret (pv 0))), ?_⟩
    refine ⟨_, rfl, ⟨_, rfl⟩, _, _, rfl, rfl, _, rfl, ?_⟩
    cases b
    · rw [show Txt.startswith (lit (false, n)) (Str.ofString "-") = false from starts_name good]
      exact iteF ⟨_, rfl, k⟩
    · rw [show Txt.startswith (lit (true, n)) (Str.ofString "-") = true from starts_neg n]
      refine iteT ⟨_, rfl, _, rfl, lit (true, n), rfl, ?_, ?_⟩
      · show (neg n).length ≤ sizeLine
        rw [neg_len, sizeLine_eq]
        omega
      · rw [show cutS (lit (true, n)) (some 1) none = n from cut_neg n]
        exact k
abbrev nLits : List Str := ["names", "name", "literal"]
theorem scLits : FnScope nLits ["names"] (defScope sLits) := ⟨rfl, rfl, rfl, by decide +kernel, rfl, by decide +kernel, by decide +kernel⟩
theorem ok_lits (F : Fun K "literals_of" "literals_of" sLits f fd) : FnOk P w K mg base CX0 1 f fd ["names"] (spLits K) := by
  refine F.ok scLits (fun vs H Q E h => ?_) (fun cdv A outer s H vs Q E hr h => ?_)
  · obtain ⟨T, b, ns, rfl, _⟩ := h
    rfl
  · obtain ⟨T, b, ns, rfl, hT, hT', hn, h8, k⟩ := h
    refine ⟨_, pss_one (ps_ret (pe_lc2 (own := [("name", 1), ("literal", 2)]) (vs1 := [2]) (g := gName 1) (tt := tYes) (g1 := gName 2) (tt1 := tYes) rfl scLits.nd (pi_seq (pv 0)) (blkOk_by (N := nLits) (sc := defScope sLits) (by decide +kernel)) (by decide)
          (fun _ _ _ _ _ => pg_name (i := 1) scLits.nd rfl (.inl rfl)) (fun _ _ _ _ _ => pts_nil) (fun _ _ _ _ _ => show PI _ _ _ (iTup K _) from pi_tup (pe_tup (pa_cons (pv 1) (pa_cons (pe_op op_add_str pe_str (pv 1)) pa_nil)))) (fun _ _ _ _ _ => pg_name (i := 2) scLits.nd rfl (.inl rfl)) (fun _ _ _ _ _ => pts_nil) (fun _ _ _ _ _ => pv 2))), ?_⟩
    refine ⟨_, rfl, b, T, _, rfl, hT, fun D hD => lc2_it walk_sq (fun i H2 => Same H H2 ∧ H2 D = some (.lst ((lits (ns.take i)).map V.str))) ⟨same_new hD, upd_same⟩ (fun i H2 _ hh => hT' _ hh.1) ?_ ?_⟩
    · rintro i x H2 H3 hi ⟨sm, hD2⟩ ⟨rfl, hx⟩
      obtain ⟨n, hn', rfl⟩ := get_map hx
      have n8 := h8 n (List.mem_of_getElem? hn')
      have e : ns.take (i + 1) = ns.take i ++ [n] := by rw [List.take_succ, hn']; rfl
      have lt : (lits (ns.take i)).length ≤ 120 := by
        rw [lits_len]
        have := List.length_take_le i ns
        have := List.length_take_le' i ns
        omega
      refine ⟨rfl, _, rfl, _, rfl, _, _, rfl, rfl, by show 1 + n.length ≤ sizeLine; rw [sizeLine_eq]; omega, by show 2 ≤ sizeLine; decide, fun t ht => ⟨t, rfl, ⟨_, SqT.of upd_same⟩, in_it (walk_tup (xs := [V.str n, V.str (neg n)])) (fun j H4 => Same H H4 ∧ H4 t = some (.tup [.str n, .str (neg n)]) ∧ H4 D = some (.lst ((lits (ns.take i) ++ [n, neg n].take j).map V.str))) ?_ (fun j H4 _ hh => ?_) ?_ ?_⟩⟩
      · refine ⟨sm.trans (same_new ht), upd_same, ?_⟩
        rw [List.take_zero, List.append_nil]
        exact (upd_ne (ne_of_none hD2 ht)).trans hD2
      · exact SqT.of hh.2.1
      · rintro j y H4 H5 hj ⟨sm4, ht4, hD4⟩ ⟨rfl, hy⟩
        obtain ⟨l, hl, rfl⟩ := get_map (g := V.str) (xs := [n, neg n]) hy
        have e2 : [n, neg n].take (j + 1) = [n, neg n].take j ++ [l] := by rw [List.take_succ, hl]; rfl
        refine ⟨rfl, _, rfl, _, hD4, ?_, fun b o h => (upd_ne (ne_of_none h hD)).trans (sm4 b o h), (upd_ne (ne_of ht4 hD4 fun z => nomatch z)).trans ht4, ?_⟩
        · rw [List.length_map, List.length_append, sizeLine_eq]
          have := List.length_take_le' j [n, neg n]
          have l5 : [n, neg n].length = 2 := rfl
          omega
        · rw [upd_same, e2, ← List.append_assoc, List.map_append (l₁ := _ ++ _)]
          rfl
      · rintro H4 ⟨sm4, _, hD4⟩
        refine ⟨sm4, ?_⟩
        rw [hD4, e]
        unfold lits
        rw [List.flatMap_append]
        rfl
    · rintro H2 ⟨sm, hD2⟩
      rw [List.length_map, List.take_length] at hD2
      exact k D H2 hD hD2 sm
end
end K6
namespace K6
open PySem PySem.Spec PyProof.Rows L2 LamX NdefX EV
/-! ### places -/
theorem neg_inj {m n : Str} (h : neg m = neg n) : m = n := by
  have z := congrArg (fun s : Str => s.cps.toList) h
  replace z : (neg m).cps.toList = (neg n).cps.toList := z
  rw [neg_list, neg_list] at z
  injection z with _ z
  obtain ⟨a⟩ := m
  obtain ⟨b⟩ := n
  rw [show a = b from Array.toList_inj.mp z]
theorem name_neg {m n : Str} (h : Name1 m) (e : m = neg n) : False := by
  have z := h.2.2 45 (by rw [e, neg_list]; exact List.mem_cons_self)
  omega
theorem lits_nodup : ∀ ns : List Str, ns.Nodup → (∀ z ∈ ns, Name1 z) → (lits ns).Nodup
  | [], _, _ => List.nodup_nil
  | n :: r, nd, good => by
    have nd' := List.nodup_cons.mp nd
    have gn := good n List.mem_cons_self
    have gr : ∀ z ∈ r, Name1 z := fun z h => good z (List.mem_cons_of_mem _ h)
    have ih := lits_nodup r nd'.2 gr
    have h1 : n ∉ lits r := fun h => by
      obtain ⟨m, hm, hl⟩ := List.mem_flatMap.mp h
      rcases List.mem_cons.mp hl with q | q
      · exact nd'.1 (q ▸ hm)
      · exact name_neg gn (List.mem_singleton.mp q)
    have h2 : neg n ∉ lits r := fun h => by
      obtain ⟨m, hm, hl⟩ := List.mem_flatMap.mp h
      rcases List.mem_cons.mp hl with q | q
      · exact name_neg (gr m hm) q.symm
      · exact nd'.1 (neg_inj (List.mem_singleton.mp q) ▸ hm)
    show (n :: neg n :: lits r).Nodup
    refine List.nodup_cons.mpr ⟨fun h => ?_, List.nodup_cons.mpr ⟨h2, ih⟩⟩
    rcases List.mem_cons.mp h with q | q
    · exact name_neg gn q
    · exact h1 q
/-- each text with its place, from k on -/
def plcF : Nat → List Str → List (Key × V)
  | _, [] => []
  | k, l :: r => (Sum.inr l, .int (k : Int)) :: plcF (k + 1) r
theorem plcF_snoc (l : Str) : ∀ (xs : List Str) (k : Nat), plcF k (xs ++ [l]) = plcF k xs ++ [(Sum.inr l, .int ((k + xs.length : Nat) : Int))]
  | [], k => rfl
  | x :: r, k => by
    show (Sum.inr x, V.int k) :: plcF (k + 1) (r ++ [l]) = _
    rw [plcF_snoc l r (k + 1), show k + 1 + r.length = k + (x :: r).length by rw [List.length_cons]; omega]
    rfl
theorem plcF_len : ∀ (xs : List Str) (k : Nat), (plcF k xs).length = xs.length
  | [], _ => rfl
  | x :: r, k => congrArg (· + 1) (plcF_len r (k + 1))
theorem plcF_at {l : Str} : ∀ (xs : List Str) (k i : Nat), xs.Nodup → xs[i]? = some l → valV (plcF k xs) (Sum.inr l) = some (.int ((k + i : Nat) : Int))
  | [], _, i, _, h => by simp at h
  | x :: r, k, 0, _, h => by
    obtain rfl : x = l := by simpa using h
    exact valV_pos rfl
  | x :: r, k, i + 1, nd, h => by
    have nd' := List.nodup_cons.mp nd
    have h' : r[i]? = some l := by simpa using h
    have ne : ¬ (Sum.inr x : Key) = Sum.inr l := fun e => by
      injection e with e
      exact nd'.1 (e ▸ List.mem_of_getElem? h')
    show valV ((Sum.inr x, V.int k) :: plcF (k + 1) r) _ = _
    rw [valV_neg ne, plcF_at r (k + 1) i nd'.2 h', show k + 1 + i = k + (i + 1) by omega]
theorem plcF_none {l : Str} : ∀ (xs : List Str) (k : Nat), l ∉ xs → valV (plcF k xs) (Sum.inr l) = none
  | [], _, _ => rfl
  | x :: r, k, h => by
    have ne : ¬ (Sum.inr x : Key) = Sum.inr l := fun e => by
      injection e with e
      exact h (e ▸ List.mem_cons_self)
    show valV ((Sum.inr x, V.int k) :: plcF (k + 1) r) _ = _
    rw [valV_neg ne]
    exact plcF_none r (k + 1) fun q => h (List.mem_cons_of_mem _ q)
theorem putK_new {κ : Type} [DecidableEq κ] {kvs : List (κ × V)} {k : κ} {v : V} (h : valV kvs k = none) : putK kvs k v = kvs ++ [(k, v)] := by
  unfold putK
  rw [valV_any, h]
  rfl
abbrev plc (ns : List Str) : List (Key × V) := plcF 0 (lits ns)
def spPlaces (K : PySem.W.Frag) : Sp := fun vs H Q _ => ∃ (T : Addr) (b : Bool) (ns : List Str), vs = [.ref T] ∧ Sq K b H T (ns.map V.str) ∧ (∀ H', Same H H' → Sq K b H' T (ns.map V.str)) ∧ ns.length ≤ 60 ∧ ns.Nodup ∧ (∀ z ∈ ns, Name1 z) ∧
  ∀ (p : Addr) (H' : Hp), H p = none → H' p = some (.dK (plc ns)) → Same H H' → Q (.ref p) H'
section
variable {P : Program} {w : World} {K : PySem.W.Frag} {mg : Str → Option Value} {base : Heap} {f fL : Addr} {fd fdL : FuncData}
abbrev nPlaces : List Str := ["names", "place", "literal"]
theorem scPlaces : FnScope nPlaces ["names"] (defScope sPlaces) := ⟨rfl, rfl, rfl, by decide +kernel, rfl, by decide +kernel, by decide +kernel⟩
theorem ok_places (F : Fun K "places_of" "places_of" sPlaces f fd) (GL : FnOk P w K mg base CX0 1 fL fdL ["names"] (spLits K)) (mL : mg "literals_of" = some (.ref fL)) (kL : PySem.W.keepIn K (.ref fL) = true) (bL : L2.Binds K fdL ["names"] []) (me : mg "enumerate" = none) :
    FnOk P w K mg base CX0 2 f fd ["names"] (spPlaces K) := by
  refine F.ok scPlaces (fun vs H Q E h => ?_) (fun cdv A outer s H vs Q E hr h => ?_)
  · obtain ⟨T, b, ns, rfl, _⟩ := h
    rfl
  · obtain ⟨T, b, ns, rfl, hT, hT', hn, nd, good, k⟩ := h
    have hu := hu_of hr
    refine ⟨_, pss_one (ps_ret (pe_dcP (own := [("place", 1), ("literal", 2)]) .k rfl hu scPlaces.nd (pi_enumB (by rfl) me (pa_cons (pe_call GL hr (by rfl) mL kL bL .nil pass0 (pa_cons (pv 0) pa_nil)) pa_nil)) (blkOk_by (N := nPlaces) (sc := defScope sPlaces) (by decide +kernel))
          (fun _ _ _ _ _ => show PG _ _ (gTup K 2 _) from pg_tup rfl (pgs_cons (pg_name (i := 1) scPlaces.nd rfl (.inl rfl)) (pgs_cons (pg_name (i := 2) scPlaces.nd rfl (.inl rfl)) pgs_nil))) (fun _ _ _ _ _ => pts_nil) (fun _ _ _ _ _ => pv 2) (fun _ _ _ _ _ => pv 1))), ?_⟩
    refine ⟨_, rfl, T, b, ns, rfl, hT, hT', hn, (fun z hz => (good z hz).2.1), fun p H1 hp hp1 sm1 => ⟨true, p, _, rfl, Sq.lst hp1, fun D hD => dc_it walk_enumB (fun i H2 => Same H1 H2 ∧ H2 D = some (.dK (plcF 0 ((lits ns).take i)))) ⟨same_new hD, upd_same⟩ (fun i H2 _ hh => Sq.lst (hh.1 _ _ hp1)) ?_ ?_⟩⟩
    · rintro i x H2 H3 hi ⟨sm, hD2⟩ ⟨t, v1, v2, rfl, ht, rfl, hv1, hv2⟩
      obtain ⟨l, hl, rfl⟩ := get_map hv2
      obtain rfl := Option.some.inj hv1
      have ilt : i < (lits ns).length := (List.getElem?_eq_some_iff.mp hl).1
      have l120 := lits_len ns
      have fresh : l ∉ (lits ns).take i := fun h => by
        obtain ⟨j, hj, hj2⟩ := List.getElem_of_mem h
        have jlt : j < i := by rw [List.length_take] at hj; omega
        have z : (lits ns)[j]? = some l := by
          rw [List.getElem_take] at hj2
          rw [← hj2]
          exact List.getElem?_eq_getElem _
        exact absurd ((List.getElem?_inj (by omega) (lits_nodup ns nd good)).mp (z.trans hl.symm)) (by omega)
      have hD3 := (upd_ne (o := .tup [.int (i : Nat), .str l]) (ne_of_none hD2 ht)).trans hD2
      refine ⟨t, _, rfl, SqT.of upd_same, rfl, _, _, rfl, _, _, rfl, rfl, rfl, _, rfl, _, rfl, _, DPut.k (k := Sum.inr l) hD3 (by rw [plcF_len, List.length_take, sizeLine_eq]; omega), fun b o h => (upd_ne (ne_of_none h hD)).trans ((same_new ht) _ _ (sm b o h)), ?_⟩
      rw [upd_same, putK_new (plcF_none _ 0 fresh), List.take_succ, hl]
      show _ = some (HO.dK (plcF 0 ((lits ns).take i ++ [l])))
      rw [plcF_snoc, List.length_take, Nat.min_eq_left (Nat.le_of_lt ilt), Nat.zero_add]
    · rintro H2 ⟨sm, hD2⟩
      rw [List.length_map, List.take_length] at hD2
      exact k D H2 (sm1.free hD) hD2 (sm1.trans sm)
end
end K6
namespace K6
open PySem PySem.Spec PyProof.Rows L2 LamX NdefX EV
/-! ### rising lists -/
theorem rise_eq : ∀ (a b : List Int), a.Pairwise (· < ·) → b.Pairwise (· < ·) → (∀ x, x ∈ a ↔ x ∈ b) → a = b
  | [], [], _, _, _ => rfl
  | [], y :: b, _, _, h => absurd ((h y).mpr List.mem_cons_self) (fun z => nomatch z)
  | x :: a, [], _, _, h => absurd ((h x).mp List.mem_cons_self) (fun z => nomatch z)
  | x :: a, y :: b, pa, pb, h => by
    have pa' := List.pairwise_cons.mp pa
    have pb' := List.pairwise_cons.mp pb
    have exy : x = y := by
      rcases List.mem_cons.mp ((h x).mp List.mem_cons_self) with q | q
      · exact q
      · rcases List.mem_cons.mp ((h y).mpr List.mem_cons_self) with q' | q'
        · exact q'.symm
        · have z1 := pb'.1 x q
          have z2 := pa'.1 y q'
          omega
    subst exy
    rw [rise_eq a b pa'.2 pb'.2 fun z => ?_]
    constructor
    · intro hz
      rcases List.mem_cons.mp ((h z).mp (List.mem_cons_of_mem _ hz)) with q | q
      · have := pa'.1 z hz
        omega
      · exact q
    · intro hz
      rcases List.mem_cons.mp ((h z).mpr (List.mem_cons_of_mem _ hz)) with q | q
      · have := pb'.1 z hz
        omega
      · exact q
theorem rise_strict : ∀ {a : List Int}, a.Pairwise (· ≤ ·) → a.Nodup → a.Pairwise (· < ·)
  | [], _, _ => .nil
  | x :: r, h, nd => by
    have h' := List.pairwise_cons.mp h
    have nd' := List.nodup_cons.mp nd
    exact List.pairwise_cons.mpr ⟨fun y hy => by
      have z := h'.1 y hy
      have ne : x ≠ y := fun e => nd'.1 (e ▸ hy)
      omega, rise_strict h'.2 nd'.2⟩
def txt (xs : List Str) (j : Nat) : Str := xs.getD j (Str.ofString "")
theorem txt_at {xs : List Str} {j : Nat} {l : Str} (h : xs[j]? = some l) : txt xs j = l := by
  unfold txt
  rw [List.getD_eq_getElem?_getD, h]
  rfl
theorem map_txt (xs : List Str) : (List.range xs.length).map (txt xs) = xs := by
  refine List.ext_getElem (by rw [List.length_map, List.length_range]) fun i h1 h2 => ?_
  rw [List.getElem_map, List.getElem_range]
  exact txt_at (List.getElem?_eq_getElem h2)
/-- the places of what is wanted, rising: their texts are the wanted ones of all, in order -/
theorem rise_filter {xs ls : List Str} {js : List Int} {is : List Nat} (hp : js.Perm (is.map fun j : Nat => (j : Int))) (hs : js.Pairwise (· ≤ ·)) (nd : is.Nodup) (mem : ∀ j, j ∈ is ↔ j < xs.length ∧ txt xs j ∈ ls) :
    js.map (fun j => txt xs j.toNat) = xs.filter fun l => decide (l ∈ ls) := by
  have inj : ∀ a b : Nat, a ≠ b → (a : Int) ≠ (b : Int) := fun a b h e => h (by omega)
  have ndj : js.Nodup := hp.nodup_iff.mpr (List.Pairwise.map _ (fun a b h => inj a b h) nd)
  have e : js = ((List.range xs.length).filter fun j => decide (txt xs j ∈ ls)).map fun j : Nat => (j : Int) := by
    refine rise_eq _ _ (rise_strict hs ndj) (List.Pairwise.map _ (fun a b h => by omega) (List.Pairwise.filter _ List.pairwise_lt_range)) fun x => ?_
    rw [hp.mem_iff, List.mem_map, List.mem_map]
    constructor
    · rintro ⟨j, hj, rfl⟩
      have z := (mem j).mp hj
      exact ⟨j, List.mem_filter.mpr ⟨List.mem_range.mpr z.1, decide_eq_true z.2⟩, rfl⟩
    · rintro ⟨j, hj, rfl⟩
      have z := List.mem_filter.mp hj
      exact ⟨j, (mem j).mpr ⟨List.mem_range.mp z.1, of_decide_eq_true z.2⟩, rfl⟩
  rw [e, List.map_map]
  have e2 : ((fun j : Int => txt xs j.toNat) ∘ fun j : Nat => (j : Int)) = txt xs := by
    funext j
    show txt xs (j : Int).toNat = _
    rw [Int.toNat_natCast]
  rw [e2]
  have z := List.filter_map (f := txt xs) (p := fun l => decide (l ∈ ls)) (l := List.range xs.length)
  rw [map_txt] at z
  exact z.symm
def entry (xs : List Str) (j : Nat) : Key × V := (Sum.inl (j : Int), .str (txt xs j))
theorem entry_val {xs : List Str} {j : Nat} : ∀ is : List Nat, j ∈ is → valV (is.map (entry xs)) (Sum.inl (j : Int)) = some (.str (txt xs j))
  | [], h => nomatch h
  | i :: r, h => by
    by_cases e : i = j
    · subst e
      exact valV_pos rfl
    · have ne : ¬ (entry xs i).1 = Sum.inl (j : Int) := fun q => by
        have q : (Sum.inl (i : Int) : Key) = Sum.inl (j : Int) := q
        injection q with q
        omega
      rw [List.map_cons, valV_neg ne]
      exact entry_val r ((List.mem_cons.mp h).resolve_left fun q => e q.symm)
theorem entry_none {xs : List Str} {j : Nat} : ∀ is : List Nat, j ∉ is → valV (is.map (entry xs)) (Sum.inl (j : Int)) = none
  | [], _ => rfl
  | i :: r, h => by
    have ne : ¬ (entry xs i).1 = Sum.inl (j : Int) := fun q => by
      have q : (Sum.inl (i : Int) : Key) = Sum.inl (j : Int) := q
      injection q with q
      exact h (by rw [show j = i by omega]; exact List.mem_cons_self)
    rw [List.map_cons, valV_neg ne]
    exact entry_none r fun q => h (List.mem_cons_of_mem _ q)
theorem entry_put {xs : List Str} {is : List Nat} {j : Nat} : putK (is.map (entry xs)) (Sum.inl (j : Int)) (.str (txt xs j)) = (if j ∈ is then is else is ++ [j]).map (entry xs) := by
  by_cases h : j ∈ is
  · rw [if_pos h]
    unfold putK
    rw [valV_any, entry_val is h]
    show List.map (fun kv => if kv.1 = Sum.inl (j : Int) then (kv.1, V.str (txt xs j)) else kv) (List.map (entry xs) is) = _
    rw [List.map_map]
    refine List.map_congr_left fun i _ => ?_
    show (if (entry xs i).1 = _ then _ else _) = _
    by_cases e : i = j
    · subst e
      exact (if_pos rfl).trans rfl
    · refine if_neg fun q => ?_
      have q : (Sum.inl (i : Int) : Key) = Sum.inl (j : Int) := q
      injection q with q
      omega
  · rw [if_neg h, putK_new (entry_none is h), List.map_append]
    rfl
def spInOrder (K : PySem.W.Frag) : Sp := fun vs H Q _ => ∃ (PL A : Addr) (b : Bool) (ns ls : List Str), vs = [.ref PL, .ref A] ∧ H PL = some (.dK (plc ns)) ∧ Sq K b H A (ls.map V.str) ∧ (∀ H', Same H H' → Sq K b H' A (ls.map V.str)) ∧ ns.length ≤ 60 ∧ ns.Nodup ∧ (∀ z ∈ ns, Name1 z) ∧ (∀ l ∈ ls, l ∈ lits ns) ∧
  ∀ (p : Addr) (H' : Hp), H p = none → H' p = some (.tup ((asc ns ls).map V.str)) → Same H H' → Q (.ref p) H'
section
variable {P : Program} {w : World} {K : PySem.W.Frag} {mg : Str → Option Value} {base : Heap} {f : Addr} {fd : FuncData}
abbrev nInOrder : List Str := ["places", "literals", "by_place", "literal", "place"]
theorem scInOrder : FnScope nInOrder ["places", "literals"] (defScope sInOrder) := ⟨rfl, rfl, rfl, by decide +kernel, rfl, by decide +kernel, by decide +kernel⟩
theorem ok_inOrder (F : Fun K "in_order" "in_order" sInOrder f fd) (mt : mg "tuple" = none) (ms : mg "sorted" = none) (mi : mg "int" = none) : FnOk P w K mg base CX0 1 f fd ["places", "literals"] (spInOrder K) := by
  refine F.ok scInOrder (fun vs H Q E h => ?_) (fun cdv A outer s H vs Q E hr h => ?_)
  · obtain ⟨PL, A, b, ns, ls, rfl, _⟩ := h
    rfl
  · obtain ⟨PL, A, b, ns, ls, rfl, hPL, hA, hA', hn, nd, good, sub, k⟩ := h
    have hu := hu_of hr
    refine ⟨_, pss_cons (ps_set (i := 2) scInOrder.nd rfl (.inr rfl) (pe_dcP (own := [("literal", 3)]) .k rfl hu scInOrder.nd (pi_seq (pv 1)) (blkOk_by (N := nInOrder) (sc := defScope sInOrder) (by decide +kernel))
          (fun _ _ _ _ _ => pg_name (i := 3) scInOrder.nd rfl (.inl rfl)) (fun _ _ _ _ _ => pts_nil) (fun _ _ _ _ _ => pe_dget hu (pv 0) (pv 3) (fun _ _ => rfl)) (fun _ _ _ _ _ => pv 3)))
      (pss_one (ps_ret (pe_tupleOf (by rfl) mt (pe_lc (own := [("place", 4)]) (g := gName 4) (tt := tYes) rfl scInOrder.nd
          (pi_list (pe_callB cr_sortedI (by rfl) ms (by decide +kernel) (pa_cons (pe_lock (pe_lc (own := [("place", 4)]) (g := gName 4) (tt := tYes) rfl scInOrder.nd (pi_keys (pv 2)) (blkOk_by (N := nInOrder) (sc := defScope sInOrder) (by decide +kernel))
            (fun _ _ _ _ _ => pg_name (i := 4) scInOrder.nd rfl (.inl rfl)) (fun _ _ _ _ _ => pts_nil) (fun _ _ _ _ _ => pe_callTy call_int1 (by rfl) mi (by decide +kernel) (pa_cons (pv 4) pa_nil)))) pa_nil)))
          (blkOk_by (N := nInOrder) (sc := defScope sInOrder) (by decide +kernel))
          (fun _ _ _ _ _ => pg_name (i := 4) scInOrder.nd rfl (.inl rfl)) (fun _ _ _ _ _ => pts_nil) (fun _ _ _ _ _ => pe_dget hu (pv 2) (pv 4) (fun _ _ => rfl)))))), ?_⟩
    have ndl := lits_nodup ns nd good
    have l120 := lits_len ns
    refine ⟨_, rfl, b, A, _, rfl, hA, fun D hD => dc_it walk_sq (fun i H2 => Same H H2 ∧ ∃ is : List Nat, H2 D = some (.dK (is.map (entry (lits ns)))) ∧ is.Nodup ∧ ∀ j, j ∈ is ↔ j < (lits ns).length ∧ txt (lits ns) j ∈ ls.take i) ⟨same_new hD, [], upd_same, List.nodup_nil, fun j => ⟨fun h => (nomatch h), fun h => by simp at h⟩⟩ (fun i H2 _ hh => hA' _ hh.1) ?_ ?_⟩
    · rintro i x H2 H3 hi ⟨sm, is, hD2, ndi, mem⟩ ⟨rfl, hx⟩
      obtain ⟨l, hl, rfl⟩ := get_map hx
      obtain ⟨j, hj, ej⟩ := List.getElem_of_mem (sub l (List.mem_of_getElem? hl))
      have hj' : (lits ns)[j]? = some l := by rw [← ej]; exact List.getElem?_eq_getElem hj
      have tj := txt_at hj'
      have g : DGet H3 PL (.str l) (some (.int (j : Int))) := by
        have z := DGet.k (k := Sum.inr l) (sm _ _ hPL)
        rw [plcF_at _ 0 j ndl hj', Nat.zero_add] at z
        exact z
      have few : is.length ≤ (lits ns).length := by
        have z := nodup_le is (List.range (lits ns).length) ndi fun a ha => List.mem_range.mpr ((mem a).mp ha).1
        rwa [List.length_range] at z
      refine ⟨rfl, _, rfl, _, rfl, PL, _, rfl, g, _, rfl, _, DPut.k (k := Sum.inl (j : Int)) hD2 (by rw [List.length_map, sizeLine_eq]; omega), fun c o h => (upd_ne (ne_of_none h hD)).trans (sm c o h), if j ∈ is then is else is ++ [j], ?_, ?_, ?_⟩
      · rw [upd_same, ← tj, entry_put]
      · split
        · exact ndi
        · rename_i q
          exact List.nodup_append.mpr ⟨ndi, List.nodup_cons.mpr ⟨fun h => (nomatch h), List.nodup_nil⟩, fun a ha c hc e => q (by rw [← List.mem_singleton.mp hc, ← e]; exact ha)⟩
      · intro m
        rw [List.take_succ, hl]
        have uniq : ∀ m, m < (lits ns).length → (txt (lits ns) m = l ↔ m = j) := fun m hm => by
          constructor
          · intro e
            have z : (lits ns)[m]? = some l := by rw [← e]; exact (List.getElem?_eq_getElem hm).trans (congrArg some (txt_at (List.getElem?_eq_getElem hm)).symm)
            exact (List.getElem?_inj hm ndl).mp (z.trans hj'.symm)
          · rintro rfl
            exact tj
        have old := mem m
        by_cases q : j ∈ is
        · rw [if_pos q, old]
          constructor
          · exact fun h => ⟨h.1, List.mem_append.mpr (.inl h.2)⟩
          · rintro ⟨h1, h2⟩
            rcases List.mem_append.mp h2 with z | z
            · exact ⟨h1, z⟩
            · obtain rfl := (uniq m h1).mp (List.mem_singleton.mp z)
              exact old.mp q
        · rw [if_neg q, List.mem_append, old]
          constructor
          · rintro (h | h)
            · exact ⟨h.1, List.mem_append.mpr (.inl h.2)⟩
            · obtain rfl := List.mem_singleton.mp h
              exact ⟨hj, List.mem_append.mpr (.inr (List.mem_singleton.mpr tj))⟩
          · rintro ⟨h1, h2⟩
            rcases List.mem_append.mp h2 with z | z
            · exact .inl ⟨h1, z⟩
            · exact .inr (List.mem_singleton.mpr ((uniq m h1).mp (List.mem_singleton.mp z)))
    · rintro H2 ⟨sm, is, hD2, ndi, mem⟩
      rw [List.length_map, List.take_length] at mem
      have few : is.length ≤ (lits ns).length := by
        have z := nodup_le is (List.range (lits ns).length) ndi fun a ha => List.mem_range.mpr ((mem a).mp ha).1
        rwa [List.length_range] at z
      refine ⟨D, _, hD2, trivial, fun od => ⟨_, rfl, D, od, rfl, .inl ⟨_, upd_same, fun L hL => lc_it walk_keys (fun i H3 => H3 D = some (.frz od (.dK (is.map (entry (lits ns))))) ∧ H3 L = some (.lst ((is.take i).map fun j : Nat => V.int (j : Int))) ∧ ∀ c o, c ≠ D → H2 c = some o → H3 c = some o) ?_ (fun i H3 _ hh => hh.1) ?_ ?_⟩⟩⟩
      · have nDL : D ≠ L := ne_of_none (show upd H2 D (.frz od _) D = some _ from upd_same) hL
        exact ⟨(upd_ne nDL).trans upd_same, upd_same, fun c o nc h => (upd_ne (ne_of_none ((upd_ne nc).trans h) hL)).trans ((upd_ne nc).trans h)⟩
      · rintro i x H3 H4 hi ⟨hD3, hL3, keep⟩ ⟨rfl, kk, vv, hkv, rfl⟩
        obtain ⟨j, hj, ej⟩ := get_map hkv
        injection ej with e1 e2
        subst e1
        have ilt : i < is.length := (List.getElem?_eq_some_iff.mp hj).1
        have nDL : D ≠ L := ne_of_none (show upd H2 D (.frz od (.dK (is.map (entry (lits ns))))) D = some _ from upd_same) hL
        refine ⟨rfl, _, rfl, .inl ⟨_, rfl, _, hL3, by rw [List.length_map, List.length_take, sizeLine_eq]; omega, (upd_ne nDL).trans hD3, ?_, fun c o nc h => (upd_ne (ne_of_none ((upd_ne nc).trans h) hL)).trans (keep c o nc h)⟩⟩
        rw [upd_same, List.take_succ, hj, List.map_append]
        rfl
      · rintro H3 ⟨hD3, hL3, keep⟩
        rw [List.length_map, List.take_length] at hL3
        refine ⟨hD3, ?_⟩
        have nDL : L ≠ D := (ne_of_none (show upd H2 D (.frz od (.dK (is.map (entry (lits ns))))) D = some _ from upd_same) hL).symm
        have hL2 : H2 L = none := by
          have z := hL
          rwa [upd_ne nDL] at z
        generalize eH : upd H3 D (.dK (is.map (entry (lits ns)))) = H4
        have hD4 : H4 D = some (.dK (is.map (entry (lits ns)))) := eH ▸ upd_same
        have hL4 : H4 L = some (.lst (is.map fun j : Nat => V.int (j : Int))) := eH ▸ (upd_ne nDL).trans hL3
        have sm4 : Same H2 H4 := fun c o h => by
          by_cases e : c = D
          · subst e
            rw [hD2] at h
            rw [hD4, ← h]
          · rw [← eH]
            exact (upd_ne e).trans (keep c o e h)
        have eL : (is.map fun j : Nat => V.int (j : Int)) = (is.map fun j : Nat => (j : Int)).map V.int := by rw [List.map_map]; rfl
        refine ⟨L, is.map fun j : Nat => (j : Int), rfl, SqL.of (eL ▸ hL4), fun js p perm rise hp => ⟨p, rfl, ⟨_, SqL.of upd_same⟩, fun D2 hD2' => lc_list (K := K) (a := p) (xs := js.map V.int) (fun i H5 => Same (upd H4 p (.lst (js.map V.int))) H5 ∧ H5 D2 = some (.lst ((js.take i).map fun j => V.str (txt (lits ns) j.toNat)))) ⟨same_new hD2', upd_same⟩ (fun i H5 _ hh => SqL.of (hh.1 _ _ upd_same)) ?_ ?_⟩⟩
        · rintro i x H5 hx ⟨sm5, hD5⟩
          obtain ⟨jz, hjz, rfl⟩ := get_map hx
          obtain ⟨j, hj, rfl⟩ := List.mem_map.mp (perm.mem_iff.mp (List.mem_of_getElem? hjz))
          have lj : js.length = is.length := by
            have z := perm.length_eq
            rwa [List.length_map] at z
          have hDD : H5 D = some (.dK (is.map (entry (lits ns)))) := sm5 _ _ ((same_new hp) _ _ hD4)
          have g : DGet H5 D (.int (j : Int)) (some (.str (txt (lits ns) j))) := by
            have z := DGet.k (k := Sum.inl (j : Int)) hDD
            rw [entry_val is hj] at z
            exact z
          refine ⟨rfl, _, rfl, _, rfl, D, _, rfl, g, _, hD5, by rw [List.length_map, List.length_take, sizeLine_eq]; omega, fun c o h => (upd_ne (ne_of_none h hD2')).trans (sm5 c o h), ?_⟩
          rw [upd_same, List.take_succ, hjz, List.map_append]
          show _ = some (HO.lst (_ ++ [V.str (txt (lits ns) ((j : Int)).toNat)]))
          rw [Int.toNat_natCast]
        · rintro H5 ⟨sm5, hD5⟩
          rw [List.length_map, List.take_length] at hD5
          have e6 := rise_filter (xs := lits ns) (ls := ls) perm rise ndi mem
          have smF : Same H H5 := (sm.trans sm4).trans ((same_new hp).trans sm5)
          refine .inl ⟨D2, _, rfl, SqL.of hD5, fun q hq => k q _ (smF.free hq) ?_ (smF.trans (same_new hq))⟩
          rw [upd_same]
          have e7 : (js.map fun j => V.str (txt (lits ns) j.toNat)) = (js.map fun j => txt (lits ns) j.toNat).map V.str := by rw [List.map_map]; rfl
          rw [e7, e6]
          rfl
end
end K6
/-! A def whose one default is an empty tuple. -/
namespace EV
open PySem PySem.Spec PyProof.Rows L2
/-- the empty tuple at A0, in the part that stays -/
def NilT (K : PySem.W.Frag) (A0 : Addr) : Prop := ∃ (o : Obj) (n : Nat), K.lookup A0 = some o ∧ o.cls = .type "tuple" ∧ o.data = .seq #[] n
theorem NilT.sq {K : PySem.W.Frag} {A0 : Addr} (h : NilT K A0) (H : Hp) : SqT K H A0 [] := by
  obtain ⟨o, n, h1, h2, h3⟩ := h
  exact .inr ⟨o, #[], n, h1, h2, h3, Nat.zero_le _, .nil⟩
structure FunE (K : PySem.W.Frag) (x qual : Str) (st : Stmt) (f : Addr) (fd : FuncData) (A0 : Addr) : Prop where
  fn : FunD K x qual (defArgs st) (defBody st) (defScope st) [.ref A0] [] f fd
  e0 : NilT K A0
section
variable {P : Program} {w : World} {K : PySem.W.Frag} {mg : Str → Option Value} {base : Heap} {x qual : Str} {st : Stmt} {f A0 : Addr} {fd : FuncData}
theorem FunE.ok {N ps : List Str} {k : Nat} {sp : Sp} (F : FunE K x qual st f fd A0) (S : FnScope N ps (defScope st)) (len : ∀ vs H Q E, sp vs H Q E → vs.length = ps.length)
    (body : ∀ (cdv : Value) (A : Around) (outer : List Env) (s : Shared) (H : Hp) (vs : List V) (Q : VK) (E : XK), Room k (A.deeper (envOfC qual (defScope st) s.heap.objs.size f cdv)) → sp vs H Q E →
      ∃ t, PSs (cxOf CX0 P w K mg base N qual (defScope st) f cdv A outer s H E).nox (defBody st) t ∧ t { nx := fun _ H' => Q .non H', rt := Q } (start N vs) H) : FnOk P w K mg base CX0 (k + 1) f fd ps sp :=
  F.fn.ok S len fun cdv A outer s H vs Q E hr h => by
    obtain ⟨t, p, q⟩ := body cdv A outer s H vs Q E hr h
    exact ⟨t, p.nox, q⟩
theorem funE_mk {oc : Value} {od an : Option Addr} {osl : Array (Option Value)} {kV doc pm cdv ct : Value} {T : Addr} {o o2 : Obj} {n n2 : Nat}
    (l : K.lookup f = some ⟨oc, od, .func (PySem.W.fnOf x qual (defArgs st) (defBody st) (defScope st) (.ref T) kV doc pm an cdv ct), osl⟩) (c : PySem.W.codeIn K cdv qual = true) (k : PySem.W.keepIn K (.ref f) = true)
    (lT : K.lookup T = some o) (dT : o.data = .seq #[.ref A0] n) (lA : K.lookup A0 = some o2) (cA : o2.cls = .type "tuple") (dA : o2.data = .seq #[] n2) :
    FunE K x qual st f (PySem.W.fnOf x qual (defArgs st) (defBody st) (defScope st) (.ref T) kV doc pm an cdv ct) A0 :=
  ⟨⟨⟨oc, od, .ref T, kV, doc, pm, an, cdv, ct, osl, rfl, l, c, .inr ⟨by simp, T, o, [.ref A0], n, rfl, lT, dT, .cons rfl .nil⟩, .inl rfl⟩, k⟩, ⟨o2, n2, lA, cA, dA⟩⟩
/-- the default fills up -/
theorem FunE.short {ps : List Str} (F : FunE K x qual st f fd A0) (n : Nat) (hn : n + 1 = ps.length)
    (h : ∀ (T : Addr) (kV doc pm : Value) (an : Option Addr) (cdv ct : Value) (us its : List Value), us.length = n → its.length = 1 →
      ∃ k, bindArgs (PySem.W.fnOf x qual (defArgs st) (defBody st) (defScope st) (.ref T) kV doc pm an cdv ct) ⟨us, []⟩ = seqItems? (.ref T) >>= k ∧ k (some its.toArray) = pure (ps.zip (us ++ its))) : ∃ ds, Vals [.ref A0] ds ∧ Binds K fd ps ds :=
  F.fn.binds1 n 0 (by simp) hn fun T kV doc pm an cdv ct us its h1 h2 => h T kV doc pm an cdv ct us its h1 h2
/-- all is given -/
theorem FunE.full {ps : List Str} (F : FunE K x qual st f fd A0)
    (h : ∀ (T : Addr) (kV doc pm : Value) (an : Option Addr) (cdv ct : Value) (us its : List Value), us.length = ps.length → its.length = 1 →
      ∃ k, bindArgs (PySem.W.fnOf x qual (defArgs st) (defBody st) (defScope st) (.ref T) kV doc pm an cdv ct) ⟨us, []⟩ = seqItems? (.ref T) >>= k ∧ k (some its.toArray) = pure (ps.zip us)) : Binds K fd ps [] := by
  obtain ⟨ds, r, b⟩ := F.fn.binds1 (ps := ps) ps.length 1 (by simp) (by simp) fun T kV doc pm an cdv ct us its h1 h2 => by
    obtain ⟨k, e1, e2⟩ := h T kV doc pm an cdv ct us its h1 h2
    refine ⟨k, e1, ?_⟩
    have z : its.drop 1 = [] := List.drop_eq_nil_of_le (by rw [h2]; exact Nat.le_refl 1)
    rw [z, List.append_nil]
    exact e2
  cases r
  exact b
end
end EV
namespace K6
open PySem PySem.Spec PyProof.Rows L2 LamX NdefX EV
/-- a row that is never reached -/
theorem ps_none {X : Cx} {st : Stmt} : PS X st (fun _ _ _ => False) := ⟨fun pins s σ H D I h => h.elim⟩
def spIsList (K : PySem.W.Frag) : Sp := fun vs H Q _ => ∃ (x : V) (t : Value) (b : Bool), vs = [x] ∧ (∀ H', Same H H' → TyX K H' x t) ∧ PySem.W.kitAny K t [.type "list", .type "tuple"] = some b ∧ ∀ H', Same H H' → Q (.bl b) H'
/-- names that are checked; others that are taken -/
def spChkNames (K : PySem.W.Frag) : Sp := fun vs H Q _ => ∃ (T U : Addr) (b c : Bool) (ns tk : List Str), vs = [.ref T, .ref U] ∧ (∀ H', Same H H' → Sq K b H' T (ns.map V.str)) ∧ (∀ H', Same H H' → Sq K c H' U (tk.map V.str)) ∧ ns.length ≤ 60 ∧ tk.length ≤ 60 ∧ (tk ++ ns).Nodup ∧ (∀ z ∈ ns, Name1 z) ∧ ∀ H', Same H H' → Q .non H'
section
variable {P : Program} {w : World} {K : PySem.W.Frag} {mg : Str → Option Value} {base : Heap} {f fI fL fW : Addr} {fd fdI fdL fdW : FuncData}
theorem scIsList : FnScope ["thing"] ["thing"] (defScope sIsList) := ⟨rfl, rfl, rfl, by decide +kernel, rfl, by decide +kernel, by decide +kernel⟩
theorem ok_isList (F : Fun K "is_list" "is_list" sIsList f fd) (mi : mg "isinstance" = none) (ml : mg "list" = none) (mt : mg "tuple" = none) : FnOk P w K mg base CX0 1 f fd ["thing"] (spIsList K) := by
  refine F.ok scIsList (fun vs H Q E h => ?_) (fun cdv A outer s H vs Q E hr h => ?_)
  · obtain ⟨x, t, b, rfl, _⟩ := h
    rfl
  · obtain ⟨x, t, b, rfl, ty, kit, k⟩ := h
    refine ⟨_, pss_one (ps_ret (pe_callB call_isiT (by rfl) mi (by decide +kernel) (pa_cons (pv 0) (pa_cons (pe_tup (pa_cons (pe_bltn (v := .ty "list") (by rfl) ml (by decide +kernel) rfl) (pa_cons (pe_bltn (v := .ty "tuple") (by rfl) mt (by decide +kernel) rfl) pa_nil))) pa_nil)))), ?_⟩
    refine ⟨_, rfl, by show 2 ≤ sizeLine; decide, fun tp htp => ⟨x, tp, _, t, _, b, rfl, upd_same, .cons (.ty "list") (.cons (.ty "tuple") .nil), ty _ (same_new htp), kit, k _ (same_new htp)⟩⟩
abbrev nChk : List Str := ["things", "taken", "seen", "name", "index", "thing"]
theorem scChk : FnScope nChk ["things", "taken"] (defScope sChkNames) := ⟨rfl, rfl, rfl, by decide +kernel, rfl, by decide +kernel, by decide +kernel⟩
def seenKv (n : Str) : Key × V := (Sum.inr n, .bl true)
theorem seen_none {n : Str} : ∀ ns : List Str, n ∉ ns → valV (ns.map seenKv) (Sum.inr n) = none
  | [], _ => rfl
  | m :: r, h => by
    have ne : ¬ (seenKv m).1 = Sum.inr n := fun q => by
      have q : (Sum.inr m : Key) = Sum.inr n := q
      injection q with q
      exact h (q ▸ List.mem_cons_self)
    rw [List.map_cons, valV_neg ne]
    exact seen_none r fun q => h (List.mem_cons_of_mem _ q)
theorem seen_some {n : Str} : ∀ ns : List Str, n ∈ ns → valV (ns.map seenKv) (Sum.inr n) = some (.bl true)
  | [], h => nomatch h
  | m :: r, h => by
    by_cases e : m = n
    · subst e
      exact valV_pos rfl
    · have ne : ¬ (seenKv m).1 = Sum.inr n := fun q => by
        have q : (Sum.inr m : Key) = Sum.inr n := q
        injection q with q
        exact e q
      rw [List.map_cons, valV_neg ne]
      exact seen_some r ((List.mem_cons.mp h).resolve_left fun q => e q.symm)
theorem not_before {α : Type} {xs : List α} {i : Nat} {x : α} (nd : xs.Nodup) (h : xs[i]? = some x) : x ∉ xs.take i := fun m => by
  obtain ⟨j, hj, hj2⟩ := List.getElem_of_mem m
  have ilt := (List.getElem?_eq_some_iff.mp h).1
  have jlt : j < i := by rw [List.length_take] at hj; omega
  have z : xs[j]? = some x := by
    rw [List.getElem_take] at hj2
    rw [← hj2]
    exact List.getElem?_eq_getElem _
  exact absurd ((List.getElem?_inj (by omega) nd).mp (z.trans h.symm)) (by omega)
theorem nodup_right {α : Type} {xs ys : List α} (h : (xs ++ ys).Nodup) : ys.Nodup := (List.nodup_append.mp h).2.1
theorem ok_chkNames {A0 : Addr} (F : FunE K "check_names" "check_names" sChkNames f fd A0) (GI : FnOk P w K mg base CX0 1 fI fdI ["thing"] spIsName) (mI : mg "is_name" = some (.ref fI)) (kI : PySem.W.keepIn K (.ref fI) = true) (bI : L2.Binds K fdI ["thing"] []) (me : mg "enumerate" = none) :
    FnOk P w K mg base CX0 2 f fd ["things", "taken"] (spChkNames K) := by
  refine F.ok scChk (fun vs H Q E h => ?_) (fun cdv A outer s H vs Q E hr h => ?_)
  · obtain ⟨T, U, b, c, ns, tk, rfl, _⟩ := h
    rfl
  · obtain ⟨T, U, b, c, ns, tk, rfl, hT', hU', hn, hm, nd, good, k⟩ := h
    have hu := hu_of hr
    refine ⟨_, pss_cons (ps_set (i := 2) scChk.nd rfl (.inl rfl) pe_dnewK)
      (pss_cons (ps_for PassesOwn.never rfl (pi_seq (pv 1)) (pg_name (i := 3) scChk.nd rfl (.inl rfl)) (pss_one (ps_dput hu (pv 2) (pv 3) pe_bl rfl)))
      (pss_one (ps_for PassesOwn.never rfl (pi_enumB (by rfl) me (pa_cons (pv 0) pa_nil)) (pg_tup rfl (pgs_cons (pg_name (i := 4) scChk.nd rfl (.inl rfl)) (pgs_cons (pg_name (i := 5) scChk.nd rfl (.inl rfl)) pgs_nil)))
        (pss_cons (ps_if (PW.pt (pw_or (pt_not (pt_val (pe_call GI hr (by rfl) mI kI bI .nil pass0 (pa_cons (pv 5) pa_nil)))) (pw_or1 (pt_cmp (pc_din hu (pv 5) (pv 2)))))) (pss_one ps_none) pss_nil)
        (pss_one (ps_dput hu (pv 2) (pv 5) pe_bl rfl)))))), ?_⟩
    refine fun d hd => ⟨_, rfl, c, U, _, rfl, hU' _ (same_new hd), for_it walk_sq (fun i σ H2 => ∃ o3 o4 o5, σ = [some (.ref T), some (.ref U), some (.ref d), o3, o4, o5] ∧ Same H H2 ∧ H2 d = some (.dK ((tk.take i).map seenKv))) ⟨_, _, _, rfl, same_new hd, upd_same⟩ (fun i σ H2 _ ⟨_, _, _, _, sm, _⟩ => hU' _ sm) ?_ ?_⟩
    · rintro i x σ H2 H3 hi ⟨o3, o4, o5, rfl, sm, hd2⟩ ⟨rfl, hv⟩
      obtain ⟨n, hn', rfl⟩ := get_map hv
      have fresh := not_before (List.nodup_append.mp nd).1 hn'
      refine ⟨_, rfl, _, rfl, d, _, rfl, DPut.k (k := Sum.inr n) hd2 (by rw [List.length_map, List.length_take, sizeLine_eq]; omega), _, _, _, rfl, fun c o h => (upd_ne (ne_of_none h hd)).trans (sm c o h), ?_⟩
      rw [upd_same, putK_new (seen_none _ fresh), List.take_succ, hn', List.map_append]
      rfl
    rintro σ H2 ⟨o3, o4, o5, rfl, sm, hd2⟩
    rw [List.length_map, List.take_length] at hd2
    refine ⟨_, rfl, b, T, _, rfl, hT' _ sm, for_it walk_enumB (fun i σ H3 => ∃ o3 o4 o5, σ = [some (.ref T), some (.ref U), some (.ref d), o3, o4, o5] ∧ Same H H3 ∧ H3 d = some (.dK ((tk ++ ns.take i).map seenKv))) ⟨_, _, _, rfl, sm, by rw [List.take_zero, List.append_nil]; exact hd2⟩ (fun i σ H2 _ ⟨_, _, _, _, sm, _⟩ => hT' _ sm) ?_ ?_⟩
    · rintro i x σ H2 H3 hi ⟨o3, o4, o5, rfl, sm, hd2⟩ ⟨t, v1, v2, rfl, ht, rfl, hv1, hv2⟩
      obtain ⟨n, hn', rfl⟩ := get_map hv2
      obtain rfl := Option.some.inj hv1
      have fresh : n ∉ tk ++ ns.take i := fun q => by
        rcases List.mem_append.mp q with q | q
        · exact (List.nodup_append.mp nd).2.2 n q n (List.mem_of_getElem? hn') rfl
        · exact not_before (nodup_right nd) hn' q
      have hd3 := (upd_ne (o := .tup [.int (i : Nat), .str n]) (ne_of_none hd2 ht)).trans hd2
      refine ⟨t, _, rfl, SqT.of upd_same, rfl, _, _, rfl, _, _, rfl, rfl, _, rfl, n, rfl, good n (List.mem_of_getElem? hn'), fun H4 sm4 => ?_⟩
      have hd4 := sm4 _ _ hd3
      have g : DGet H4 d (.str n) none := by
        have z := DGet.k (k := Sum.inr n) hd4
        rwa [seen_none _ fresh] at z
      refine ⟨_, rfl, iteF ⟨_, rfl, _, rfl, d, _, rfl, g, _, rfl, iteF ?_⟩⟩
      refine ⟨_, rfl, _, rfl, d, _, rfl, DPut.k (k := Sum.inr n) hd4 (by rw [List.length_map, List.length_append, List.length_take, sizeLine_eq]; omega), _, _, _, rfl, fun c o h => (upd_ne (ne_of_none h hd)).trans (sm4 _ _ ((same_new ht) _ _ (sm c o h))), ?_⟩
      rw [upd_same, putK_new (seen_none _ fresh), List.take_succ, hn', ← List.append_assoc, List.map_append (l₁ := tk ++ ns.take i)]
      rfl
    · rintro σ H2 ⟨o3, o4, o5, rfl, sm, hd2⟩
      exact k H2 sm
end
end K6
namespace K6
open PySem PySem.Spec PyProof.Rows L2 LamX NdefX EV
theorem lit_mem {ns : List Str} {q : Bool × Str} (h : q.2 ∈ ns) : lit q ∈ lits ns := by
  refine List.mem_flatMap.mpr ⟨q.2, h, ?_⟩
  unfold lit
  split
  · exact List.mem_cons_of_mem _ List.mem_cons_self
  · exact List.mem_cons_self
theorem plc_some {ns : List Str} {l : Str} (nd : ns.Nodup) (good : ∀ z ∈ ns, Name1 z) (h : l ∈ lits ns) : ∃ v, valV (plc ns) (Sum.inr l) = some v := by
  obtain ⟨j, hj, ej⟩ := List.getElem_of_mem h
  exact ⟨_, plcF_at _ 0 j (lits_nodup ns nd good) (by rw [← ej]; exact List.getElem?_eq_getElem hj)⟩
/-- a thing that may not stand behind these literals in a clause -/
inductive BadV (K : PySem.W.Frag) (H : Hp) (ns : List Str) (qs : List (Bool × Str)) : V → Prop
  | odd {x : V} (t : Value) (ty : ∀ H', Same H H' → TyX K H' x t) (kit : PySem.W.kitOne K t (.type "str") = some false) : BadV K H ns qs x
  | far {z : Str} (h : z ∉ lits ns) : BadV K H ns qs (.str z)
  | twice {q : Bool × Str} (h : q.2 ∈ ns) (h2 : q.2 ∈ qs.map Prod.snd) : BadV K H ns qs (.str (lit q))
/-- things as a clause of the names ns: all right, or wrong behind some literals -/
inductive Seen (K : PySem.W.Frag) (H : Hp) (ns : List Str) : Bool → List V → Prop
  | ok {qs : List (Bool × Str)} (h : Lits ns qs) : Seen K H ns true ((qs.map lit).map V.str)
  | bad {qs : List (Bool × Str)} {x : V} {rest : List V} (h : Lits ns qs) (b : BadV K H ns qs x) : Seen K H ns false ((qs.map lit).map V.str ++ x :: rest)
def spWrong (K : PySem.W.Frag) : Sp := fun vs H Q _ => ∃ (PL A : Addr) (b : Bool) (ns : List Str) (xs : List V) (r : Bool), vs = [.ref PL, .ref A] ∧ H PL = some (.dK (plc ns)) ∧ Sq K b H A xs ∧ (∀ H', Same H H' → Sq K b H' A xs) ∧ ns.length ≤ 60 ∧ ns.Nodup ∧ (∀ z ∈ ns, Name1 z) ∧ Seen K H ns r xs ∧
  ∀ H', Same H H' → if r = true then Q .non H' else ∀ i : Int, Q (.int i) H'
section
variable {P : Program} {w : World} {K : PySem.W.Frag} {mg : Str → Option Value} {base : Heap} {f fN : Addr} {fd fdN : FuncData}
abbrev nWrong : List Str := ["places", "things", "seen", "index", "thing"]
theorem scWrong : FnScope nWrong ["places", "things"] (defScope sWrong) := ⟨rfl, rfl, rfl, by decide +kernel, rfl, by decide +kernel, by decide +kernel⟩
theorem ok_wrong (F : Fun K "first_wrong" "first_wrong" sWrong f fd) (GN : FnOk P w K mg base CX0 1 fN fdN ["literal"] spNameOf) (mN : mg "name_of" = some (.ref fN)) (kN : PySem.W.keepIn K (.ref fN) = true) (bN : L2.Binds K fdN ["literal"] []) (me : mg "enumerate" = none) (mi : mg "isinstance" = none) (ms : mg "str" = none) :
    FnOk P w K mg base CX0 2 f fd ["places", "things"] (spWrong K) := by
  refine F.ok scWrong (fun vs H Q E h => ?_) (fun cdv A' outer s H vs Q E hr h => ?_)
  · obtain ⟨PL, A, b, ns, xs, r, rfl, _⟩ := h
    rfl
  · obtain ⟨PL, A, b, ns, xs, r, rfl, hPL, hA, hA', hn, nd, good, see, k⟩ := h
    have hu := hu_of hr
    refine ⟨_, pss_cons (ps_set (i := 2) scWrong.nd rfl (.inl rfl) pe_dnewK)
      (pss_cons (ps_for PassesOwn.never rfl (pi_enumB (by rfl) me (pa_cons (pv 1) pa_nil)) (pg_tup rfl (pgs_cons (pg_name (i := 3) scWrong.nd rfl (.inl rfl)) (pgs_cons (pg_name (i := 4) scWrong.nd rfl (.inl rfl)) pgs_nil)))
        (pss_cons (ps_if (PW.pt (pw_or (pt_not (pt_val (pe_callB call_isi (by rfl) mi (by decide +kernel) (pa_cons (pv 4) (pa_cons (pe_bltn (v := .ty "str") (by rfl) ms (by decide +kernel) rfl) pa_nil))))) (pw_or (pt_cmp (pc_dnotin hu (pv 4) (pv 0))) (pw_or1 (pt_cmp (pc_din hu (pe_call GN hr (by rfl) mN kN bN .nil pass0 (pa_cons (pv 4) pa_nil)) (pv 2))))))) (pss_one (ps_ret (pv 3))) pss_nil)
        (pss_one (ps_dput hu (pv 2) (pe_call GN hr (by rfl) mN kN bN .nil pass0 (pa_cons (pv 4) pa_nil)) pe_bl rfl))))
      (pss_one (ps_ret pe_non))), ?_⟩
    obtain ⟨qs, tail, hq, rfl, h1, h2⟩ : ∃ qs tail, Lits ns qs ∧ xs = (qs.map lit).map V.str ++ tail ∧ (tail = [] → r = true) ∧ (∀ x rest, tail = x :: rest → r = false ∧ BadV K H ns qs x) := by
      cases see with
      | @ok qs h => exact ⟨qs, [], h, (List.append_nil _).symm, fun _ => rfl, fun x rest e => (nomatch e)⟩
      | @bad qs x rest h b =>
        refine ⟨qs, x :: rest, h, rfl, (fun e => (nomatch e)), fun y s e => ⟨rfl, ?_⟩⟩
        injection e with e1 _
        exact e1 ▸ b
    have few : qs.length ≤ ns.length := by
      have z := nodup_le (qs.map Prod.snd) ns hq.nd fun n hn => by
        obtain ⟨q, hq', rfl⟩ := List.mem_map.mp hn
        exact hq.sub q hq'
      rwa [List.length_map] at z
    have ll : ((qs.map lit).map V.str).length = qs.length := by rw [List.length_map, List.length_map]
    refine fun d hd => ⟨_, rfl, b, A, _, rfl, hA' _ (same_new hd), for_it walk_enumB (fun i σ H2 => ∃ o3 o4, σ = [some (.ref PL), some (.ref A), some (.ref d), o3, o4] ∧ i ≤ qs.length ∧ Same H H2 ∧ H2 d = some (.dK (((qs.map Prod.snd).take i).map seenKv))) ⟨_, _, rfl, Nat.zero_le _, same_new hd, upd_same⟩ (fun i σ H2 _ ⟨_, _, _, _, sm, _⟩ => hA' _ sm) ?_ ?_⟩
    · rintro i x σ H2 H3 hi ⟨o3, o4, rfl, ile, sm, hd2⟩ ⟨t, v1, v2, rfl, ht, rfl, hv1, hv2⟩
      obtain rfl := Option.some.inj hv1
      replace hv2 : ((qs.map lit).map V.str ++ tail)[i]? = some v2 := hv2
      have hd3 := (upd_ne (o := .tup [.int (i : Nat), v2]) (ne_of_none hd2 ht)).trans hd2
      have sm3 : Same H (upd H2 t (.tup [.int (i : Nat), v2])) := sm.trans (same_new ht)
      have hPL3 := sm3 _ _ hPL
      refine ⟨t, _, rfl, SqT.of upd_same, rfl, _, _, rfl, _, _, rfl, rfl, _, rfl, ?_⟩
      by_cases ilt : i < qs.length
      · -- a literal that may stand here
        obtain ⟨q, hqi⟩ : ∃ q, qs[i]? = some q := ⟨_, List.getElem?_eq_getElem ilt⟩
        have ev : v2 = .str (lit q) := by
          rw [List.getElem?_append_left (by rw [ll]; exact ilt), List.getElem?_map, List.getElem?_map, hqi] at hv2
          exact (Option.some.inj hv2).symm
        subst ev
        have mem := List.mem_of_getElem? hqi
        have qn : (qs.map Prod.snd)[i]? = some q.2 := by rw [List.getElem?_map, hqi]; rfl
        have fresh := not_before hq.nd qn
        obtain ⟨v, hv⟩ := plc_some nd good (lit_mem (hq.sub q mem))
        have g1 : DGet (upd H2 t (.tup [.int (i : Nat), .str (lit q)])) PL (.str (lit q)) (some v) := by
          have z := DGet.k (k := Sum.inr (lit q)) hPL3
          rwa [hv] at z
        have g2 : DGet (upd H2 t (.tup [.int (i : Nat), .str (lit q)])) d (.str q.2) none := by
          have z := DGet.k (k := Sum.inr q.2) hd3
          rwa [seen_none _ fresh] at z
        refine ⟨_, _, _, _, true, rfl, .ty "str", .base (.str _), kit_ty (by decide +kernel), _, rfl, iteF ⟨_, rfl, _, rfl, PL, _, rfl, g1, _, rfl, iteF ⟨_, rfl, q, rfl, good _ (hq.sub q mem), _, rfl, d, _, rfl, g2, _, rfl, iteF ?_⟩⟩⟩
        refine ⟨_, rfl, _, rfl, q, rfl, good _ (hq.sub q mem), d, _, rfl, DPut.k (k := Sum.inr q.2) hd3 (by rw [List.length_map, List.length_take, sizeLine_eq]; omega), _, _, rfl, ilt, fun c o h => (upd_ne (ne_of_none h hd)).trans (sm3 c o h), ?_⟩
        rw [upd_same, putK_new (seen_none _ fresh), List.take_succ, qn, List.map_append]
        rfl
      · -- the thing that may not
        have ie : i = qs.length := by omega
        obtain ⟨rest, et⟩ : ∃ rest, tail = v2 :: rest := by
          rw [List.getElem?_append_right (by rw [ll]; omega), ll, ie, Nat.sub_self] at hv2
          cases tail with
          | nil => cases hv2
          | cons y s => exact ⟨s, by rw [← Option.some.inj hv2]⟩
        obtain ⟨er, bad⟩ := h2 v2 rest et
        have fin : ∀ H', Same H H' → Q (.int (i : Int)) H' := fun H' s' => by
          have z := k H' s'
          rw [er] at z
          exact z i
        have hd3' := hd3
        rw [ie, List.take_of_length_le (by rw [List.length_map]; exact Nat.le_refl _)] at hd3'
        cases bad with
        | odd ty0 ty kit => exact ⟨_, _, _, _, false, rfl, .ty "str", ty _ sm3, kit, _, rfl, iteT ⟨_, rfl, fin _ sm3⟩⟩
        | @far z h =>
          have g1 : DGet (upd H2 t (.tup [.int (i : Nat), .str z])) PL (.str z) none := by
            have y := DGet.k (k := Sum.inr z) hPL3
            rwa [plcF_none _ 0 h] at y
          exact ⟨_, _, _, _, true, rfl, .ty "str", .base (.str _), kit_ty (by decide +kernel), _, rfl, iteF ⟨_, rfl, _, rfl, PL, _, rfl, g1, _, rfl, iteT ⟨_, rfl, fin _ sm3⟩⟩⟩
        | @twice q hq1 hq2 =>
          obtain ⟨v, hv⟩ := plc_some nd good (lit_mem hq1)
          have g1 : DGet (upd H2 t (.tup [.int (i : Nat), .str (lit q)])) PL (.str (lit q)) (some v) := by
            have z := DGet.k (k := Sum.inr (lit q)) hPL3
            rwa [hv] at z
          have g2 : DGet (upd H2 t (.tup [.int (i : Nat), .str (lit q)])) d (.str q.2) (some (.bl true)) := by
            have z := DGet.k (k := Sum.inr q.2) hd3'
            rw [seen_some _ hq2] at z
            rw [ie] at *
            exact z
          exact ⟨_, _, _, _, true, rfl, .ty "str", .base (.str _), kit_ty (by decide +kernel), _, rfl, iteF ⟨_, rfl, _, rfl, PL, _, rfl, g1, _, rfl, iteF ⟨_, rfl, q, rfl, good _ hq1, _, rfl, d, _, rfl, g2, _, rfl, iteT ⟨_, rfl, fin _ sm3⟩⟩⟩⟩
    · rintro σ H2 ⟨o3, o4, rfl, ile, sm, hd2⟩
      rw [List.length_append, ll] at ile
      have et : tail = [] := List.eq_nil_of_length_eq_zero (by omega)
      have z := k H2 sm
      rw [h1 et] at z
      exact z
end
end K6
namespace K6
open PySem PySem.Spec PyProof.Rows L2 LamX NdefX EV
/-- what the program asks of a thing: is it a clause of these names -/
inductive Ask (K : PySem.W.Frag) (H : Hp) (ns : List Str) : Bool → V → Prop
  | seq {b : Bool} {A : Addr} {xs : List V} {r : Bool} (t : Value) (ty : ∀ H', Same H H' → TyX K H' (.ref A) t) (kit : PySem.W.kitAny K t [.type "list", .type "tuple"] = some true) (sq : ∀ H', Same H H' → Sq K b H' A xs) (see : ∀ H', Same H H' → Seen K H' ns r xs) : Ask K H ns r (.ref A)
  | odd {x : V} (t : Value) (ty : ∀ H', Same H H' → TyX K H' x t) (kit : PySem.W.kitAny K t [.type "list", .type "tuple"] = some false) : Ask K H ns false x
theorem Ask.same {K : PySem.W.Frag} {H H' : Hp} {ns : List Str} {r : Bool} {x : V} (sm : Same H H') (a : Ask K H ns r x) : Ask K H' ns r x := by
  cases a with
  | seq t ty kit sq see => exact .seq t (fun H2 s2 => ty H2 (sm.trans s2)) kit (fun H2 s2 => sq H2 (sm.trans s2)) fun H2 s2 => see H2 (sm.trans s2)
  | odd t ty kit => exact .odd t (fun H2 s2 => ty H2 (sm.trans s2)) kit
def spIsClause (K : PySem.W.Frag) : Sp := fun vs H Q _ => ∃ (PL : Addr) (x : V) (ns : List Str) (r : Bool), vs = [.ref PL, x] ∧ H PL = some (.dK (plc ns)) ∧ ns.length ≤ 60 ∧ ns.Nodup ∧ (∀ z ∈ ns, Name1 z) ∧ Ask K H ns r x ∧ ∀ H', Same H H' → Q (.bl r) H'
section
variable {P : Program} {w : World} {K : PySem.W.Frag} {mg : Str → Option Value} {base : Heap} {f fL fW fC : Addr} {fd fdL fdW fdC : FuncData}
theorem scIsClause : FnScope ["places", "thing"] ["places", "thing"] (defScope sIsClause) := ⟨rfl, rfl, rfl, by decide +kernel, rfl, by decide +kernel, by decide +kernel⟩
theorem ok_isClause (F : Fun K "is_clause" "is_clause" sIsClause f fd) (GL : FnOk P w K mg base CX0 1 fL fdL ["thing"] (spIsList K)) (mL : mg "is_list" = some (.ref fL)) (kL : PySem.W.keepIn K (.ref fL) = true) (bL : L2.Binds K fdL ["thing"] [])
    (GW : FnOk P w K mg base CX0 2 fW fdW ["places", "things"] (spWrong K)) (mW : mg "first_wrong" = some (.ref fW)) (kW : PySem.W.keepIn K (.ref fW) = true) (bW : L2.Binds K fdW ["places", "things"] []) :
    FnOk P w K mg base CX0 3 f fd ["places", "thing"] (spIsClause K) := by
  refine F.ok scIsClause (fun vs H Q E h => ?_) (fun cdv A' outer s H vs Q E hr h => ?_)
  · obtain ⟨PL, x, ns, r, rfl, _⟩ := h
    rfl
  · obtain ⟨PL, x, ns, r, rfl, hPL, hn, nd, good, ask, k⟩ := h
    have hr1 : Room 1 _ := hr.mono (by decide)
    refine ⟨_, pss_one (ps_ret (pe_and (pe_call GL hr1 (by rfl) mL kL bL .nil pass0 (pa_cons (pv 1) pa_nil)) (pe_one (pe_cmpR op_isN (pe_call GW hr (by rfl) mW kW bW .nil pass0 (pa_cons (pv 0) (pa_cons (pv 1) pa_nil))) pe_non rfl)))), ?_⟩
    cases ask with
    | @seq b A xs _ t ty kit sq see =>
      refine ⟨_, rfl, .ref A, t, true, rfl, ty, kit, fun H1 sm1 => ⟨_, rfl, iteT ⟨_, rfl, _, rfl, PL, A, b, ns, xs, r, rfl, sm1 _ _ hPL, sq H1 sm1, (fun H2 s2 => sq H2 (sm1.trans s2)), hn, nd, good, see H1 sm1, fun H2 sm2 => ?_⟩⟩⟩
      cases r with
      | true => exact ⟨rfl, k H2 (sm1.trans sm2)⟩
      | false => exact fun i => ⟨rfl, k H2 (sm1.trans sm2)⟩
    | odd t ty kit => exact ⟨_, rfl, x, t, false, rfl, ty, kit, fun H1 sm1 => ⟨_, rfl, iteF (k H1 sm1)⟩⟩
end
end K6
/-! set(xs) of a tuple or list of distinct keys; set == set. -/
namespace EV
open PySem PySem.Spec PyProof.Rows L2
section
variable {prog : Program} {w : World} {K : Type} [DecidableEq K] [BEq K] [LawfulBEq K] {knd : KeyKind prog w K} {A : Around}
/-- the loop that fills a set from a walk: each key is new -/
theorem fill_loop {R : Result → Shared → Prop} {I : Addr} {fp wr : List Addr} {G : Array GenState → Array GenState → Prop} {n : Nat} {Pv : Nat → Value → Prop} {St : Nat → Shared → Prop}
    (W : WalksS prog w A.in1 I fp wr G n Pv St) (D : Addr) (off : D ∉ fp) (ks : List K) (len : ks.length = n) (few : n < 4000) (nd : ks.Nodup)
    (val : ∀ i v, Pv i v → ∃ k, ks[i]? = some k ∧ knd.is k v = true ∧ v.scannable = true) : ∀ (m i : Nat) (s : Shared), i + m = n → St i s → s.heap.SetOf knd D (fun j => decide (j ∈ ks.take i)) i →
      (∀ s', Moved (D :: wr) G s s' → s'.heap.SetOf knd D (fun j => decide (j ∈ ks)) n → R (.ok (.ret .none)) s') →
      codeAny (model prog w) A (.builtin "set.update.loop" ⟨[.ref D, .ref I], []⟩) R s := by
  have offw : D ∉ wr := fun h => off (W.sub _ h)
  have wide : ∀ b ∈ wr, b ∈ D :: wr := fun b hb => List.mem_cons_of_mem _ hb
  have stays : ∀ {h h' : Heap} {S : K → Bool} {c : Nat}, h.SetOf knd D S c → (∀ o, h.get? D = some o → h'.get? D = some o) → h'.SetOf knd D S c := fun x k => by
    obtain ⟨o, es, ep, t, ho, rest⟩ := x
    exact ⟨o, es, ep, t, k o ho, rest⟩
  intro m
  induction m with
  | zero =>
    intro i s sum st hS fin
    obtain rfl : i = n := sum
    refine codeAny_builtin PyProof.Rows.F.entry_set_update_loop ?_
    rw [Around.under_plainId PyProof.Rows.F.plain_set_update_loop _]
    show wpAny _ A.in1 (pyNext (.ref I) >>= _) _ _ s
    refine wpAny_bind (W.done s _ _ st fun s' mv => ?_)
    show wpAny _ A.in1 (ret Value.none) _ _ s'
    rw [← len, List.take_length] at hS
    exact wpAny_pure (fin s' (mv.mono wide) (len ▸ stays hS fun o e => mv.heap D _ offw e))
  | succ m ih =>
    intro i s sum st hS fin
    have lt : i < n := by omega
    refine codeAny_builtin PyProof.Rows.F.entry_set_update_loop ?_
    rw [Around.under_plainId PyProof.Rows.F.plain_set_update_loop _]
    show wpAny _ A.in1 (pyNext (.ref I) >>= _) _ _ s
    refine wpAny_bind (W.item i s _ _ lt st fun v s' hv st' mv => ?_)
    obtain ⟨k, hk, isk, sc⟩ := val i v hv
    have hS' : s'.heap.SetOf knd D (fun j => decide (j ∈ ks.take i)) i := stays hS fun o e => mv.heap D _ offw e
    show wpAny _ A.in1 (holding [v] (setAdd D v) >>= _) _ _ s'
    refine wpAny_bind (wpAny_holding ?_)
    unfold setAdd
    refine wpAny_holding (wpAny_bind (knd.pyHash (k := k) isk ?_))
    refine wpAny_setAddHashed_of (knd := knd) (s := { s' with toks := s'.toks + 1 }) isk sc hS' (by unfold scanBound; omega) fun h' sb hS2 => ?_
    have new : k ∉ ks.take i := fun q => by
      obtain ⟨j, hj, e⟩ := List.getElem_of_mem q
      have il := (List.getElem?_eq_some_iff.mp hk).1
      have jl : j < i := by rw [List.length_take] at hj; omega
      rw [List.getElem_take] at e
      have z : ks[j]? = some k := by rw [← e]; exact List.getElem?_eq_getElem _
      exact absurd ((List.getElem?_inj (by omega) nd).mp (z.trans hk.symm)) (by omega)
    have hS3 : h'.SetOf knd D (fun j => decide (j ∈ ks.take (i + 1))) (i + 1) := by
      refine SetOf_congr hS2 (fun j => ?_) (by rw [decide_eq_false new]; rfl)
      rw [List.take_succ, hk]
      show (decide (j ∈ ks.take i) || decide (j = k)) = decide (j ∈ ks.take i ++ [k])
      rw [← Bool.decide_or]
      exact decide_eq_decide.mpr (by rw [List.mem_append, List.mem_singleton])
    refine wpAny_pure ⟨plainId_quiet PyProof.Rows.F.plain_set_update_loop _, ih (i + 1) _ (by omega) (W.frame _ s' _ _ st' (Nat.le_succ _) fun b hb o e => ?_) hS3 fun s2 mv2 hS4 => ?_⟩
    · exact (sb.2 b fun q => off (q ▸ hb)).trans e
    · refine fin s2 (Moved.trans W.gtrans ((mv.mono wide).then_heap (Nat.le_succ _) fun b o hb e => ?_) mv2) hS4
      exact (sb.2 b fun q => hb (q ▸ List.mem_cons_self)).trans e
end
section
variable {prog : Program} {w : World} {K : Type} [DecidableEq K] [BEq K] [LawfulBEq K] {knd : KeyKind prog w K} {A : Around} {E : Value → Shared → Prop} {s : Shared}
/-- set(t), t a tuple of distinct keys -/
theorem call_setOf {l : Addr} {items : Array Value} {ks : List K} {Q : Value → Shared → Prop} (hh : A.handled = none) (hl : s.heap.IsTuple l items) (len : ks.length = items.size) (few : items.size < 4000) (nd : ks.Nodup)
    (val : ∀ (i : Nat) (v : Value), items[i]? = some v → ∃ k, ks[i]? = some k ∧ knd.is k v = true ∧ v.scannable = true)
    (h : ∀ (h' : Heap) (tk : Nat), h'.SetOf knd s.heap.objs.size (fun j => decide (j ∈ ks)) items.size → (∀ b o, b < s.heap.objs.size → s.heap.get? b = some o → h'.get? b = some o) → Q (.ref s.heap.objs.size) { s with heap := h', toks := tk }) :
    wpAny (model prog w) A (call (.type "set") [.ref l]) Q E s := by
  have made := PySem.F.called_set.made
  have subs := PySem.F.called_set.sub
  have nt := PySem.F.called_set.notType
  have cc := PySem.F.called_set.canCreate
  have tc := PySem.F.typeCall_set_1 (.ref l)
  obtain ⟨c, tl, mro⟩ := PySem.F.called_set.mro
  refine wpAny_call (codeAny_of_tree ?_)
  show wpAny _ _ (callAny (.type "set") _) _ _ _
  refine wpAny_pure ⟨Code.quiet_builtin _ (by decide +kernel), codeAny_builtin PySem.F.entry_type_call ?_⟩
  rw [Around.under_plain (weight_type_call_type "set" [.ref l] []) rfl]
  repeat (any_goals (first | assumption | wp_step))
  refine codeAny_mono (code_set_new_1 (.ref l) (E := E) (Q₁ := fun obj s₁ => ∃ led : Bool, obj = .ref s.heap.objs.size ∧ s₁ = { s with heap := s.heap.push { cls := .type "set", dict := none, data := .set #[] 0 (.fresh 0 0 led) } }) fun led => ⟨led, rfl, rfl⟩) fun res s₁ got => ?_
  match res, got with
  | .error _, got => exact got
  | .ok .next, got => exact got.elim
  | .ok .brk, got => exact got.elim
  | .ok .cont, got => exact got.elim
  | .ok (.ret _), ⟨led, e1, e2⟩ =>
  subst e1 e2
  have hS : (s.heap.push { cls := .type "set", dict := none, data := .set #[] 0 (.fresh 0 0 led) }).get? s.heap.objs.size = some { cls := .type "set", dict := none, data := .set #[] 0 (.fresh 0 0 led) } := Heap.get?_push_size _ rfl
  have hT : Shared.TypeIs { s with heap := s.heap.push { cls := .type "set", dict := none, data := .set #[] 0 (.fresh 0 0 led) } } (.ref s.heap.objs.size) "set" := ⟨_, hS, rfl⟩
  have il := PySem.F.called_set.init.lookup
  have ib := PySem.F.called_set.init.bind (.ref s.heap.objs.size)
  repeat (any_goals (first | assumption | wp_step))
  refine codeAny_mono (codeAny_call_builtin (R := wants (fun r s₂ => r = .none ∧ Q (.ref s.heap.objs.size) s₂) E) PySem.F.called_set.init.plain PySem.F.entry_set_init (check_set_init_1 hT ?_)) fun res s₂ got => ?_
  rotate_left
  · match res, got with
    | .error _, got => exact got
    | .ok .next, got => exact got.elim
    | .ok .brk, got => exact got.elim
    | .ok .cont, got => exact got.elim
    | .ok (.ret _), ⟨e1, q⟩ =>
      subst e1
      repeat (any_goals (first | assumption | wp_step))
  obtain ⟨⟨oc, od, dt, osl⟩, at0, hc, n, hd⟩ := hl
  obtain rfl : oc = .type "tuple" := hc
  obtain rfl : dt = .seq items n := hd
  have at1 : (s.heap.push { cls := .type "set", dict := none, data := .set #[] 0 (.fresh 0 0 led) }).get? l = some { cls := .type "tuple", dict := od, data := .seq items n, slots := osl } := Heap.get?_push_of_some _ at0
  have s1 := PySem.F.sub_tuple_set
  have s2 := PySem.F.sub_tuple_frozenset
  have nd1 : (Value.type "tuple" == Value.type "dict") = false := by decide
  have tup : (s.heap.push { cls := .type "set", dict := none, data := .set #[] 0 (.fresh 0 0 led) }).IsTuple l items := ⟨_, at1, rfl, n, rfl⟩
  unfold Builtin.«set.__init__» noKeywords Builtin.Frozenset.updateFrom
  generalize hPI : pyIter = PI
  wp_walk
  subst hPI
  refine wpAny_pyIter_tuple tup ?_
  refine wpAny_bind (wpAny_runValue ?_)
  have ll : l < s.heap.objs.size := Heap.lt_size at0
  have hh3 : A.in1.in1.in1.handled = none := by simp [hh]
  have up : (s.heap.push { cls := .type "set", dict := none, data := .set #[] 0 (.fresh 0 0 led) }).objs.size = s.heap.objs.size + 1 := Heap.size_push ..
  have ne : l ≠ (s.heap.push { cls := .type "set", dict := none, data := .set #[] 0 (.fresh 0 0 led) }).objs.size := by
    rw [up]
    exact Nat.ne_of_lt (Nat.lt_succ_of_lt ll)
  have off : s.heap.objs.size ∉ [(s.heap.push { cls := .type "set", dict := none, data := .set #[] 0 (.fresh 0 0 led) }).objs.size, l] := fun q => by
    rcases List.mem_cons.mp q with q | q
    · rw [up] at q
      exact Nat.ne_of_lt (Nat.lt_succ_self _) q
    · exact Nat.ne_of_gt ll (List.mem_singleton.mp q)
  refine fill_loop (knd := knd) ((Walks.tuple hh3 _ l ne items).toS) s.heap.objs.size off ks len few nd val items.size 0 _ (Nat.zero_add _) ⟨⟨_, Heap.get?_push_size _ rfl, rfl, rfl⟩, tup.push _⟩ ?_ fun s' mv hS' => ?_
  · exact SetOf_congr ((PyProof.Rows.setObjOf_fresh (knd := knd) led).setOf (Heap.get?_push_of_some _ hS) (by unfold scanBound; omega)) (fun j => (decide_eq_false (by rw [List.take_zero]; exact List.not_mem_nil)).symm) rfl
  · obtain ⟨h', g', d', tk', os'⟩ := s'
    obtain rfl : g' = s.gens := mv.gens
    obtain rfl : d' = s.drawn := mv.drawn
    obtain rfl : os' = s.os := mv.os
    show wpAny _ _ _ _ _ _
    refine wpAny_pure ?_
    show wpAny _ _ (ret Value.none) _ _ _
    refine wpAny_pure ⟨rfl, h h' tk' hS' fun b o hb e => ?_⟩
    refine mv.heap b o (fun q => ?_) (Heap.get?_push_of_some _ (Heap.get?_push_of_some _ e))
    rcases List.mem_cons.mp q with q | q
    · exact Nat.ne_of_lt hb q
    · have z := List.mem_singleton.mp q
      rw [up] at z
      exact Nat.ne_of_lt (Nat.lt_succ_of_lt hb) z
end
theorem entry_setEq : entryFor table "set.__eq__" = some Builtin.«frozenset.__eq__» :=
  entryFor_alias (id' := "frozenset.__eq__") (by kernel_rfl) rfl (by decide +kernel) (by kernel_rfl)
section
variable {prog : Program} {w : World} {K : Type} [DecidableEq K] [BEq K] [LawfulBEq K] {knd : KeyKind prog w K} {A : Around} {E : Value → Shared → Prop} {s : Shared}
theorem quiet_of {M : Model} {x : Value} {Q : Bool → Shared → Prop} (h : x.scannable = true) (k : Q true s) : wpAny M A (Builtin.Frozenset.quietEq x) Q E s := by
  cases x <;> first | exact wpAny_pure k | exact Bool.noConfusion h
/-- is one set part of the other -/
theorem sub_sets {nm : String} {a b : Addr} {S T : K → Bool} {n m : Nat} {r : Bool} {Q : Bool → Shared → Prop} (ha : s.heap.SetOf knd a S n) (hb : s.heap.SetOf knd b T m) (le : n ≤ m) (hr : r = true ↔ ∀ k, S k = true → T k = true) (h : Q r s) :
    wpAny (model prog w) A (Builtin.Frozenset.subsetOf nm a b) Q E s := by
  obtain ⟨oa, es, ep, ta, hoa, hxa, hda, hka, hma, hba, hfa, rfl⟩ := id ha
  obtain ⟨ob, es', ep', tb, hob, hxb, hdb, hkb, hmb, hbb, hfb, rfl⟩ := id hb
  unfold Builtin.Frozenset.subsetOf Builtin.Frozenset.sizeOf
  refine wpAny_bind (wpAny_bind (wpAny_setEntries_of hoa hda hfa (wpAny_pure ?_)))
  refine wpAny_bind (wpAny_bind (wpAny_setEntries_of hob hdb hfb (wpAny_pure ?_)))
  rw [if_neg (Nat.not_lt.mpr le)]
  refine wpAny_bind (wpAny_setEpoch_of hoa hda hfa ?_)
  refine wpAny_bind ?_
  unfold Builtin.Frozenset.walkUnseen
  refine wpAny_bind (wpAny_setEntries_of hoa hda hfa ?_)
  refine wpAny_bind (wpAny_setEntries_of hob hdb hfb ?_)
  refine wpAny_bind (wpAny_forIn_list _ (fun rest q s' => s' = s ∧ q = (none, ()) ∧ ∀ e ∈ rest, e.2.scannable = true) _ ?_ ?_ _ _ ⟨rfl, rfl, fun e he => (List.mem_append.mp he).elim (fun z => (hka e z).2) fun z => (hkb e z).2⟩)
  · rintro ⟨hx, x⟩ rest q s1 ⟨rfl, rfl, sc⟩
    refine wpAny_bind (quiet_of (sc _ List.mem_cons_self) ?_)
    rw [if_neg (by decide)]
    exact wpAny_pure ⟨rfl, rfl, fun e he => sc e (List.mem_cons_of_mem _ he)⟩
  · rintro q s1 ⟨rfl, rfl, _⟩
    refine wpAny_pure ?_
    refine wpAny_bind (wpAny_forIn_list _ (fun rest q s' => s' = s1 ∧ q = (none, ()) ∧ (∀ e ∈ rest, e ∈ es.toList) ∧ ((∀ e ∈ rest, ∀ k, knd.is k e.2 = true → T k = true) → r = true)) _ ?_ ?_ _ _ ⟨rfl, rfl, fun e he => he, fun z => hr.2 fun k hk => ?_⟩)
    · rintro ⟨hx, x⟩ rest q s2 ⟨rfl, rfl, sub, up⟩
      obtain ⟨⟨k, isk, rfl⟩, sc⟩ := hka _ (sub _ List.mem_cons_self)
      refine wpAny_bind (wpAny_holding (wpAny_setFind_of isk sc hb fun i hi => ?_))
      have inS : S k = true := (hma k).2 ⟨_, sub _ List.mem_cons_self, isk⟩
      cases hT : T k with
      | true =>
        rw [hT] at hi
        obtain ⟨j, rfl⟩ := Option.isSome_iff_exists.mp hi
        rw [if_neg (by simp)]
        unfold Builtin.Frozenset.unchanged
        refine wpAny_bind (wpAny_bind (wpAny_setEpoch_of hoa hda hfa ?_))
        rw [if_neg (by simp)]
        refine wpAny_pure (wpAny_pure ⟨rfl, rfl, fun e he => sub e (List.mem_cons_of_mem _ he), fun z => up fun e he => ?_⟩)
        rcases List.mem_cons.mp he with rfl | he
        · intro k' hk'
          obtain rfl := knd.inj _ _ _ hk' isk
          exact hT
        · exact z e he
      | false =>
        rw [hT] at hi
        obtain rfl : i = none := by simpa using hi
        rw [if_pos (show (none : Option Nat).isNone = true from rfl)]
        have rf : r = false := by
          cases r with
          | false => rfl
          | true => exact absurd (hr.1 rfl k inS) (by rw [hT]; decide)
        rw [rf] at h
        exact wpAny_pure (wpAny_pure h)
    · rintro q s2 ⟨rfl, rfl, _, up⟩
      have rt : r = true := up fun e he => nomatch he
      rw [rt] at h
      exact wpAny_pure h
    · obtain ⟨e, he, q⟩ := (hma k).1 hk
      exact z e he k q
end
end EV
/-! set == set. -/
namespace EV
open PySem PySem.Spec PyProof.Rows L2
section
variable {prog : Program} {w : World} {K : Type} [DecidableEq K] [BEq K] [LawfulBEq K] {knd : KeyKind prog w K} {A : Around} {E : Value → Shared → Prop} {s : Shared}
/-- set == set -/
theorem eq_sets {a b : Addr} {S T : K → Bool} {n m : Nat} {r : Bool} {Q : Value → Shared → Prop} (hu : A.units < cLine) (ha : s.heap.SetOf knd a S n) (hb : s.heap.SetOf knd b T m) (hr : r = true ↔ n = m ∧ ∀ k, S k = true → T k = true) (h : Q (.bool r) s) :
    wpAny (model prog w) A (richCompare .Eq (.ref a) (.ref b)) Q E s := by
  refine wpAny_richCompare_same_room (op := .Eq) ha.typeIs hb.typeIs PySem.F.slot_set_eq (wpAny_call_entry PySem.F.slot_set_eq ha.typeIs entry_setEq ?_ (PySem.F.args_set_eq_2 _ _)) hu
  unfold Builtin.«frozenset.__eq__»
  wp_delta
  refine wpAny_bind ?_
  unfold Builtin.Frozenset.slot1 slotArgs
  simp only [List.isEmpty_nil, Bool.not_true, Bool.false_eq_true, ↓reduceIte, bind_assoc, List.length_cons, List.length_nil, bne_self_eq_false]
  refine wpAny_bind (wpAny_pure ?_)
  try dsimp only
  refine wpAny_pure ?_
  try dsimp only
  unfold Builtin.Frozenset.isAnySet
  refine wpAny_bind ?_
  unfold orM
  refine wpAny_bind (wpAny_isInstance (b := true) hb.typeIs PySem.F.sub_set_set ?_)
  refine wpAny_pure ?_
  rw [if_neg (by decide)]
  unfold Builtin.Frozenset.addrOf Builtin.Frozenset.sizeOf
  refine wpAny_bind (wpAny_pure ?_)
  refine wpAny_bind (wpAny_pure ?_)
  obtain ⟨oa, es, ep, ta, hoa, hxa, hda, hka, hma, hba, hfa, rfl⟩ := id ha
  obtain ⟨ob, es', ep', tb, hob, hxb, hdb, hkb, hmb, hbb, hfb, rfl⟩ := id hb
  refine wpAny_bind (wpAny_bind (wpAny_setEntries_of hoa hda hfa (wpAny_pure ?_)))
  refine wpAny_bind (wpAny_bind (wpAny_setEntries_of hob hdb hfb (wpAny_pure ?_)))
  refine wpAny_bind ?_
  by_cases e : es.size = es'.size
  · rw [if_neg (by rw [e]; simp)]
    refine wpAny_bind ?_
    unfold andM
    refine wpAny_bind (wpAny_isInstance (b := false) ha.typeIs PySem.F.sub_set_frozenset ?_)
    refine wpAny_pure ?_
    rw [if_neg (by decide)]
    refine sub_sets (r := r) ha hb (Nat.le_of_eq e) (hr.trans ⟨fun z => z.2, fun z => ⟨e, z⟩⟩) ?_
    exact wpAny_pure ⟨_, rfl, (fun z => nomatch z), h⟩
  · rw [if_pos (by simpa using e)]
    have rf : r = false := by
      cases r with
      | false => rfl
      | true => exact absurd (hr.1 rfl).1 e
    rw [rf] at h
    exact wpAny_pure (wpAny_pure ⟨_, rfl, (fun z => nomatch z), h⟩)
end
end EV
/-! set(t) of a tuple of distinct texts, == of such sets, as rules. -/
namespace EV
open PySem PySem.Spec PyProof.Rows L2
/-- the set of these texts, distinct -/
def SetX (P : Program) (w : World) (a : Addr) (xs : List Str) : HO := .ext fun h => h.SetOf (PySem.strKind P w) a (fun j => decide (j ∈ xs)) xs.length
theorem setX_new {P : Program} {w : World} {H : Hp} {h : Heap} {a : Addr} {xs : List Str} (R : h.SetOf (PySem.strKind P w) a (fun j => decide (j ∈ xs)) xs.length) : ObjOk P w H h a (SetX P w a xs) := by
  have ⟨o, _, _, _, ho, _⟩ := R
  exact ⟨R, ⟨o, ho⟩, fun h1 h2 p k => by
    obtain ⟨o, es, ep, t, ho, r⟩ := p
    exact ⟨o, es, ep, t, k o ho, r⟩⟩
theorem txt_at : ∀ {xs : List Str} {us : List Value}, Vals (xs.map V.str) us → ∀ (i : Nat) (v : Value), us[i]? = some v → ∃ k t, xs[i]? = some k ∧ v = .str k t
  | [], _, .nil, i, v, h => by simp at h
  | x :: xs, _, .cons ⟨t, e⟩ r, 0, v, h => ⟨x, t, rfl, (Option.some.inj h).symm.trans e⟩
  | x :: xs, _, .cons _ r, i + 1, v, h => txt_at r i v h
section
variable {X : Cx}
def rSetX (K : PySem.W.Frag) (P : Program) (w : World) : List V → Hp → VK → Prop := fun vs H Q => ∃ (l : Addr) (xs : List Str), vs = [V.ref l] ∧ SqT K H l (xs.map V.str) ∧ xs.Nodup ∧ xs.length < 4000 ∧ ∀ a, H a = none → Q (.ref a) (upd H a (SetX P w a xs))
theorem cr_setX (hc : X.calm = true) : CallR X (.type "set") (rSetX X.K X.prog X.w) := by
  intro pins s σ H vs us Q I r h
  obtain ⟨l, xs, rfl, hl, nd, few, q⟩ := h
  rw [Vals.ref1 r]
  obtain ⟨its, rv, p, hz⟩ := I.tuple hl
  have hp : s.heap.IsTuple l its.toArray := p
  have len : xs.length = its.length := by
    have z := rv.length
    rwa [List.length_map] at z
  refine call_setOf (knd := PySem.strKind X.prog X.w) (ks := xs) (I.ok.hd hc) hp (by simpa using len) (by simp; omega) nd (fun i v hv => ?_) fun h' tk R k => ?_
  · obtain ⟨k, t, h1, rfl⟩ := txt_at rv i v (by simpa using hv)
    exact ⟨k, h1, strKind_is _ _ _ _, rfl⟩
  · have R2 : h'.SetOf (PySem.strKind X.prog X.w) s.heap.objs.size (fun j => decide (j ∈ xs)) xs.length := by
      have e : its.toArray.size = xs.length := by simpa using len.symm
      rw [← e]
      exact R
    exact ⟨.ref s.heap.objs.size, upd H s.heap.objs.size (SetX X.prog X.w s.heap.objs.size xs), I.laid (t' := tk) (fun b u e => k b u (Heap.lt_size e) e) (Nat.le_refl _) (setX_new R2), rfl, q _ (I.hok.fresh (Nat.le_refl _))⟩
/-- do two lists of distinct texts have the same members -/
def sameMem (xs ys : List Str) : Bool := xs.length == ys.length && xs.all fun x => decide (x ∈ ys)
theorem sameMem_iff {xs ys : List Str} : sameMem xs ys = true ↔ xs.length = ys.length ∧ ∀ x ∈ xs, x ∈ ys := by
  unfold sameMem
  rw [Bool.and_eq_true, beq_iff_eq, List.all_eq_true]
  exact ⟨fun h => ⟨h.1, fun x hx => of_decide_eq_true (h.2 x hx)⟩, fun h => ⟨h.1, fun x hx => decide_eq_true (h.2 x hx)⟩⟩
def rEqX (P : Program) (w : World) : V → V → Hp → VK → Prop := fun x y H Q => ∃ (a b : Addr) (xs ys : List Str), x = .ref a ∧ y = .ref b ∧ H a = some (SetX P w a xs) ∧ H b = some (SetX P w b ys) ∧ Q (.bl (sameMem xs ys)) H
theorem op_eqX (hu : X.A.units < cLine) : OpR X (compareOp .Eq) (rEqX X.prog X.w) := by
  intro pins s σ H x y v u Q I rx ry h
  obtain ⟨a, b, xs, ys, rfl, rfl, ha, hb, q⟩ := h
  obtain rfl : v = Value.ref a := rx
  obtain rfl : u = Value.ref b := ry
  have ra : s.heap.SetOf (PySem.strKind X.prog X.w) a (fun j => decide (j ∈ xs)) xs.length := (I.hok a _ ha).1
  have rb : s.heap.SetOf (PySem.strKind X.prog X.w) b (fun j => decide (j ∈ ys)) ys.length := (I.hok b _ hb).1
  show wpAny (model X.prog X.w) X.A (richCompare .Eq (.ref a) (.ref b)) (EP X pins σ Q) X.xe s
  refine eq_sets (r := sameMem xs ys) hu ra rb (sameMem_iff.trans ?_) ⟨.bl (sameMem xs ys), H, I, rfl, q⟩
  refine ⟨fun h => ⟨h.1, fun k hk => decide_eq_true (h.2 k (of_decide_eq_true hk))⟩, fun h => ⟨h.1, fun x hx => of_decide_eq_true (h.2 x (decide_eq_true hx))⟩⟩
end
end EV
/-! len, in, == and != of instances with methods of their own for them: any answer. -/
namespace EV
open PySem PySem.Spec PyProof.Rows L2
section
variable {X : Cx} {CX : CXT} {n : Nat} {C f : Addr} {fd : FuncData} {ps : List Str} {sp : Sp} {E : XK}
/-- an own function, called by the machine with values that stand for these -/
theorem own_call {A : Around} {pins : List (Addr × Obj)} {σ : L2.St} {H : Hp} {s : Shared} {vs : List V} {us : List Value} {Q : VK} (sb : L2.Sub X n A) (I : Inv X pins σ H s) (F : FnOk X.prog X.w X.K X.mg X.base CX n f fd ps sp) (hb : L2.Binds X.K fd ps []) (hx : Passes CX X E) (r : Vals vs us) (hsp : sp vs H Q E) :
    wpAny (model X.prog X.w) A (call (.ref f) us) (fun v s' => ∃ z H', Inv X pins σ H' s' ∧ RelV z v ∧ Q z H') X.xe s := by
  have e0 : Env0 X.prog X.w X.K X.mg X.base A X.stack s H := by
    have e := I.env0
    exact ⟨by rw [sb.fr]; exact e.frames, e.mod, e.bs, e.bsz, e.funs, e.frf, e.hok, e.bare⟩
  have hl := F.len _ _ _ _ hsp
  have hl2 : us.length = ps.length := r.length.symm.trans hl
  refine wpAny_call (codeAny_mono (F.run A X.stack s H ⟨us, []⟩ us vs _ E sb.room e0 (by
    have z := hb s us I.kIn (by simpa using hl2)
    simpa using z) r hsp) fun r s' hq => ?_)
  cases r with
  | error e => exact hx pins σ H s e s' I hq
  | ok fl =>
    cases fl with
    | ret w =>
      obtain ⟨z, H', I', rz, q⟩ := I.after hq
      exact ⟨z, H', I', rz, q⟩
    | next => exact False.elim hq
    | brk => exact False.elim hq
    | cont => exact False.elim hq
/-- what an own method for a question asks: it answers with a truth value -/
def rOwn (C : Addr) (sp : Sp) (E : XK) (x y : V) (H : Hp) (Q : Bool → Hp → Prop) : Prop := ∃ a dx fs, x = .ref a ∧ H a = some (.ins C dx fs) ∧ sp [.ref a, y] H (fun v H' => ∃ b, v = .bl b ∧ Q b H') E
theorem op_inOwn (F : FnOk X.prog X.w X.K X.mg X.base CX n f fd ps sp) (hs : PySem.W.findIn X.K (.ref C) "__contains__" = some (some (.ref f))) (hf : PySem.W.isFn X.K (.ref f) = true) (hb : L2.Binds X.K fd ps []) (hx : Passes CX X E) (hr : Room n X.A) :
    OpR X (compareOp .In) fun x y H Q => rOwn C sp E y x H fun b H' => Q (.bl b) H' := by
  intro pins s σ H x y v u Q I rx ry h
  obtain ⟨a, dx, fs, rfl, ha, hsp⟩ := h
  obtain rfl : u = Value.ref a := ry
  obtain ⟨mA, J, _⟩ := ins_get I.hok ha
  obtain ⟨od, J, _⟩ := J.look
  obtain ⟨m, hF⟩ := I.fr
  refine PySem.W.in_K hF I.ok.mod.kin J hs hf (wpAny_mono (own_call (Q := fun v H' => ∃ b, v = .bl b ∧ Q (.bl b) H') ⟨hr, rfl⟩ I F hb hx (.cons (show RelV (.ref a) (.ref a) from rfl) (.cons rx .nil)) hsp) (fun w s' z => ?_) fun _ _ e => e)
  obtain ⟨z, H', I', rz, b, rfl, q⟩ := z
  obtain rfl : w = Value.bool b := rz
  exact wpAny_truthy_bool ⟨.bl b, H', I', rfl, q⟩
theorem call_lenOwn (F : FnOk X.prog X.w X.K X.mg X.base CX n f fd ps sp) (hs : PySem.W.findIn X.K (.ref C) "__len__" = some (some (.ref f))) (hf : PySem.W.isFn X.K (.ref f) = true) (hb : L2.Binds X.K fd ps []) (hx : Passes CX X E) (hr : Room (n + 1) X.A) :
    CallR X (.builtin "len") fun vs H Q => ∃ a dx fs, vs = [.ref a] ∧ H a = some (.ins C dx fs) ∧ sp [.ref a] H (fun v H' => ∃ k : Nat, v = .int (k : Int) ∧ k < 1000000 ∧ Q (.int (k : Int)) H') E := by
  intro pins s σ H xs us Q I r h
  obtain ⟨a, dx, fs, rfl, ha, hsp⟩ := h
  obtain ⟨u, rfl, ru⟩ := vals1 r
  obtain rfl : u = Value.ref a := ru
  obtain ⟨mA, J, _⟩ := ins_get I.hok ha
  obtain ⟨od, J, _⟩ := J.look
  obtain ⟨m, hF⟩ := I.fr
  have sb : L2.Sub X (n + 1) X.A := ⟨hr, rfl⟩
  refine PySem.W.len_K hF I.ok.mod.kin J hs hf (wpAny_mono (own_call (Q := fun v H' => ∃ k : Nat, v = .int (k : Int) ∧ k < 1000000 ∧ Q (.int (k : Int)) H') sb.in1 I F hb hx (.cons (show RelV (.ref a) (.ref a) from rfl) .nil) hsp) (fun w s' z => ?_) fun _ _ e => e)
  obtain ⟨z, H', I', rz, k, rfl, lt, q⟩ := z
  obtain ⟨t, rfl⟩ := rz
  exact ⟨⟨by omega, by omega⟩, .int (k : Int), H', I'.tok _, ⟨_, rfl⟩, q⟩
/-- ==, the left one an instance whose class has a method of its own for it; the other one of a class that does not come first -/
theorem op_eqOwn (F : FnOk X.prog X.w X.K X.mg X.base CX n f fd ps sp) (hs : PySem.W.findIn X.K (.ref C) "__eq__" = some (some (.ref f))) (hf : PySem.W.isFn X.K (.ref f) = true) (hb : L2.Binds X.K fd ps []) (hx : Passes CX X E) (hr : Room n X.A) :
    OpR X (compareOp .Eq) fun x y H Q => ∃ t, TyX X.K H y t ∧ PySem.W.notFirst X.K C t = true ∧ rOwn C sp E x y H fun b H' => Q (.bl b) H' := by
  intro pins s σ H x y v u Q I rx ry h
  obtain ⟨t, ty, nf, a, dx, fs, rfl, ha, hsp⟩ := h
  obtain rfl : v = Value.ref a := rx
  obtain ⟨mA, J, _⟩ := ins_get I.hok ha
  obtain ⟨od, J, _⟩ := J.look
  obtain ⟨m, hF⟩ := I.fr
  obtain ⟨P, Z, hP, _⟩ := kit_of I ry ty
  show wpAny (model X.prog X.w) X.A (richCompare .Eq (.ref a) u) (EP X pins σ Q) X.xe s
  refine PySem.W.cmp_K (op := .Eq) (tb := t) hr.units0 hF I.ok.mod.kin J (Z.ty _ _ I.kIn hP) nf hs hf (wpAny_mono (own_call (Q := fun v H' => ∃ b, v = .bl b ∧ Q (.bl b) H') ⟨hr, rfl⟩ I F hb hx (.cons (show RelV (.ref a) (.ref a) from rfl) (.cons ry .nil)) hsp) (fun w s' z => ?_) fun _ _ e => e)
  obtain ⟨z, H', I', rz, b, rfl, q⟩ := z
  obtain rfl : w = Value.bool b := rz
  exact ⟨.bl b, H', I', rfl, q⟩
end
end EV
/-! != of instances by object.__ne__ and an own __eq__; of things of built-in types and an instance. -/
namespace EV
open PySem PySem.Spec PyProof.Rows L2
open AutoSeq1 (wpAny_loadPart')
section
variable {M : Model} {prog : Program} {w : World} {A : Around} {E : Value → Shared → Prop} {s : Shared} {K : PySem.W.Frag} {x C dx : Addr} {od : Option Obj}
theorem not_inst {T : String} {Q : Bool → Shared → Prop} (X : K.In s.heap) (at0 : s.heap.get? x = some (PySem.W.instObj C dx)) (e : PySem.W.subIn K (.ref C) (.type T) = some false) (h : Q false s) : wpAny M A (isInstance (.ref x) (.type T)) Q E s := by
  unfold isInstance
  exact wpAny_bind (wpAny_typeOf_ref at0 ((PySem.W.looks_subIn X e).here h))
theorem no_str {Q : Option Str → Shared → Prop} (at0 : s.heap.get? x = some (PySem.W.instObj C dx)) (h : Q none s) : wpAny M A (asStr? (.ref x)) Q E s := by
  unfold asStr?
  exact wpAny_bind (wpAny_load at0 (wpAny_pure h))
theorem no_int {Q : Option Int → Shared → Prop} (at0 : s.heap.get? x = some (PySem.W.instObj C dx)) (h : Q none s) : wpAny M A (asInt? (.ref x)) Q E s := by
  unfold asInt?
  exact wpAny_bind (wpAny_load at0 (wpAny_pure h))
theorem ne_none {Q : Value → Shared → Prop} (h : Q .notImplemented s) : wpAny (model prog w) A (call (.builtin "NoneType.__ne__") [.none, .ref x]) Q E s :=
  call_gives F.slot_NoneType_ne rfl F.entry_NoneType_ne (F.args_NoneType_ne_2 _ _) (PySem.SeqAt.NoneType___ne___none_ref_0 x) h
theorem ne_int {i : Int} {t : Tok} {Q : Value → Shared → Prop} (at0 : s.heap.get? x = some (PySem.W.instObj C dx)) (h : Q .notImplemented s) : wpAny (model prog w) A (call (.builtin "int.__ne__") [.int i t, .ref x]) Q E s := by
  refine wpAny_call_entry F.slot_int_ne (show s.TypeIs (.int i t) "int" from typeIs_int s i t) F.entry_int_ne ?_ (F.args_int_ne_2 _ _)
  obtain ⟨hp, g, d, tk, os⟩ := s
  wp_walk using wpAny_load at0
  exact ⟨_, rfl, h⟩
theorem ne_str {y : Str} {t : Tok} {Q : Value → Shared → Prop} (at0 : s.heap.get? x = some (PySem.W.instObj C dx)) (h : Q .notImplemented s) : wpAny (model prog w) A (call (.builtin "str.__ne__") [.str y t, .ref x]) Q E s := by
  refine wpAny_call_entry F.slot_str_ne (show s.TypeIs (.str y t) "str" from typeIs_str s y t) F.entry_str_ne ?_ (F.args_str_ne_2 _ _)
  obtain ⟨hp, g, d, tk, os⟩ := s
  wp_walk using wpAny_load at0
  exact ⟨_, rfl, h⟩
theorem ne_list {l : Addr} {Q : Value → Shared → Prop} (X : K.In s.heap) (at0 : s.heap.get? x = some (PySem.W.instObj C dx)) (e : PySem.W.subIn K (.ref C) (.type "list") = some false) (hl : s.TypeIs (.ref l) "list") (h : Q .notImplemented s) :
    wpAny (model prog w) A (call (.builtin "list.__ne__") [.ref l, .ref x]) Q E s := by
  refine wpAny_call_entry F.slot_list_ne hl F.entry_list_ne ?_ (F.args_list_ne_2 _ _)
  wp_walk using not_inst X at0 e
  exact ⟨_, rfl, h⟩
theorem ne_tuple {l : Addr} {Q : Value → Shared → Prop} (X : K.In s.heap) (at0 : s.heap.get? x = some (PySem.W.instObj C dx)) (e : PySem.W.subIn K (.ref C) (.type "tuple") = some false) (hl : s.TypeIs (.ref l) "tuple") (h : Q .notImplemented s) :
    wpAny (model prog w) A (call (.builtin "tuple.__ne__") [.ref l, .ref x]) Q E s := by
  refine wpAny_call_entry F.slot_tuple_ne hl F.entry_tuple_ne ?_ (F.args_tuple_ne_2 _ _)
  wp_walk using not_inst X at0 e
  exact ⟨_, rfl, h⟩
theorem ne_dict {l : Addr} {Q : Value → Shared → Prop} (X : K.In s.heap) (at0 : s.heap.get? x = some (PySem.W.instObj C dx)) (e : PySem.W.subIn K (.ref C) (.type "dict") = some false) (hl : s.TypeIs (.ref l) "dict") (h : Q .notImplemented s) :
    wpAny (model prog w) A (call (.builtin "dict.__ne__") [.ref l, .ref x]) Q E s := by
  refine wpAny_call_entry F.slot_dict_ne hl F.entry_dict_ne ?_ (F.args_dict_ne_2 _ _)
  show wpAny _ _ (Builtin.Dict.dictSlotArgs "__ne__" ⟨[.ref l, .ref x], []⟩ >>= _) _ _ s
  refine wpAny_bind ?_
  unfold Builtin.Dict.dictSlotArgs
  refine wpAny_bind (wpAny_notOrdered_dict hl ?_)
  show wpAny _ _ (pure (Value.ref l, Value.ref x)) _ _ s
  refine wpAny_pure ?_
  refine wpAny_bind (not_inst X at0 e ?_)
  rw [if_pos (by decide)]
  exact wpAny_bind (wpAny_rule (wpAny_pure ⟨_, rfl, h⟩))
/-- object.__ne__ of an instance asks its own __eq__ -/
theorem call_objNe {f : Addr} {b : Value} {ox : Obj} {Q : Value → Shared → Prop} (hu : A.units + 1 < cLine) (X : K.In s.heap) (I : PySem.W.InstAt s.heap x ox C od) (hm : PySem.W.mroIn K C (.type "object") = some true) (hs : PySem.W.findIn K (.ref C) "__eq__" = some (some (.ref f))) (hf : PySem.W.isFn K (.ref f) = true)
    (h : wpAny (model prog w) A.in1 (call (.ref f) [.ref x, b]) (fun v s' => ∃ r, v = .bool r ∧ Q (.bool (!r)) s') E s) : wpAny (model prog w) A (call (.builtin "object.__ne__") [.ref x, b]) Q E s := by
  refine wpAny_call (codeAny_call_builtin F.cmp_object.ne.plain F.cmpEntry_ne (PySem.W.check_slot F.cmpKind_ne F.cmpSplit_ne (I.type.andThen (PySem.W.looks_mroIn X hm)) (F.cmpArgs_ne _ _) ?_))
  unfold Builtin.«object.__ne__»
  refine wpAny_bind (m := slotArgs "__ne__" 1 ⟨[.ref x, b], []⟩) (wpAny_pure ?_)
  dsimp only
  refine wpAny_bind (wpAny_cRoomFor hu ?_)
  refine wpAny_bind (PySem.W.ifBound_K X I hs hf (wpAny_mono h (fun v s' hv => ?_) fun _ _ e => e))
  obtain ⟨r, rfl, q⟩ := hv
  show wpAny _ _ (truthy (Value.bool r) >>= _) _ _ _
  refine wpAny_bind (wpAny_truthy_bool ?_)
  exact wpAny_pure q
theorem bound_ne {args : List Value} {ox : Obj} {Q : Option Value → Shared → Prop} (X : K.In s.heap) (I : PySem.W.InstAt s.heap x ox C od) (hs : PySem.W.findIn K (.ref C) "__ne__" = some (some (.builtin "object.__ne__")))
    (h : wpAny M A (call (.builtin "object.__ne__") (.ref x :: args)) (fun v => Q (some v)) E s) : wpAny M A (callSpecialIfBound? (.ref x) "__ne__" args) Q E s := by
  simp only [callSpecialIfBound?, bindSpecialIfBound?]
  refine wpAny_holding (wpAny_bind (wpAny_bind (wpAny_bind (I.type.here ((PySem.W.looks_findIn X hs).here ?_)))))
  have last : wpAny M A (call (.builtin "object.__ne__") ([.ref x] ++ args) >>= fun v => pure (some v)) Q E s := wpAny_bind (wpAny_mono h (fun v s' q => wpAny_pure q) fun _ _ q => q)
  refine wpAny_bind (wpAny_askSetting (wpAny_ite ?_))
  split
  · exact wpAny_bind (wpAny_of_eq (F.cmp_object.ne.bind _) (wpAny_pure (by exact last)))
  · exact wpAny_tryCatch (wpAny_bind (wpAny_of_eq (F.cmp_object.ne.bind _) (wpAny_pure (by exact last))))
/-- x.__ne__(b), x an instance -/
theorem try_ne {f : Addr} {b : Value} {ox : Obj} {Q : Value → Shared → Prop} (hu : A.units + 1 < cLine) (X : K.In s.heap) (I : PySem.W.InstAt s.heap x ox C od) (hm : PySem.W.mroIn K C (.type "object") = some true) (hs : PySem.W.findIn K (.ref C) "__eq__" = some (some (.ref f))) (hf : PySem.W.isFn K (.ref f) = true) (hn : PySem.W.findIn K (.ref C) "__ne__" = some (some (.builtin "object.__ne__")))
    (h : wpAny (model prog w) A.in1 (call (.ref f) [.ref x, b]) (fun v s' => ∃ r, v = .bool r ∧ Q (.bool (!r)) s') E s) : wpAny (model prog w) A (tryCompare (.ref x) "__ne__" b) (fun r s' => ∃ v, r = some v ∧ Q v s') E s := by
  unfold tryCompare
  refine wpAny_bind (bound_ne X I hn (call_objNe hu X I hm hs hf (wpAny_mono h (fun v s' hv => ?_) fun _ _ e => e)))
  obtain ⟨r, rfl, q⟩ := hv
  exact ⟨r, rfl, wpAny_pure ⟨_, rfl, q⟩⟩
/-- x != b, x an instance -/
theorem rc_neL {f : Addr} {b tb : Value} {ox : Obj} {Q : Value → Shared → Prop} (hu : A.units + 1 < cLine) (X : K.In s.heap) (I : PySem.W.InstAt s.heap x ox C od) (hb : PySem.W.Looks (model prog w) s.heap (typeOf b) tb) (nf : PySem.W.notFirst K C tb = true) (hm : PySem.W.mroIn K C (.type "object") = some true) (hs : PySem.W.findIn K (.ref C) "__eq__" = some (some (.ref f))) (hf : PySem.W.isFn K (.ref f) = true) (hn : PySem.W.findIn K (.ref C) "__ne__" = some (some (.builtin "object.__ne__")))
    (h : wpAny (model prog w) A.in1 (call (.ref f) [.ref x, b]) (fun v s' => ∃ r, v = .bool r ∧ Q (.bool (!r)) s') E s) : wpAny (model prog w) A (richCompare .NotEq (.ref x) b) Q E s := by
  have one := try_ne hu X I hm hs hf hn h
  unfold richCompare
  simp only [oneThing_ref]
  refine wpAny_holding (wpAny_bind (wpAny_cRoomFor (Nat.lt_of_succ_lt hu) ?_))
  rw [cmpInfo_NotEq]
  dsimp only
  refine wpAny_bind (I.type.here (wpAny_bind (hb.here ?_)))
  split
  · rename_i q
    have e : PySem.W.subIn K tb (.ref C) = some false := by
      rcases Bool.or_eq_true_iff.mp nf with e | e
      · rw [beq_iff_eq.mp e] at q
        simp at q
      · exact beq_iff_eq.mp e
    refine wpAny_bind ((PySem.W.looks_subIn X e).here ?_)
    simp only [Bool.false_eq_true, if_false]
    refine wpAny_bind (wpAny_mono one (fun r s' z => ?_) fun _ _ e => e)
    obtain ⟨v, rfl, hq⟩ := z
    exact wpAny_pure hq
  · refine wpAny_bind (wpAny_pure ?_)
    simp only [Bool.false_eq_true, if_false]
    refine wpAny_bind (wpAny_mono one (fun r s' z => ?_) fun _ _ e => e)
    obtain ⟨v, rfl, hq⟩ := z
    exact wpAny_pure hq
/-- a != x, a of a built-in type whose __ne__ declines -/
theorem rc_neR {f : Addr} {a : Value} {T id : String} {ox : Obj} {Q : Value → Shared → Prop} (hu : A.units + 1 < cLine) (X : K.In s.heap) (I : PySem.W.InstAt s.heap x ox C od) (ha : s.TypeIs a T) (one : oneThing? .NotEq a (.ref x) = none) (ns : PySem.W.subIn K (.ref C) (.type T) = some false) (sl : Slot T "__ne__" id) (dec : ∀ (Q : Value → Shared → Prop), Q .notImplemented s → wpAny (model prog w) A (call (.builtin id) [a, .ref x]) Q E s)
    (hm : PySem.W.mroIn K C (.type "object") = some true) (hs : PySem.W.findIn K (.ref C) "__eq__" = some (some (.ref f))) (hf : PySem.W.isFn K (.ref f) = true) (hn : PySem.W.findIn K (.ref C) "__ne__" = some (some (.builtin "object.__ne__")))
    (h : wpAny (model prog w) A.in1 (call (.ref f) [.ref x, a]) (fun v s' => ∃ r, v = .bool r ∧ Q (.bool (!r)) s') E s) : wpAny (model prog w) A (richCompare .NotEq a (.ref x)) Q E s := by
  have two := try_ne hu X I hm hs hf hn h
  unfold richCompare
  simp only [one]
  refine wpAny_holding (wpAny_bind (wpAny_cRoomFor (Nat.lt_of_succ_lt hu) ?_))
  rw [cmpInfo_NotEq]
  dsimp only
  refine wpAny_bind (wpAny_typeOf ha (wpAny_bind (I.type.here ?_)))
  have rest : wpAny (model prog w) A (do
      if let some v ← tryCompare a "__ne__" (.ref x) then return v
      if let some v ← tryCompare (.ref x) "__ne__" a then return v
      rule "compare.ne-identity"; return .bool (!(← isSame a (.ref x)))) Q E s := by
    refine wpAny_bind (wpAny_tryCompare_declines ha sl (dec _ ⟨rfl, ?_⟩))
    refine wpAny_bind (wpAny_mono two (fun r s' z => ?_) fun _ _ e => e)
    obtain ⟨v, rfl, hq⟩ := z
    exact wpAny_pure hq
  split
  · refine wpAny_bind ((PySem.W.looks_subIn X ns).here ?_)
    simp only [Bool.false_eq_true, if_false, Bool.not_false, if_true]
    exact rest
  · refine wpAny_bind (wpAny_pure ?_)
    simp only [Bool.false_eq_true, if_false, Bool.not_false, if_true]
    exact rest
end
end EV
/-! != of an instance with an own __eq__ and any other thing, as a rule. -/
namespace EV
open PySem PySem.Spec PyProof.Rows L2
def oddTypes : List String := ["NoneType", "int", "str", "list", "tuple", "dict"]
structure NeTxt (K : PySem.W.Frag) (C f : Addr) : Prop where
  eq : PySem.W.findIn K (.ref C) "__eq__" = some (some (.ref f))
  fn : PySem.W.isFn K (.ref f) = true
  ne : PySem.W.findIn K (.ref C) "__ne__" = some (some (.builtin "object.__ne__"))
  obj : PySem.W.mroIn K C (.type "object") = some true
  sub : ∀ T ∈ oddTypes, PySem.W.subIn K (.ref C) (.type T) = some false
/-- things of built-in types, as left ones -/
inductive OddL (K : PySem.W.Frag) (H : Hp) : V → Prop
  | non : OddL K H .non
  | int (i : Int) : OddL K H (.int i)
  | str (z : Str) : OddL K H (.str z)
  | lst {a : Addr} {xs : List V} (h : SqL K H a xs) : OddL K H (.ref a)
  | tup {a : Addr} {xs : List V} (h : SqT K H a xs) : OddL K H (.ref a)
  | dct {a : Addr} {kvs : List (Key × V)} (h : H a = some (.dK kvs)) : OddL K H (.ref a)
section
variable {X : Cx} {CX : CXT} {n : Nat} {C f : Addr} {fd : FuncData} {ps : List Str} {sp : Sp} {E : XK}
def rNeL (K : PySem.W.Frag) (C : Addr) (sp : Sp) (E : XK) (x y : V) (H : Hp) (Q : VK) : Prop := ∃ a dx fs t, x = .ref a ∧ H a = some (.ins C dx fs) ∧ TyX K H y t ∧ PySem.W.notFirst K C t = true ∧ sp [.ref a, y] H (fun v H' => ∃ b, v = .bl b ∧ Q (.bl !b) H') E
def rNeR (K : PySem.W.Frag) (C : Addr) (sp : Sp) (E : XK) (x y : V) (H : Hp) (Q : VK) : Prop := ∃ a dx fs, y = .ref a ∧ H a = some (.ins C dx fs) ∧ OddL K H x ∧ sp [.ref a, x] H (fun v H' => ∃ b, v = .bl b ∧ Q (.bl !b) H') E
theorem op_neOwn (F : FnOk X.prog X.w X.K X.mg X.base CX n f fd ps sp) (T : NeTxt X.K C f) (hb : L2.Binds X.K fd ps []) (hx : Passes CX X E) (hr : Room (n + 1) X.A) :
    OpR X (compareOp .NotEq) fun x y H Q => rNeL X.K C sp E x y H Q ∨ rNeR X.K C sp E x y H Q := by
  intro pins s σ H x y v u Q I rx ry h
  have sb : L2.Sub X (n + 1) X.A := ⟨hr, rfl⟩
  have hu : X.A.units + 1 < cLine := hu_of hr
  show wpAny (model X.prog X.w) X.A (richCompare .NotEq v u) (EP X pins σ Q) X.xe s
  rcases h with ⟨a, dx, fs, t, rfl, ha, ty, nf, hsp⟩ | ⟨a, dx, fs, rfl, ha, odd, hsp⟩
  · obtain rfl : v = Value.ref a := rx
    obtain ⟨mA, J, _⟩ := ins_get I.hok ha
    obtain ⟨od, J, _⟩ := J.look
    obtain ⟨P, Z, hP, _⟩ := kit_of I ry ty
    refine rc_neL hu I.kIn J (Z.ty _ _ I.kIn hP) nf T.obj T.eq T.fn T.ne (wpAny_mono (own_call (Q := fun v H' => ∃ b, v = .bl b ∧ Q (.bl !b) H') sb.in1 I F hb hx (.cons (show RelV (.ref a) (.ref a) from rfl) (.cons ry .nil)) hsp) (fun w s' z => ?_) fun _ _ e => e)
    obtain ⟨z, H', I', rz, b, rfl, q⟩ := z
    obtain rfl : w = Value.bool b := rz
    exact ⟨b, rfl, .bl !b, H', I', rfl, q⟩
  · obtain rfl : u = Value.ref a := ry
    obtain ⟨mA, J0, _⟩ := ins_get I.hok ha
    have at0 := J0.obj
    obtain ⟨od, J, _⟩ := J0.look
    have inner : ∀ {w : Value}, RelV x w → wpAny (model X.prog X.w) X.A.in1 (call (.ref f) [.ref a, w]) (fun v s' => ∃ r, v = .bool r ∧ EP X pins σ Q (.bool (!r)) s') X.xe s := fun rw' => by
      refine wpAny_mono (own_call (Q := fun v H' => ∃ b, v = .bl b ∧ Q (.bl !b) H') sb.in1 I F hb hx (.cons (show RelV (.ref a) (.ref a) from rfl) (.cons rw' .nil)) hsp) (fun w s' z => ?_) fun _ _ e => e
      obtain ⟨z, H', I', rz, b, rfl, q⟩ := z
      obtain rfl : w = Value.bool b := rz
      exact ⟨b, rfl, .bl !b, H', I', rfl, q⟩
    have sub : ∀ T' ∈ oddTypes, PySem.W.subIn X.K (.ref C) (.type T') = some false := T.sub
    cases odd with
    | non =>
      obtain rfl : v = Value.none := rx
      exact rc_neR hu I.kIn J rfl rfl (sub "NoneType" (by decide)) PySem.F.slot_NoneType_ne (fun Q q => ne_none q) T.obj T.eq T.fn T.ne (inner rfl)
    | int i =>
      obtain ⟨t, rfl⟩ := rx
      exact rc_neR hu I.kIn J (typeIs_int s i t) rfl (sub "int" (by decide)) PySem.F.slot_int_ne (fun Q q => ne_int at0 q) T.obj T.eq T.fn T.ne (inner ⟨t, rfl⟩)
    | str z =>
      obtain ⟨t, rfl⟩ := rx
      exact rc_neR hu I.kIn J (typeIs_str s z t) rfl (sub "str" (by decide)) PySem.F.slot_str_ne (fun Q q => ne_str at0 q) T.obj T.eq T.fn T.ne (inner ⟨t, rfl⟩)
    | @lst l xs hl =>
      obtain rfl : v = Value.ref l := rx
      obtain ⟨its, _, p, _⟩ := I.list hl
      have tl : s.TypeIs (.ref l) "list" := p.isList.elim fun o q => ⟨o, q.1, q.2.1⟩
      exact rc_neR hu I.kIn J tl rfl (sub "list" (by decide)) PySem.F.slot_list_ne (fun Q q => ne_list I.kIn at0 (sub "list" (by decide)) tl q) T.obj T.eq T.fn T.ne (inner rfl)
    | @tup l xs hl =>
      obtain rfl : v = Value.ref l := rx
      obtain ⟨its, _, p, _⟩ := I.tuple hl
      have hp : s.heap.IsTuple l its.toArray := p
      have tl : s.TypeIs (.ref l) "tuple" := hp.elim fun o q => ⟨o, q.1, q.2.1⟩
      exact rc_neR hu I.kIn J tl rfl (sub "tuple" (by decide)) PySem.F.slot_tuple_ne (fun Q q => ne_tuple I.kIn at0 (sub "tuple" (by decide)) tl q) T.obj T.eq T.fn T.ne (inner rfl)
    | @dct l kvs hl =>
      obtain rfl : v = Value.ref l := rx
      obtain ⟨_, hd, vs, rel, dd⟩ := dk_of I.hok hl
      have tl : s.TypeIs (.ref l) "dict" := dd.typeIs
      exact rc_neR hu I.kIn J tl rfl (sub "dict" (by decide)) PySem.F.slot_dict_ne (fun Q q => ne_dict I.kIn at0 (sub "dict" (by decide)) tl q) T.obj T.eq T.fn T.ne (inner rfl)
end
end EV
namespace K6
open PySem PySem.Spec PyProof.Rows L2 LamX NdefX EV
/-! ### rows as literals of distinct names -/
theorem lit_inj {p q : Bool × Str} (hp : Name1 p.2) (hq : Name1 q.2) (e : lit p = lit q) : p = q := by
  obtain ⟨a, m⟩ := p
  obtain ⟨b, n⟩ := q
  unfold lit at e
  cases a <;> cases b <;> simp at e
  · rw [e]
  · exact (name_neg hp e).elim
  · exact (name_neg hq e.symm).elim
  · rw [neg_inj e]
def pairs (ns : List Str) : List (Bool × Str) := ns.flatMap fun n => [(false, n), (true, n)]
theorem pairs_lit : ∀ ns : List Str, (pairs ns).map lit = lits ns
  | [] => rfl
  | n :: r => by
    show lit (false, n) :: lit (true, n) :: (pairs r).map lit = n :: neg n :: lits r
    rw [pairs_lit r]
    rfl
theorem pairs_mem {ns : List Str} {q : Bool × Str} : q ∈ pairs ns ↔ q.2 ∈ ns := by
  unfold pairs
  rw [List.mem_flatMap]
  constructor
  · rintro ⟨n, hn, h⟩
    rcases List.mem_cons.mp h with h | h
    · rw [h]; exact hn
    · rw [List.mem_singleton.mp h]; exact hn
  · intro h
    refine ⟨q.2, h, ?_⟩
    obtain ⟨b, n⟩ := q
    cases b <;> simp
theorem pairs_nodup : ∀ (ns : List Str) (p : Bool × Str → Bool), ns.Nodup → (∀ n ∈ ns, ¬ (p (false, n) = true ∧ p (true, n) = true)) → (((pairs ns).filter p).map Prod.snd).Nodup
  | [], _, _, _ => List.nodup_nil
  | n :: r, p, nd, one => by
    obtain ⟨n1, n2⟩ := List.nodup_cons.mp nd
    have ih := pairs_nodup r p n2 fun m hm => one m (List.mem_cons_of_mem _ hm)
    have fresh : n ∉ ((pairs r).filter p).map Prod.snd := fun q => by
      obtain ⟨z, hz, e⟩ := List.mem_map.mp q
      have z2 := pairs_mem.mp (List.mem_filter.mp hz).1
      rw [e] at z2
      exact n1 z2
    have o := one n List.mem_cons_self
    show ((((false, n) :: (true, n) :: pairs r).filter p).map Prod.snd).Nodup
    cases h1 : p (false, n) with
    | true =>
      have h2 : p (true, n) = false := by
        cases h2 : p (true, n) with
        | false => rfl
        | true => exact absurd ⟨h1, h2⟩ o
      rw [List.filter_cons_of_pos h1, List.filter_cons_of_neg (by rw [h2]; decide), List.map_cons]
      exact List.nodup_cons.mpr ⟨fresh, ih⟩
    | false =>
      rw [List.filter_cons_of_neg (by rw [h1]; decide)]
      cases h2 : p (true, n) with
      | true =>
        rw [List.filter_cons_of_pos h2, List.map_cons]
        exact List.nodup_cons.mpr ⟨fresh, ih⟩
      | false =>
        rw [List.filter_cons_of_neg (by rw [h2]; decide)]
        exact ih
/-- a row is a clause again -/
theorem RowOf.lits {ns r : List Str} (nd : ns.Nodup) (good : ∀ z ∈ ns, Name1 z) (h : RowOf ns r) : ∃ qs, Lits ns qs ∧ r = qs.map lit := by
  obtain ⟨qs, hq, rfl⟩ := h
  refine ⟨(pairs ns).filter fun q => decide (lit q ∈ qs.map lit), ⟨pairs_nodup ns _ nd ?_, fun q h => pairs_mem.mp (List.mem_filter.mp h).1⟩, ?_⟩
  · rintro n hn ⟨h1, h2⟩
    obtain ⟨p, hp, e1⟩ := List.mem_map.mp (of_decide_eq_true h1)
    obtain ⟨q, hq', e2⟩ := List.mem_map.mp (of_decide_eq_true h2)
    have p1 := lit_inj (good _ (hq.sub p hp)) (good n hn) e1
    have q1 := lit_inj (good _ (hq.sub q hq')) (good n hn) e2
    subst p1 q1
    have same : ∀ {qs : List (Bool × Str)} {p q : Bool × Str}, (qs.map Prod.snd).Nodup → p ∈ qs → q ∈ qs → p.2 = q.2 → p = q := fun {qs} => by
      induction qs with
      | nil => intro p q _ h; cases h
      | cons z r ih =>
        intro p q nd hp hq e
        rw [List.map_cons] at nd
        obtain ⟨m1, m2⟩ := List.nodup_cons.mp nd
        rcases List.mem_cons.mp hp with h1 | h1
        · rcases List.mem_cons.mp hq with h2 | h2
          · exact h1.trans h2.symm
          · exact absurd (h1 ▸ e ▸ List.mem_map_of_mem h2 : z.2 ∈ r.map Prod.snd) m1
        · rcases List.mem_cons.mp hq with h2 | h2
          · exact absurd (h2 ▸ e ▸ List.mem_map_of_mem h1 : z.2 ∈ r.map Prod.snd) m1
          · exact ih m2 h1 h2 e
    have z := same hq.nd hp hq' rfl
    cases z
  · unfold asc
    rw [← pairs_lit, List.filter_map]
    rfl
theorem Lits.names {ns ns' : List Str} {qs : List (Bool × Str)} (h : Lits ns qs) (sub : ∀ z ∈ ns, z ∈ ns') : Lits ns' qs := ⟨h.nd, fun q hq => sub _ (h.sub q hq)⟩
theorem lits_mem {ns : List Str} {l : Str} : l ∈ lits ns ↔ ∃ n ∈ ns, l = n ∨ l = neg n := by
  unfold lits
  rw [List.mem_flatMap]
  constructor
  · rintro ⟨n, hn, h⟩
    rcases List.mem_cons.mp h with h | h
    · exact ⟨n, hn, .inl h⟩
    · exact ⟨n, hn, .inr (List.mem_singleton.mp h)⟩
  · rintro ⟨n, hn, h | h⟩
    · exact ⟨n, hn, by rw [h]; exact List.mem_cons_self⟩
    · exact ⟨n, hn, by rw [h]; exact List.mem_cons_of_mem _ (List.mem_singleton.mpr rfl)⟩
theorem asc_congr {ns a b : List Str} (h : ∀ l, l ∈ a ↔ l ∈ b) : asc ns a = asc ns b := by
  unfold asc
  refine List.filter_congr fun l _ => ?_
  exact decide_eq_decide.mpr (h l)
theorem asc_asc {ns ls : List Str} : asc ns (asc ns ls) = asc ns ls := by
  unfold asc
  refine List.filter_congr fun l hl => ?_
  exact decide_eq_decide.mpr ⟨fun h => of_decide_eq_true (List.mem_filter.mp h).2, fun h => List.mem_filter.mpr ⟨hl, decide_eq_true h⟩⟩
end K6
namespace K6
open PySem PySem.Spec PyProof.Rows L2 LamX NdefX EV
/-! ### rows, each once -/
def addRow (rs : List (List Str)) (r : List Str) : List (List Str) := if r ∈ rs then rs else rs ++ [r]
def rowKv (r : List Str) : List Key × V := (r.map Sum.inr, .bl true)
theorem inr_inj : ∀ {a b : List Str}, a.map (Sum.inr : Str → Key) = b.map Sum.inr → a = b
  | [], [], _ => rfl
  | [], _ :: _, h => nomatch h
  | _ :: _, [], h => nomatch h
  | x :: a, y :: b, h => by
    injection h with h1 h2
    injection h1 with h1
    rw [h1, inr_inj h2]
theorem row_some {r : List Str} : ∀ rs : List (List Str), r ∈ rs → valV (rs.map rowKv) (r.map Sum.inr) = some (.bl true)
  | [], h => nomatch h
  | m :: rs, h => by
    by_cases e : m = r
    · subst e
      exact valV_pos rfl
    · rw [List.map_cons, valV_neg (fun q => e (inr_inj q))]
      exact row_some rs ((List.mem_cons.mp h).resolve_left fun q => e q.symm)
theorem row_none {r : List Str} : ∀ rs : List (List Str), r ∉ rs → valV (rs.map rowKv) (r.map Sum.inr) = none
  | [], _ => rfl
  | m :: rs, h => by
    rw [List.map_cons, valV_neg (fun q => h (by rw [inr_inj q]; exact List.mem_cons_self))]
    exact row_none rs fun q => h (List.mem_cons_of_mem _ q)
theorem row_put {rs : List (List Str)} {r : List Str} : putK (rs.map rowKv) (r.map Sum.inr) (.bl true) = (addRow rs r).map rowKv := by
  unfold addRow
  by_cases h : r ∈ rs
  · rw [if_pos h]
    unfold putK
    rw [valV_any, row_some rs h]
    show List.map (fun kv => if kv.1 = r.map Sum.inr then (kv.1, V.bl true) else kv) (List.map rowKv rs) = _
    rw [List.map_map]
    refine List.map_congr_left fun m _ => ?_
    show (if (rowKv m).1 = _ then _ else _) = _
    split
    · rfl
    · rfl
  · rw [if_neg h, putK_new (row_none rs h), List.map_append]
    rfl
theorem addRow_len (rs : List (List Str)) (r : List Str) : (addRow rs r).length ≤ rs.length + 1 := by
  unfold addRow
  split
  · omega
  · rw [List.length_append]; exact Nat.le_refl _
theorem kV_strs (r : List Str) : (r.map (Sum.inr : Str → Key)).map kV = r.map V.str := by
  rw [List.map_map]
  rfl
/-- the rows of clauses, each once, in the order in which they come -/
def rowsOf (ns : List Str) (qss : List (List (Bool × Str))) : List (List Str) := (qss.map fun qs => asc ns (qs.map lit)).foldl addRow []
theorem rowsOf_snoc (ns : List Str) (qss : List (List (Bool × Str))) (qs : List (Bool × Str)) : rowsOf ns (qss ++ [qs]) = addRow (rowsOf ns qss) (asc ns (qs.map lit)) := by
  unfold rowsOf
  rw [List.map_append, List.foldl_append]
  rfl
theorem rowsOf_len (ns : List Str) : ∀ qss : List (List (Bool × Str)), (rowsOf ns qss).length ≤ qss.length := by
  have go : ∀ (xs acc : List (List Str)), (xs.foldl addRow acc).length ≤ acc.length + xs.length := by
    intro xs
    induction xs with
    | nil => intro acc; exact Nat.le_refl _
    | cons x r ih =>
      intro acc
      have z := ih (addRow acc x)
      have y := addRow_len acc x
      rw [List.foldl_cons, List.length_cons]
      omega
  intro qss
  have z := go (qss.map fun qs => asc ns (qs.map lit)) []
  rw [List.length_map] at z
  unfold rowsOf
  simpa using z
/-- all but x stays -/
def Grow (x : Addr) (H H' : Hp) : Prop := ∀ c o, c ≠ x → H c = some o → H' c = some o
theorem Grow.of {x : Addr} {H H' : Hp} (s : Same H H') : Grow x H H' := fun c o _ h => s c o h
theorem Grow.trans {x : Addr} {H H1 H2 : Hp} (a : Grow x H H1) (b : Grow x H1 H2) : Grow x H H2 := fun c o n h => b c o n (a c o n h)
theorem Grow.put {x : Addr} {H : Hp} {o : HO} : Grow x H (upd H x o) := fun _ _ n h => (upd_ne n).trans h
theorem tup_any {K : PySem.W.Frag} {H : Hp} {b : Bool} {a x : Addr} {xs : List V} {Q : VK} (hs : ∀ H', Grow x H H' → Sq K b H' a xs) {o : HO} (hx : H x = some o) (k : ∀ q H', Same H H' → (∀ H2, Grow x H' H2 → SqT K H2 q xs) → Q (.ref q) H') : kTup K (.ref a) H Q := by
  have h := hs H (Grow.of (Same.refl H))
  cases b with
  | false => exact .inr ⟨a, xs, rfl, h, k a H (Same.refl H) fun H2 g => hs H2 g⟩
  | true => exact .inl ⟨a, xs, rfl, h, fun q hq => k q _ (same_new hq) fun H2 g => SqT.of (g _ _ (ne_of_none hx hq).symm upd_same)⟩
/-- one clause handed over: a list or tuple of literals of distinct names -/
def Given (K : PySem.W.Frag) (s : Addr) (H : Hp) (ns : List Str) (x : V) (qs : List (Bool × Str)) : Prop := Lits ns qs ∧ ∃ (b : Bool) (A : Addr) (t : Value), x = .ref A ∧ (∀ H', Grow s H H' → TyX K H' (.ref A) t) ∧ PySem.W.kitAny K t [.type "list", .type "tuple"] = some true ∧ ∀ H', Grow s H H' → Sq K b H' A ((qs.map lit).map V.str)
theorem Given.ask {K : PySem.W.Frag} {s : Addr} {H : Hp} {ns : List Str} {x : V} {qs : List (Bool × Str)} (g : Given K s H ns x qs) : Ask K H ns true x := by
  obtain ⟨hq, b, A, t, rfl, ty, kit, sq⟩ := g
  exact .seq t (fun H' s' => ty H' (.of s')) kit (fun H' s' => sq H' (.of s')) fun _ _ => .ok hq
section
variable {P : Program} {w : World} {K : PySem.W.Frag} {mg : Str → Option Value} {base : Heap} {f fN fP fC fO C : Addr} {fd fdN fdP fdC fdO : FuncData}
end
end K6
namespace K6
open PySem PySem.Spec PyProof.Rows L2 LamX NdefX EV
/-! ### repr of data without dicts -/
mutual
theorem dp_free {K : PySem.W.Frag} {H : Hp} : ∀ {v : V} {d : PyData}, Dp K H v d → d.hasDict = false
  | _, _, .non => rfl
  | _, _, .bl _ => rfl
  | _, _, .int _ => rfl
  | _, _, .str _ => rfl
  | _, _, .lst _ h => by
    show PyData.hasDictAll _ = false
    exact dps_free h
  | _, _, .tup _ h => by
    show PyData.hasDictAll _ = false
    exact dps_free h
theorem dps_free {K : PySem.W.Frag} {H : Hp} : ∀ {vs : List V} {ds : List PyData}, DpAll K H vs ds → PyData.hasDictAll ds = false
  | _, _, .nil => rfl
  | _, _, .cons h t => by
    show (PyData.hasDict _ || PyData.hasDictAll _) = false
    rw [dp_free h, dps_free t]
    rfl
end
def rReprP (K : PySem.W.Frag) : List V → Hp → VK → Prop := fun xs H Q => ∃ (x : V) (d : PyData), xs = [x] ∧ Dp K H x d ∧ d.showable = true ∧ d.shown.length ≤ sizeLine ∧ d.depth ≤ 60 ∧ Q (.str d.shown) H
theorem call_reprP {X : Cx} (hg : X.A.guards = some []) (hu : X.A.units + 64 < cLine) : CallR X (.builtin "repr") (rReprP X.K) := by
  intro pins s σ H xs us Q I r h
  obtain ⟨x, d, rfl, hd, hs, hz, hdp, q⟩ := h
  obtain ⟨u, rfl, ru⟩ := r.one
  have hf := dp_free hd
  cases hd with
  | non =>
    cases ru
    exact PySem.P.repr_of_none ⟨.str _, H, I.tok _, ⟨_, rfl⟩, q⟩
  | bl b =>
    cases ru
    refine PySem.P.repr_of_bool ⟨.str _, H, I.tok _, ⟨_, rfl⟩, ?_⟩
    cases b <;> exact q
  | int i =>
    obtain ⟨t, rfl⟩ := ru
    exact PySem.P.repr_of_int (by simpa [PyData.showable] using hs) ⟨.str _, H, I.tok _, ⟨_, rfl⟩, q⟩
  | str y =>
    obtain ⟨t, rfl⟩ := ru
    exact PySem.P.repr_of_str ⟨.str _, H, I.tok _, ⟨_, rfl⟩, q⟩ hz
  | lst h2 h3 =>
    obtain ⟨as, hr⟩ := Dp.reads I _ _ _ (.lst h2 h3) ru
    cases ru
    exact repr_of_reads' hr hs (fun z => by rw [hf] at z; cases z) hg (by omega) (fun _ _ e => e) (fun h' u tk k => ⟨.str _, H, I.kept k, ⟨u, rfl⟩, q⟩) hz
  | tup h2 h3 =>
    obtain ⟨as, hr⟩ := Dp.reads I _ _ _ (.tup h2 h3) ru
    cases ru
    exact repr_of_reads' hr hs (fun z => by rw [hf] at z; cases z) hg (by omega) (fun _ _ e => e) (fun h' u tk k => ⟨.str _, H, I.kept k, ⟨u, rfl⟩, q⟩) hz
/-! ### what is shown is small -/
/-- texts of few signs, shown within few places -/
structure Small (d : PyData) (n : Nat) : Prop where
  ls : d.leavesShort 40 = true
  bk : d.bulk ≤ n
  sh : d.showable = true
  dp : d.depth ≤ 10
theorem Small.fits {d : PyData} {n : Nat} (h : Small d n) (hn : n ≤ 20000) : d.shown.length ≤ sizeLine := by
  have z := PyData.shown_le_bulk 40 (by decide) d h.ls
  have b := h.bk
  rw [sizeLine_eq]
  omega
structure SmallAll (ds : List PyData) (n m : Nat) : Prop where
  ls : PyData.leavesShortAll 40 ds = true
  bk : PyData.bulkAll ds ≤ n
  sh : PyData.showableAll ds = true
  dp : PyData.depthAll ds ≤ m
theorem SmallAll.nil {m : Nat} : SmallAll [] 0 m := ⟨rfl, Nat.le_refl 0, rfl, Nat.zero_le _⟩
theorem SmallAll.cons {d : PyData} {ds : List PyData} {a b m : Nat} (h : d.leavesShort 40 = true) (h2 : d.bulk ≤ a) (h3 : d.showable = true) (h4 : d.depth ≤ m) (t : SmallAll ds b m) : SmallAll (d :: ds) (a + 1 + b) m := by
  refine ⟨?_, ?_, ?_, ?_⟩
  · simp only [PyData.leavesShortAll, h, t.ls, Bool.and_self]
  · have := t.bk
    simp only [PyData.bulkAll]
    omega
  · simp only [PyData.showableAll, h3, t.sh, Bool.and_self]
  · have := t.dp
    simp only [PyData.depthAll]
    omega
theorem name_short {z : Str} (h : Fit z) : (z.cps.toList.all fun c => decide (c < 16 ^ 8)) = true := List.all_eq_true.mpr fun c hc => decide_eq_true (Nat.lt_trans (h c hc) (by decide))
/-- lists of short texts -/
theorem small_strs {n : Nat} : ∀ xs : List Str, (∀ z ∈ xs, Fit z ∧ z.length ≤ n) → SmallAll (xs.map PyData.str) ((n + 1) * xs.length) 2
  | [], _ => SmallAll.nil
  | x :: xs, h => by
    have z := SmallAll.cons (d := .str x) (a := n) (name_short (h x List.mem_cons_self).1) (h x List.mem_cons_self).2 rfl (Nat.zero_le _) (small_strs xs fun z hz => h z (List.mem_cons_of_mem _ hz))
    refine ⟨z.ls, ?_, z.sh, z.dp⟩
    have b := z.bk
    rw [List.length_cons, Nat.mul_succ]
    show PyData.bulkAll (.str x :: xs.map PyData.str) ≤ _
    omega
theorem small_list {ds : List PyData} {n m : Nat} (h : SmallAll ds n m) : (PyData.list ds).leavesShort 40 = true ∧ (PyData.list ds).bulk ≤ n ∧ (PyData.list ds).showable = true ∧ (PyData.list ds).depth ≤ m + 1 := by
  refine ⟨h.ls, h.bk, h.sh, ?_⟩
  have := h.dp
  simp only [PyData.depth]
  omega
theorem small_tup {ds : List PyData} {n m : Nat} (h : SmallAll ds n m) : (PyData.tuple ds).leavesShort 40 = true ∧ (PyData.tuple ds).bulk ≤ n ∧ (PyData.tuple ds).showable = true ∧ (PyData.tuple ds).depth ≤ m + 1 := by
  refine ⟨h.ls, h.bk, h.sh, ?_⟩
  have := h.dp
  simp only [PyData.depth]
  omega
theorem small_rows {n m : Nat} : ∀ rs : List (List Str), (∀ r ∈ rs, r.length ≤ m ∧ ∀ z ∈ r, Fit z ∧ z.length ≤ n) → SmallAll (rs.map fun r => PyData.tuple (r.map PyData.str)) (((n + 1) * m + 1) * rs.length) 3
  | [], _ => SmallAll.nil
  | r :: rs, h => by
    obtain ⟨h1, h2⟩ := h r List.mem_cons_self
    obtain ⟨a1, a2, a3, a4⟩ := small_tup (small_strs r h2)
    have z := SmallAll.cons a1 a2 a3 a4 (small_rows rs fun z hz => h z (List.mem_cons_of_mem _ hz))
    refine ⟨z.ls, ?_, z.sh, z.dp⟩
    have b := z.bk
    have c : (n + 1) * r.length ≤ (n + 1) * m := Nat.mul_le_mul_left _ h1
    rw [List.length_cons, Nat.mul_succ]
    show PyData.bulkAll (.tuple (r.map PyData.str) :: rs.map fun r => PyData.tuple (r.map PyData.str)) ≤ _
    omega
theorem dp_app {K : PySem.W.Frag} {H : Hp} : ∀ {vs ws : List V} {ds es : List PyData}, DpAll K H vs ds → DpAll K H ws es → DpAll K H (vs ++ ws) (ds ++ es)
  | _, _, _, _, .nil, h => h
  | _, _, _, _, .cons h t, h2 => .cons h (dp_app t h2)
theorem small_app {n k m : Nat} : ∀ {ds es : List PyData}, SmallAll ds n m → SmallAll es k m → SmallAll (ds ++ es) (n + k) m := fun {ds es} h1 h2 => by
  have go : ∀ ds : List PyData, (PyData.leavesShortAll 40 (ds ++ es) = (PyData.leavesShortAll 40 ds && PyData.leavesShortAll 40 es)) ∧ PyData.bulkAll (ds ++ es) = PyData.bulkAll ds + PyData.bulkAll es ∧ PyData.showableAll (ds ++ es) = (PyData.showableAll ds && PyData.showableAll es) ∧ PyData.depthAll (ds ++ es) ≤ max (PyData.depthAll ds) (PyData.depthAll es) := by
    intro ds
    induction ds with
    | nil => exact ⟨rfl, by simp [PyData.bulkAll], rfl, by simp [PyData.depthAll]⟩
    | cons d ds ih =>
      obtain ⟨i1, i2, i3, i4⟩ := ih
      refine ⟨?_, ?_, ?_, ?_⟩
      · simp only [List.cons_append, PyData.leavesShortAll, i1, Bool.and_assoc]
      · simp only [List.cons_append, PyData.bulkAll, i2]
        omega
      · simp only [List.cons_append, PyData.showableAll, i3, Bool.and_assoc]
      · simp only [List.cons_append, PyData.depthAll]
        omega
  obtain ⟨g1, g2, g3, g4⟩ := go ds
  have a1 := h1.bk
  have a2 := h2.bk
  have a3 := h1.dp
  have a4 := h2.dp
  exact ⟨by rw [g1, h1.ls, h2.ls]; rfl, by omega, by rw [g3, h1.sh, h2.sh]; rfl, by omega⟩
/-! ### _law_same over such data -/
def spSameP (K : PySem.W.Frag) : Sp := fun vs H Q _ => ∃ (x y : V) (d : PyData) (n : Nat), vs = [x, y] ∧ Dp K H x d ∧ Dp K H y d ∧ Small d n ∧ n ≤ 20000 ∧ Q (.bl true) H
section
variable {P : Program} {w : World} {K : PySem.W.Frag} {mg : Str → Option Value} {base : Heap} {f : Addr} {fd : FuncData}
theorem ok_sameP (F : Fun K "_law_same" "_law_same" sSame f fd) (mr : mg "repr" = none) : FnG P w K mg base 1 f fd ["_law_found", "_law_due"] (spSameP K) := by
  refine fng_of F scSame (fun vs H Q E h => ?_) (fun cdv A outer s H vs Q E hg hr h => ?_)
  · obtain ⟨x, y, d, n, rfl, _⟩ := h
    rfl
  · obtain ⟨x, y, d, n, rfl, hx, hy, sm, hn, k⟩ := h
    refine ⟨_, pss_one (ps_ret (pe_cmpR op_eq (pe_callB (call_reprP hg hr.units) (by rfl) mr (by decide +kernel) (pa_cons (pv 0) pa_nil)) (pe_callB (call_reprP hg hr.units) (by rfl) mr (by decide +kernel) (pa_cons (pv 1) pa_nil)) (nomark _))), ?_⟩
    have h3 : d.depth ≤ 60 := Nat.le_trans sm.dp (by decide)
    refine ⟨_, rfl, _, d, rfl, hx, sm.sh, sm.fits hn, h3, _, rfl, _, d, rfl, hy, sm.sh, sm.fits hn, h3, rfl, ?_⟩
    show Q (.bl (decide (V.str d.shown = V.str d.shown))) H
    rw [decide_eq_true rfl]
    exact k
end
end K6
namespace K6
open PySem PySem.Spec PyProof.Rows L2 LamX NdefX EV
/-- a tuple stands while a dict elsewhere is locked -/
theorem sqT_off {K : PySem.W.Frag} {H H' : Hp} {a d : Addr} {xs : List V} {ws : List (List Key × V)} (h : SqT K H a xs) (hd : H d = some (.dT ws)) (g : Grow d H H') : SqT K H' a xs := by
  rcases h with h | h
  · refine .inl ?_
    rcases h with h | ⟨o, h⟩
    · exact .inl (g _ _ (fun e => by rw [e, hd] at h; cases h) h)
    · exact .inr ⟨o, g _ _ (fun e => by rw [e, hd] at h; cases h) h⟩
  · exact .inr h
section
variable {P : Program} {w : World} {K : PySem.W.Frag} {mg : Str → Option Value} {base : Heap} {f C : Addr} {fd : FuncData}
end
end K6
namespace K6
open PySem PySem.Spec PyProof.Rows L2 LamX NdefX EV
structure CIs (K : PySem.W.Frag) (C : Addr) : Prop where
  cl : PySem.W.findIn K (.ref C) "__class__" = some (some (.builtin "object.__class__"))
  gt : PySem.W.specialIn K (.builtin "object.__class__") "__get__" = some (some (.builtin "getset_descriptor.__get__"))
  tk : PySem.W.takesIn K (.builtin "object.__class__") = some true
  ob : PySem.W.mroIn K C (.type "object") = some true
theorem mem_same {xs ys : List Str} (h : sameMem xs ys = true) : ∀ x ∈ xs, x ∈ ys := (sameMem_iff.mp h).2
theorem nodup_back : ∀ {xs ys : List Str}, xs.Nodup → xs.length = ys.length → (∀ x ∈ xs, x ∈ ys) → ∀ y ∈ ys, y ∈ xs := fun {xs ys} nd len sub y hy => by
  by_cases h : y ∈ xs
  · exact h
  · have z := nodup_le (y :: xs) ys (List.nodup_cons.mpr ⟨h, nd⟩) fun a ha => (List.mem_cons.mp ha).elim (fun e => e ▸ hy) (sub a)
    rw [List.length_cons] at z
    omega
section
variable {P : Program} {w : World} {K : PySem.W.Frag} {mg : Str → Option Value} {base : Heap} {f fS fI C : Addr} {fd fdS fdI : FuncData}
end
end K6
namespace K6
open PySem PySem.Spec PyProof.Rows L2 LamX NdefX EV
def more : Str := Str.ofString "more"
theorem more_fit : Fit more ∧ more.length ≤ 9 := ⟨by unfold Fit; decide +kernel, by decide +kernel⟩
theorem row_texts {ns r : List Str} (good : ∀ z ∈ ns, Name1 z) (h : RowOf ns r) : r.length ≤ 2 * ns.length ∧ ∀ z ∈ r, Fit z ∧ z.length ≤ 9 := by
  obtain ⟨qs, hq, rfl⟩ := h
  refine ⟨asc_len ns _, fun z hz => ?_⟩
  obtain ⟨n, hn, e⟩ := lits_mem.mp (List.mem_filter.mp hz).1
  have g := good n hn
  have l8 : n.length ≤ 8 := g.2.1
  rcases e with rfl | rfl
  · exact ⟨g.fit, by omega⟩
  · exact ⟨g.fit.neg, by rw [neg_len]; omega⟩
def ap (b : Bool) (xs : List V) : List V := if b = true then xs ++ [.str more] else xs
/-- what such a list shows -/
theorem small_more {xs : List Str} (h : ∀ z ∈ xs, Name1 z) (n4 : xs.length ≤ 10) : SmallAll ((xs ++ [more]).map PyData.str) 110 2 := by
  have z := small_strs (n := 9) (xs ++ [more]) fun z hz => by
    rcases List.mem_append.mp hz with q | q
    · have g := h z q
      have l8 : z.length ≤ 8 := g.2.1
      exact ⟨g.fit, by omega⟩
    · rw [List.mem_singleton.mp q]
      exact more_fit
  refine ⟨z.ls, Nat.le_trans z.bk ?_, z.sh, z.dp⟩
  rw [List.length_append, List.length_singleton]
  omega
theorem shown_int {n : Nat} (h : n ≤ 7) : (PyData.int (n : Int)).leavesShort 40 = true ∧ (PyData.int (n : Int)).showable = true := by
  match n, h with
  | 0, _ => decide +kernel
  | 1, _ => decide +kernel
  | 2, _ => decide +kernel
  | 3, _ => decide +kernel
  | 4, _ => decide +kernel
  | 5, _ => decide +kernel
  | 6, _ => decide +kernel
  | 7, _ => decide +kernel
section
variable {P : Program} {w : World} {K : PySem.W.Frag} {mg : Str → Option Value} {base : Heap} {f fS f1 f2 f3 f4 C : Addr} {fd fdS fd1 fd2 fd3 fd4 : FuncData}
end
end K6
namespace K6
open PySem PySem.Spec PyProof.Rows L2 LamX NdefX EV
/-! ### making a code -/
theorem TyOf.same {K : PySem.W.Frag} {H H' : Hp} {v : V} {t : Value} (h : TyOf K H v t) (sm : Same H H') : TyOf K H' v t := by
  cases h with
  | non => exact .non
  | bl b => exact .bl b
  | int i => exact .int i
  | str z => exact .str z
  | flt z => exact .flt z
  | lst e => exact .lst (sm _ _ e)
  | frz e => exact .frz (sm _ _ e)
  | tup e => exact .tup (sm _ _ e)
  | dK e => exact .dK (sm _ _ e)
  | dT e => exact .dT (sm _ _ e)
  | ins e a b c d f => exact .ins (sm _ _ e) a b c d f
theorem TyX.same {K : PySem.W.Frag} {H H' : Hp} {v : V} {t : Value} (h : TyX K H v t) (sm : Same H H') : TyX K H' v t := by
  cases h with
  | base h => exact .base (TyOf.same h sm)
  | byt b => exact .byt b
  | set e => exact .set (sm _ _ e)
  | kList a b => exact .kList a b
  | kTuple a b => exact .kTuple a b
  | kDict a b => exact .kDict a b
  | fTuple e => exact .fTuple (sm _ _ e)
  | fDict e => exact .fDict (sm _ _ e)
theorem Sq.same {K : PySem.W.Frag} {H H' : Hp} {b : Bool} {a : Addr} {xs : List V} (h : Sq K b H a xs) (sm : Same H H') : Sq K b H' a xs := by
  cases b
  · exact sqT_same sm h
  · exact Same.seq sm h
/-- a clause that is handed over -/
def Handed (K : PySem.W.Frag) (H : Hp) (ns : List Str) (x : V) (qs : List (Bool × Str)) : Prop := Lits ns qs ∧ ∃ (b : Bool) (A : Addr), x = .ref A ∧ Sq K b H A ((qs.map lit).map V.str)
theorem Sq.ty {K : PySem.W.Frag} {H : Hp} {b : Bool} {a : Addr} {xs : List V} (h : Sq K b H a xs) : TyX K H (.ref a) (.type (if b = true then "list" else "tuple")) := by
  cases b
  · rcases h with (h | ⟨o, h⟩) | ⟨o, its, n, h1, h2, _⟩
    · exact .base (.tup h)
    · exact .fTuple h
    · exact .kTuple h1 h2
  · rcases h with (h | ⟨o, h⟩) | ⟨o, its, n, h1, h2, _⟩
    · exact .base (.lst h)
    · exact .base (.frz h)
    · exact .kList h1 h2
theorem kit_seq {K : PySem.W.Frag} (b : Bool) : PySem.W.kitAny K (.type (if b = true then "list" else "tuple")) [.type "list", .type "tuple"] = some true := by
  cases b
  · exact kitAny_cons (b := false) (kit_ty (by decide +kernel)) (fun _ => kitAny_cons (b := true) (kit_ty (by decide +kernel)) (fun z => nomatch z) fun _ => rfl) (fun z => nomatch z)
  · exact kitAny_cons (b := true) (kit_ty (by decide +kernel)) (fun z => nomatch z) fun _ => rfl
theorem Handed.given {K : PySem.W.Frag} {H H1 : Hp} {s : Addr} {ns : List Str} {x : V} {qs : List (Bool × Str)} (h : Handed K H ns x qs) (g : ∀ H', Grow s H1 H' → Same H H') : Given K s H1 ns x qs := by
  obtain ⟨hq, b, A, rfl, sq⟩ := h
  exact ⟨hq, b, A, _, rfl, fun H' gg => Sq.ty (Sq.same sq (g H' gg)), kit_seq b, fun H' gg => Sq.same sq (g H' gg)⟩
theorem Handed.same {K : PySem.W.Frag} {H H' : Hp} {ns : List Str} {x : V} {qs : List (Bool × Str)} (h : Handed K H ns x qs) (sm : Same H H') : Handed K H' ns x qs := by
  obtain ⟨hq, b, A, rfl, sq⟩ := h
  exact ⟨hq, b, A, rfl, Sq.same sq sm⟩
/-! ### what a code is like -/
theorem addRow_mem {rs : List (List Str)} {r x : List Str} (h : x ∈ addRow rs r) : x ∈ rs ∨ x = r := by
  unfold addRow at h
  split at h
  · exact .inl h
  · rcases List.mem_append.mp h with q | q
    · exact .inl q
    · exact .inr (List.mem_singleton.mp q)
theorem fold_mem : ∀ (xs acc : List (List Str)) (x : List Str), x ∈ xs.foldl addRow acc → x ∈ acc ∨ x ∈ xs
  | [], _, _, h => .inl h
  | y :: xs, acc, x, h => by
    rcases fold_mem xs (addRow acc y) x h with q | q
    · rcases addRow_mem q with q | q
      · exact .inl q
      · exact .inr (by rw [q]; exact List.mem_cons_self)
    · exact .inr (List.mem_cons_of_mem _ q)
theorem rowsOf_row {ns : List Str} {qss : List (List (Bool × Str))} (h : ∀ qs ∈ qss, Lits ns qs) : ∀ r ∈ rowsOf ns qss, RowOf ns r := fun r hr => by
  rcases fold_mem _ _ r hr with q | q
  · cases q
  · obtain ⟨qs, hqs, rfl⟩ := List.mem_map.mp q
    exact ⟨qs, h qs hqs, rfl⟩
theorem fold_id : ∀ (xs acc : List (List Str)), (acc ++ xs).Nodup → xs.foldl addRow acc = acc ++ xs
  | [], acc, _ => (List.append_nil acc).symm
  | x :: xs, acc, nd => by
    have e : acc ++ x :: xs = (acc ++ [x]) ++ xs := by rw [List.append_assoc]; rfl
    have nx : x ∉ acc := fun q => (List.nodup_append.mp nd).2.2 x q x List.mem_cons_self rfl
    rw [List.foldl_cons]
    unfold addRow
    rw [if_neg nx, e]
    exact fold_id xs (acc ++ [x]) (e ▸ nd)
theorem fold_in : ∀ (xs acc : List (List Str)), (∀ x ∈ xs, x ∈ acc) → xs.foldl addRow acc = acc
  | [], _, _ => rfl
  | x :: xs, acc, h => by
    have e : addRow acc x = acc := if_pos (h x List.mem_cons_self)
    rw [List.foldl_cons, e]
    exact fold_in xs acc fun y hy => h y (List.mem_cons_of_mem _ hy)
end K6
namespace K6
open PySem PySem.Spec PyProof.Rows L2 LamX NdefX EV
/-! ### codes unlike a code -/
theorem sameMem_len {xs ys : List Str} (h : xs.length ≠ ys.length) : sameMem xs ys = false := by
  cases e : sameMem xs ys with
  | false => rfl
  | true => exact absurd (sameMem_iff.mp e).1 h
/-- two places that hold lists -/
def Two (H : Hp) (S L : Addr) : Prop := (∃ xs, H S = some (.lst xs)) ∧ ∃ xs, H L = some (.lst xs)
theorem StreamAt.two {H : Hp} {S L : Addr} {c : Nat} (h : StreamAt H S L c) : Two H S L := by
  obtain ⟨ns, x, m, h1, h2, _⟩ := h
  exact ⟨⟨_, h1⟩, ⟨_, h2⟩⟩
theorem sqT_kept {K : PySem.W.Frag} {H H' : Hp} {S L a : Addr} {xs : List V} (h : SqT K H a xs) (hS : Two H S L) (k : Kept S L H H') : SqT K H' a xs := by
  obtain ⟨⟨_, h1⟩, ⟨_, h2⟩⟩ := hS
  rcases h with h | h
  · refine .inl ?_
    rcases h with h | ⟨o, h⟩
    · exact .inl (k _ _ h (ne_of h h1 fun z => nomatch z) (ne_of h h2 fun z => nomatch z))
    · exact .inr ⟨o, k _ _ h (ne_of h h1 fun z => nomatch z) (ne_of h h2 fun z => nomatch z)⟩
  · exact .inr h
theorem RowsAt.kept {H H' : Hp} {S L : Addr} {ts : List Addr} {rs : List (List Str)} (h : RowsAt H ts rs) (hS : Two H S L) (k : Kept S L H H') : RowsAt H' ts rs := by
  obtain ⟨⟨_, g1⟩, ⟨_, g2⟩⟩ := hS
  exact Paired.mapP h fun t r z => k _ _ z (ne_of z g1 fun q => nomatch q) (ne_of z g2 fun q => nomatch q)
/-- rows as clauses that are handed over, for these names or more -/
theorem handed_rows {K : PySem.W.Frag} {H : Hp} {n0 ns : List Str} (nd : n0.Nodup) (good : ∀ z ∈ n0, Name1 z) (sub : ∀ z ∈ n0, z ∈ ns) : ∀ {ts : List Addr} {rs : List (List Str)}, RowsAt H ts rs → (∀ r ∈ rs, RowOf n0 r) →
    ∃ qss, Paired (Handed K H ns) (ts.map V.ref) qss ∧ rs = qss.map (fun qs => qs.map lit) ∧ ∀ qs ∈ qss, Lits n0 qs
  | [], [], _, _ => ⟨[], .nil, rfl, fun _ h => nomatch h⟩
  | t :: ts, r :: rs, .cons h tl, rows => by
    obtain ⟨qs, hq, rfl⟩ := (rows r List.mem_cons_self).lits nd good
    obtain ⟨qss, h1, h2, h3⟩ := handed_rows nd good sub tl fun x hx => rows x (List.mem_cons_of_mem _ hx)
    refine ⟨qs :: qss, .cons ⟨hq.names sub, false, t, rfl, Sq.tup h⟩ h1, by rw [List.map_cons, h2], fun x hx => ?_⟩
    rcases List.mem_cons.mp hx with rfl | hx
    · exact hq
    · exact h3 x hx
theorem row_id {ns r : List Str} (h : RowOf ns r) : asc ns r = r := by
  obtain ⟨qs, _, rfl⟩ := h
  exact asc_asc
theorem rows_id {ns : List Str} {rs : List (List Str)} {qss : List (List (Bool × Str))} (e : rs = qss.map (fun qs => qs.map lit)) (rows : ∀ r ∈ rs, RowOf ns r) (nd : rs.Nodup) : rowsOf ns qss = rs := by
  unfold rowsOf
  have z : (qss.map fun qs => asc ns (qs.map lit)) = rs := by
    rw [e]
    refine List.map_congr_left fun qs hq => ?_
    exact row_id (rows _ (by rw [e]; exact List.mem_map_of_mem hq))
  rw [z]
  exact fold_id rs [] (by simpa using nd)
section
variable {K : PySem.W.Frag} {C : Addr} {H0 H H' : Hp} {S L d ps ph pc N F : Addr} {sg hp : List Str} {ts : List Addr} {rs : List (List Str)} {vs : List V} {c : Nat}
end
theorem eqv_nilR : ∀ rs : List (List Str), PyData.eqv (.list (rs.map fun r => PyData.tuple (r.map PyData.str))) (.list []) = decide (rs = [])
  | [] => rfl
  | r :: rs => by simp [PyData.eqv, PyData.eqvAll]
theorem paired_right {α β : Type} {R : α → β → Prop} : ∀ {xs : List α} {ys : List β}, Paired R xs ys → ∀ y ∈ ys, ∃ x, R x y
  | [], [], .nil, y, h => nomatch h
  | x :: xs, z :: ys, .cons r t, y, h => by
    rcases List.mem_cons.mp h with e | h
    · exact ⟨x, by rw [e]; exact r⟩
    · exact paired_right t y h
theorem drop_row {K : PySem.W.Frag} {H : Hp} {ns : List Str} {xs : List V} {qss : List (List (Bool × Str))} (h : Paired (Handed K H ns) xs qss) : Paired (Handed K H ns) (xs.drop 1) (qss.drop 1) := by
  cases h with
  | nil => exact .nil
  | cons _ t => exact t
theorem paired_snoc {α β : Type} {R : α → β → Prop} {xs : List α} {ys : List β} {x : α} {y : β} (h : Paired R xs ys) (r : R x y) : Paired R (xs ++ [x]) (ys ++ [y]) := Paired.snoc h r
/-- a conditional expression whose two ways come to the same -/
theorem two_ways {c : Bool} {ta tb : TE} {σ : L2.St} {H : Hp} {Q : VK} (I : V → Hp → Prop) (hA : c = true → ∀ Q' : VK, (∀ v H', I v H' → Q' v H') → ta σ H Q') (hB : c = false → ∀ Q' : VK, (∀ v H', I v H' → Q' v H') → tb σ H Q') (rest : ∀ v H', I v H' → Q v H') : if c = true then ta σ H Q else tb σ H Q := by
  cases c with
  | true => exact iteT (hA rfl Q rest)
  | false => exact iteF (hB rfl Q rest)
end K6
namespace K6
open PySem PySem.Spec PyProof.Rows L2 LamX NdefX EV
/-! ### contracts by name -/
def Has (P : Program) (w : World) (K : PySem.W.Frag) (mg : Str → Option Value) (base : Heap) (k : Nat) (x : Str) (ps : List Str) (sp : Sp) : Prop := ∃ f fd, FnOk P w K mg base CX0 k f fd ps sp ∧ mg x = some (.ref f) ∧ PySem.W.keepIn K (.ref f) = true ∧ L2.Binds K fd ps []
def HasG (P : Program) (w : World) (K : PySem.W.Frag) (mg : Str → Option Value) (base : Heap) (k : Nat) (x : Str) (ps : List Str) (sp : Sp) : Prop := ∃ f fd, FnG P w K mg base k f fd ps sp ∧ mg x = some (.ref f) ∧ PySem.W.keepIn K (.ref f) = true ∧ L2.Binds K fd ps []
section
variable {X : Cx} {k : Nat} {x : Str} {ps : List Str} {sp : Sp} {p pos : Pos} {e : Expr} {es : List Expr} {t : TA}
theorem pe_callH (h : Has X.prog X.w X.K X.mg X.base k x ps sp) (hr : Room k X.A) (hg : Gl X x) (ha : PA X (e :: es) t) (hdb : (x == ("__debug__" : Str)) = false := by decide) (he : starEach (e :: es) X.env = (false, eval e X.env) :: starEach es X.env := by rfl) (hpl : (backTo pos (starEach es X.env)).any (·.1) = false := by rfl) :
    PE X (.Call (.Name x p) (e :: es) [] pos) (tCall sp [] E0 t) := by
  obtain ⟨f, fd, F, m, kp, b⟩ := h
  exact pe_call F hr hg m kp b .nil pass0 ha hdb he hpl
theorem pe_callHG (h : HasG X.prog X.w X.K X.mg X.base k x ps sp) (gd : X.A.guards = some []) (hr : Room k X.A) (hg : Gl X x) (ha : PA X (e :: es) t) (hdb : (x == ("__debug__" : Str)) = false := by decide) (he : starEach (e :: es) X.env = (false, eval e X.env) :: starEach es X.env := by rfl) (hpl : (backTo pos (starEach es X.env)).any (·.1) = false := by rfl) :
    PE X (.Call (.Name x p) (e :: es) [] pos) (tCall sp [] E0 t) := by
  obtain ⟨f, fd, F, m, kp, b⟩ := h
  exact pe_callG F gd hr hg m kp b ha hdb he hpl
end
theorem OddL.ty {K : PySem.W.Frag} {H : Hp} {v : V} (o : OddL K H v) : ∃ T ∈ oddTypes, TyX K H v (.type T) := by
  cases o with
  | non => exact ⟨"NoneType", by decide, .base .non⟩
  | int i => exact ⟨"int", by decide, .base (.int i)⟩
  | str z => exact ⟨"str", by decide, .base (.str z)⟩
  | lst h => exact ⟨"list", by decide, Sq.ty (b := true) h⟩
  | tup h => exact ⟨"tuple", by decide, Sq.ty (b := false) h⟩
  | dct h => exact ⟨"dict", by decide, .base (.dK h)⟩
theorem OddL.same {K : PySem.W.Frag} {H H' : Hp} {v : V} (o : OddL K H v) (sm : Same H H') : OddL K H' v := by
  cases o with
  | non => exact .non
  | int i => exact .int i
  | str z => exact .str z
  | lst h => exact .lst (Same.seq sm h)
  | tup h => exact .tup (sqT_same sm h)
  | dct h => exact .dct (sm _ _ h)
def forBody : Stmt → List Stmt
  | .For _ _ b _ _ => b
  | _ => []
end K6
namespace K6
open PySem PySem.Spec PyProof.Rows L2 LamX NdefX EV
/-! ### what stands in a turn, behind the making of the code -/
theorem StreamAt.same {H H' : Hp} {S L : Addr} {c : Nat} (h : StreamAt H S L c) (sm : Same H H') : StreamAt H' S L c := by
  obtain ⟨ns, x, m, h1, h2, r⟩ := h
  exact ⟨ns, x, m, sm _ _ h1, sm _ _ h2, r⟩
section
variable {K : PySem.W.Frag} {C : Addr} {H H' : Hp} {S L d ps ph pc N x r : Addr} {sg hp : List Str} {ts : List Addr} {rs : List (List Str)} {c : Nat}
end
section
variable {P : Program} {w : World} {K : PySem.W.Frag} {mg : Str → Option Value} {base : Heap} {C : Addr}
variable {f : Addr} {cdv : Value} {A : Around} {outer : List Env} {s0 : Shared} {HH : Hp} {E : XK}
end
end K6
namespace K6
open PySem PySem.Spec PyProof.Rows L2 LamX NdefX EV
/-! ### the same code in another order -/
theorem perm_unmap {α β : Type} {f : α → β} : ∀ {ms l : List β}, ms.Perm l → ∀ qs : List α, l = qs.map f → ∃ qs' : List α, qs'.Perm qs ∧ ms = qs'.map f := by
  intro ms l h
  induction h with
  | nil => intro qs e; exact ⟨qs, .refl _, e⟩
  | @cons x l1 l2 _ ih =>
    intro qs e
    cases qs with
    | nil => cases e
    | cons q r =>
      injection e with e1 e2
      obtain ⟨qs', p, e'⟩ := ih r e2
      exact ⟨q :: qs', p.cons q, by rw [List.map_cons, ← e1, ← e']⟩
  | @swap x y l1 =>
    intro qs e
    match qs, e with
    | a :: b :: r, e =>
      injection e with e1 e2
      injection e2 with e2 e3
      exact ⟨b :: a :: r, .swap a b r, by rw [List.map_cons, List.map_cons, ← e1, ← e2, ← e3]⟩
  | trans _ _ ih1 ih2 =>
    intro qs e
    obtain ⟨q2, p2, e2⟩ := ih2 qs e
    obtain ⟨q1, p1, e1⟩ := ih1 q2 e2
    exact ⟨q1, p1.trans p2, e1⟩
theorem Lits.perm {ns : List Str} {qs qs' : List (Bool × Str)} (h : Lits ns qs) (p : qs'.Perm qs) : Lits ns qs' := ⟨(p.map Prod.snd).nodup_iff.mpr h.nd, fun q hq => h.sub q (p.mem_iff.mp hq)⟩
theorem asc_perm {ns : List Str} {qs qs' : List (Bool × Str)} (p : qs'.Perm qs) : asc ns (qs'.map lit) = asc ns (qs.map lit) := asc_congr fun l => (p.map lit).mem_iff
theorem asc_mem {ns l : List Str} {x : Str} : x ∈ asc ns l ↔ x ∈ lits ns ∧ x ∈ l := by
  unfold asc
  rw [List.mem_filter]
  exact ⟨fun h => ⟨h.1, of_decide_eq_true h.2⟩, fun h => ⟨h.1, decide_eq_true h.2⟩⟩
/-- brought into another order of the same names, and back -/
theorem asc_back {ns ns2 r : List Str} (p : ∀ x, x ∈ ns2 ↔ x ∈ ns) (h : RowOf ns r) : asc ns (asc ns2 r) = r := by
  have e : asc ns (asc ns2 r) = asc ns r := asc_congr fun l => by
    rw [asc_mem]
    refine ⟨fun h => h.2, fun hl => ⟨?_, hl⟩⟩
    obtain ⟨qs, _, rfl⟩ := h
    obtain ⟨n, hn, q⟩ := lits_mem.mp (asc_mem.mp hl).1
    exact lits_mem.mpr ⟨n, (p n).mpr hn, q⟩
  rw [e]
  exact row_id h
theorem nodup_map_inj {α β : Type} {f : α → β} : ∀ {l : List α}, l.Nodup → (∀ a ∈ l, ∀ b ∈ l, f a = f b → a = b) → (l.map f).Nodup
  | [], _, _ => List.nodup_nil
  | a :: l, nd, inj => by
    obtain ⟨h1, h2⟩ := List.nodup_cons.mp nd
    rw [List.map_cons]
    refine List.nodup_cons.mpr ⟨fun q => ?_, nodup_map_inj h2 fun x hx y hy => inj x (List.mem_cons_of_mem _ hx) y (List.mem_cons_of_mem _ hy)⟩
    obtain ⟨b, hb, e⟩ := List.mem_map.mp q
    have z := inj b (List.mem_cons_of_mem _ hb) a List.mem_cons_self e
    exact h1 (z ▸ hb)
/-- rows in another order -/
theorem rows_perm {H : Hp} {ts : List Addr} {rs : List (List Str)} (h : RowsAt H ts rs) {ys : List V} (p : ys.Perm (ts.map V.ref)) : ∃ ts2 rs2, ys = ts2.map V.ref ∧ RowsAt H ts2 rs2 ∧ rs2.Perm rs := by
  obtain ⟨ts2, p2, e⟩ := perm_unmap p ts rfl
  refine ⟨ts2, ?_⟩
  clear p
  have go : ∀ {ts2 ts : List Addr}, ts2.Perm ts → ∀ {rs : List (List Str)}, RowsAt H ts rs → ∃ rs2, RowsAt H ts2 rs2 ∧ rs2.Perm rs := by
    intro ts2 ts p
    induction p with
    | nil => intro rs h; exact ⟨rs, h, .refl _⟩
    | cons x _ ih =>
      intro rs h
      cases h with
      | cons r t =>
        obtain ⟨rs2, h2, p2⟩ := ih t
        exact ⟨_ :: rs2, .cons r h2, p2.cons _⟩
    | swap x y l =>
      intro rs h
      cases h with
      | cons r t =>
        cases t with
        | cons r2 t2 => exact ⟨_ :: _ :: _, .cons r2 (.cons r t2), .swap ..⟩
    | trans _ _ ih1 ih2 =>
      intro rs h
      obtain ⟨r2, h2, p2⟩ := ih2 h
      obtain ⟨r1, h1, p1⟩ := ih1 h2
      exact ⟨r1, h1, p1.trans p2⟩
  obtain ⟨rs2, h2, p3⟩ := go p2 h
  exact ⟨rs2, e, h2, p3⟩
end K6
namespace K6
open PySem PySem.Spec PyProof.Rows L2 LamX NdefX EV
/-- lists that hold clauses, one for each row, in drawn orders -/
def Mixes (H : Hp) (ns : List Str) (rs : List (List Str)) (S L : Addr) (H0 : Hp) (cs : List Addr) (qss : List (List (Bool × Str))) : Prop :=
  Paired (fun a qs => H a = some (.lst ((qs.map lit).map V.str)) ∧ (a ≠ S ∧ a ≠ L) ∧ H0 a = none) cs qss ∧ (∀ qs ∈ qss, Lits ns qs) ∧ qss.map (fun qs => asc ns (qs.map lit)) = rs
theorem kept_upd {S L p : Addr} {H H' : Hp} {o : HO} (k : Kept S L H H') (hp : H p = none) : Kept S L H (upd H' p o) := fun b u e n1 n2 => (upd_ne (ne_of_none e hp)).trans (k b u e n1 n2)
end K6
namespace K6
open PySem PySem.Spec PyProof.Rows L2 LamX NdefX EV
/-! ### things that are no clauses -/
theorem kit_no {K : PySem.W.Frag} {T : String} (h1 : PySem.W.kitOne K (.type T) (.type "list") = some false) (h2 : PySem.W.kitOne K (.type T) (.type "tuple") = some false) : PySem.W.kitAny K (.type T) [.type "list", .type "tuple"] = some false :=
  kitAny_cons (b := false) h1 (fun _ => kitAny_cons (b := false) h2 (fun _ => rfl) fun z => nomatch z) (fun z => nomatch z)
theorem ask_list {K : PySem.W.Frag} {H : Hp} {ns : List Str} {A : Addr} {xs : List V} (hA : H A = some (.lst xs)) (see : ∀ H', Same H H' → Seen K H' ns false xs) : Ask K H ns false (.ref A) :=
  .seq (b := true) (.type "list") (fun H' sm => .base (.lst (sm _ _ hA))) (kit_seq true) (fun H' sm => SqL.of (sm _ _ hA)) see
theorem zz_far {ns : List Str} (good : ∀ z ∈ ns, Name1 z) : Str.ofString "Zz" ∉ lits ns := fun h => by
  obtain ⟨n, hn, e⟩ := lits_mem.mp h
  obtain ⟨n1, _, ch⟩ := good n hn
  have e0 : (Str.ofString "Zz").cps.toList = [90, 122] := rfl
  rcases e with e | e
  · have z : (90 : Nat) ∈ n.cps.toList := by rw [← e, e0]; exact List.mem_cons_self
    have := (ch 90 z).1
    omega
  · have z := neg_list n
    rw [← e, e0] at z
    injection z with z _
    omega
theorem atI_0 {α : Type} {x : α} {l : List α} : atI (x :: l) 0 = some x := by
  unfold atI ixN
  rw [if_pos (by decide), if_pos (by rw [List.length_cons]; omega)]
  rfl
section
variable {K : PySem.W.Frag} {H : Hp} {ns : List Str}
theorem ask_non : Ask K H ns false .non := .odd (.type "NoneType") (fun H' _ => .base .non) (kit_no (kit_ty (by decide +kernel)) (kit_ty (by decide +kernel)))
theorem ask_int (i : Int) : Ask K H ns false (.int i) := .odd (.type "int") (fun H' _ => .base (.int i)) (kit_no (kit_ty (by decide +kernel)) (kit_ty (by decide +kernel)))
theorem ask_str (z : Str) : Ask K H ns false (.str z) := .odd (.type "str") (fun H' _ => .base (.str z)) (kit_no (kit_ty (by decide +kernel)) (kit_ty (by decide +kernel)))
theorem ask_dict {e : Addr} {ws : _} (h : H e = some (.dK ws)) : Ask K H ns false (.ref e) := .odd (.type "dict") (fun H' sm => .base (.dK (sm _ _ h))) (kit_no (kit_ty (by decide +kernel)) (kit_ty (by decide +kernel)))
theorem ask_zz {A : Addr} (good : ∀ z ∈ ns, Name1 z) (h : H A = some (.lst [.str (Str.ofString "Zz")])) : Ask K H ns false (.ref A) :=
  ask_list h fun H' sm => .bad (qs := []) (rest := []) ⟨List.nodup_nil, fun _ h => nomatch h⟩ (.far (zz_far good))
theorem ask_five {A : Addr} {i : Int} (h : H A = some (.lst [.int i])) : Ask K H ns false (.ref A) :=
  ask_list h fun H' sm => .bad (qs := []) (rest := []) ⟨List.nodup_nil, fun _ h => nomatch h⟩ (.odd (.type "int") (fun _ _ => .base (.int i)) (kit_ty (by decide +kernel)))
theorem ask_twice {A : Addr} {n : Str} (hn : n ∈ ns) (h : H A = some (.lst [.str n, .str n])) : Ask K H ns false (.ref A) :=
  ask_list h fun H' sm => .bad (qs := [(false, n)]) (x := .str (lit (false, n))) (rest := []) ⟨List.nodup_cons.mpr ⟨(fun h => nomatch h), List.nodup_nil⟩, fun q h => by rw [List.mem_singleton.mp h]; exact hn⟩ (.twice hn List.mem_cons_self)
theorem ask_deep {A B : Addr} {xs : List V} (hB : H B = some (.lst xs)) (h : H A = some (.lst [.ref B])) : Ask K H ns false (.ref A) :=
  ask_list h fun H' sm => .bad (qs := []) (rest := []) ⟨List.nodup_nil, fun _ h => nomatch h⟩ (.odd (.type "list") (fun H2 s2 => .base (.lst (s2 _ _ (sm _ _ hB)))) (kit_ty (by decide +kernel)))
end
section
variable {P : Program} {w : World} {K : PySem.W.Frag} {mg : Str → Option Value} {base : Heap} {C : Addr}
variable {f : Addr} {cdv : Value} {A : Around} {outer : List Env} {s0 : Shared} {HH : Hp} {E : XK}
end
end K6
namespace K6
open PySem PySem.Spec PyProof.Rows L2 LamX NdefX EV
theorem given_list {K : PySem.W.Frag} {H : Hp} {ns : List Str} {x p : Addr} {Cl : Addr} {dx : Addr} {fs : _} {qs : List (Bool × Str)} (hq : Lits ns qs) (hp : H p = some (.lst ((qs.map lit).map V.str))) (hx : H x = some (.ins Cl dx fs)) : Given K x H ns (.ref p) qs := by
  have n : p ≠ x := ne_of hp hx fun z => nomatch z
  exact ⟨hq, true, p, .type "list", rfl, fun H' g => .base (.lst (g _ _ n hp)), kit_seq true, fun H' g => SqL.of (g _ _ n hp)⟩
theorem given_tup {K : PySem.W.Frag} {H : Hp} {ns : List Str} {x p : Addr} {Cl : Addr} {dx : Addr} {fs : _} {qs : List (Bool × Str)} (hq : Lits ns qs) (hp : H p = some (.tup ((qs.map lit).map V.str))) (hx : H x = some (.ins Cl dx fs)) : Given K x H ns (.ref p) qs := by
  have n : p ≠ x := ne_of hp hx fun z => nomatch z
  exact ⟨hq, false, p, .type "tuple", rfl, fun H' g => .base (.tup (g _ _ n hp)), kit_seq false, fun H' g => Sq.tup (g _ _ n hp)⟩
section
variable {P : Program} {w : World} {K : PySem.W.Frag} {mg : Str → Option Value} {base : Heap} {C : Addr}
variable {f : Addr} {cdv : Value} {A : Around} {outer : List Env} {s0 : Shared} {HH : Hp} {E : XK}
end
end K6
/-! t[::-1] of a tuple; <= of instances with an own __le__. -/
namespace EV
open PySem PySem.Spec PyProof.Rows L2 HT
section
variable {prog : Program} {w : World} {A : Around} {E : Value → Shared → Prop} {s : Shared}
theorem adjust_rev (n : Nat) : Builtin.Slice.sliceAdjust none none (-1) (n : Int) = ((n : Int) - 1, -1) := by
  unfold Builtin.Slice.sliceAdjust
  simp
theorem places_rev (n : Nat) : Builtin.Slice.slicePlaces ((n : Int) - 1) (-1) (-1) = n := by
  unfold Builtin.Slice.slicePlaces
  rw [if_neg (by decide)]
  split
  · rw [show (- -1 : Int) = 1 by decide, Int.ediv_one]
    omega
  · omega
theorem sliceApplied_rev {sl : Addr} {vs : Value} {n : Nat} {Q : Int × Int × Nat → Shared → Prop} (hs : s.heap.IsSliceOf sl .none .none vs) (ps : IsPart vs (some (-1)))
    (h : Q ((n : Int) - 1, -1, n) s) : wpAny (model prog w) A (Builtin.Slice.sliceApplied (.ref sl) (pure (n : Int))) Q E s := by
  obtain ⟨os, hos, hcs, hds⟩ := id hs
  unfold Builtin.Slice.sliceApplied Builtin.Slice.sliceFields
  refine wpAny_bind (wpAny_bind (wpAny_field hos hds (x := .none) rfl (wpAny_bind (wpAny_field hos hds (x := .none) rfl (wpAny_bind (wpAny_field hos hds (x := vs) rfl (wpAny_pure ?_)))))))
  refine wpAny_bind (slicePart_ ps ?_)
  show wpAny _ _ (if ((-1 : Int) == 0) = true then _ else _) _ _ s
  rw [if_neg (by decide)]
  refine wpAny_bind (slicePart_none (wpAny_bind (slicePart_none (wpAny_bind (wpAny_pure ?_)))))
  show wpAny _ _ (match Builtin.Slice.sliceAdjust none none (-1) (n : Int) with | (lo, hi) => pure (lo, (-1 : Int), Builtin.Slice.slicePlaces lo hi (-1))) _ _ s
  rw [adjust_rev]
  show wpAny _ _ (pure ((n : Int) - 1, (-1 : Int), Builtin.Slice.slicePlaces ((n : Int) - 1) (-1) (-1))) _ _ s
  rw [places_rev]
  exact wpAny_pure h
theorem fm_congr {α β : Type} {f g : α → Option β} : ∀ (l : List α), (∀ x ∈ l, f x = g x) → l.filterMap f = l.filterMap g
  | [], _ => rfl
  | x :: l, h => by
    rw [List.filterMap_cons, List.filterMap_cons, h x List.mem_cons_self, fm_congr l fun y hy => h y (List.mem_cons_of_mem _ hy)]
theorem pick_rev (xs : Array Value) : ((List.range xs.size).filterMap fun (m : Nat) => xs[(((xs.size : Int) - 1) + (m : Int) * -1).toNat]?).toArray = xs.toList.reverse.toArray := by
  have z := PySem.W.krv_pick xs
  unfold slicePick at z
  rw [PySem.W.krv_bounds] at z
  replace z : ((sliceRange ((xs.size : Int) - 1) (-1) (-1)).filterMap (xs[·]?)).toArray = xs.toList.reverse.toArray := z
  rw [PySem.W.krv_sliceRange, List.filterMap_map] at z
  rw [← z]
  refine congrArg List.toArray (fm_congr _ fun m hm => ?_)
  have lt := List.mem_range.mp hm
  have e : (((xs.size : Int) - 1) + (m : Int) * -1).toNat = xs.size - 1 - m := by omega
  show xs[(((xs.size : Int) - 1) + (m : Int) * -1).toNat]? = xs[xs.size - 1 - m]?
  rw [e]
theorem getItem_tuple_rev {t sl : Addr} {items : Array Value} {vs : Value} {Q : Value → Shared → Prop} (ht : IsTup s.heap t items) (hs : s.heap.IsSliceOf sl .none .none vs) (ps : IsPart vs (some (-1)))
    (h : Q (.ref s.heap.objs.size) { s with heap := s.heap.push { cls := .type "tuple", data := .seq items.toList.reverse.toArray } })
    (hsz : items.size ≤ sizeLine) : wpAny (model prog w) A (getItem (.ref t) (.ref sl)) Q E s := by
  have htake : sizeOk (.seq items.toList.reverse.toArray) := by
    show items.toList.reverse.toArray.size ≤ sizeLine
    rw [List.size_toArray, List.length_reverse, Array.length_toList]
    exact hsz
  obtain ⟨os, hos, hcs, hds⟩ := id hs
  have hTs : s.TypeIs (.ref sl) "slice" := ⟨os, hos, hcs⟩
  unfold getItem
  try with_reducible refine wpAny_holding ?_
  first | refine wpAny_bind (wpAny_pure ?_) | skip
  refine wpAny_bind (wpAny_sequenceKey ht.typeIs (by decide) ?_)
  refine wpAny_bind (wpAny_callSpecial?_slot (name := Str.ofString "__getitem__") ht.typeIs PyProof.Rows.slot_tuple_getitem
    (wpAny_call_entry PyProof.Rows.slot_tuple_getitem ht.typeIs entry_tuple_getitem ?_ (args_tuple_getitem _ _)))
  show wpAny _ _ (Builtin.Tuple.tupleItemsOf (.ref t) >>= _) _ _ s
  refine wpAny_bind (tupleItemsOf_ ht ?_)
  refine wpAny_bind (wpAny_typeOf hTs ?_)
  rw [if_pos (by decide)]
  refine wpAny_bind (sliceApplied_rev hs ps ?_)
  have hno : ¬ ((((items.size : Int) - 1) == 0 && (-1 : Int) == 1 && items.size == items.size) = true) := by
    intro q
    rw [Bool.and_eq_true, Bool.and_eq_true] at q
    exact absurd q.1.2 (by decide)
  show wpAny _ _ (if (((items.size : Int) - 1) == 0 && (-1 : Int) == 1 && items.size == items.size) = true then _ else _) _ _ s
  rw [if_neg hno, pick_rev]
  first
    | exact wpAny_bind (m := Builtin.Tuple.tupleExact _) (wpAny_newObj_type (wpAny_pure ⟨_, rfl, wpAny_pure h⟩) htake)
    | exact wpAny_bind (m := Builtin.Tuple.tupleExact _) (wpAny_newObj_type (wpAny_bind (wpAny_pure (wpAny_pure ⟨_, rfl, wpAny_pure h⟩))) htake)
    | exact wpAny_bind (wpAny_bind (m := Builtin.Tuple.tupleExact _) (wpAny_newObj_type (wpAny_pure (wpAny_pure ⟨_, rfl, wpAny_pure h⟩)) htake))
    | exact wpAny_bind (wpAny_bind (m := Builtin.Tuple.tupleExact _) (wpAny_newObj_type (wpAny_pure ⟨_, rfl, wpAny_pure h⟩) htake))
end
section
variable {X : Cx}
def tRevT (K : PySem.W.Frag) (te : TE) : TE := fun σ H Q => te σ H fun x H1 => ∃ a xs, x = .ref a ∧ SqT K H1 a xs ∧ ∀ p, H1 p = none → Q (.ref p) (upd H1 p (.tup xs.reverse))
theorem pe_revT {e : Expr} {te : TE} {k : Nat} {p1 p2 p3 pos : Pos} (he : PE X e te) : PE X (.Subscript e (.Slice none none (some (.UnaryOp .USub (.Constant (.int 1) k p1) p2)) p3) pos) (tRevT X.K te) := by
  refine ⟨fun pins s σ H Q I h => ?_⟩
  refine Subscript_ (thn (he.run pins s σ H _ I h) fun v s1 ⟨x, H1, I1, r1, q1⟩ => ?_)
  obtain ⟨a, xs, ex, hx, q⟩ := q1
  subst ex
  cases r1
  have hst : PO X (some (.UnaryOp .USub (.Constant (.int 1) k p1) p2)) (tPart (tUn (rU fun i => .int (-i)) (tC (.int 1)))) := po_some (pe_un un_neg pe_int)
  refine wpAny_Slice (thn (po_none.run pins s1 σ H1 (fun o H2 => o = none ∧ H2 = H1) I1 ⟨rfl, rfl⟩) fun vl s2 ⟨l, H2, I2, pl, el, e2⟩ => ?_)
  subst el e2
  refine thn (po_none.run pins s2 σ H2 (fun o H3 => o = none ∧ H3 = H2) I2 ⟨rfl, rfl⟩) fun vu s3 ⟨u, H3, I3, pu, eu, e3⟩ => ?_
  subst eu e3
  refine thn (hst.run pins s3 σ H3 (fun o H4 => o = some (-1) ∧ H4 = H3) I3 ⟨1, rfl, -1, rfl, rfl, rfl⟩) fun vs s4 ⟨o, H4, I4, ps, eo, e4⟩ => ?_
  subst eo e4
  obtain rfl : vl = Value.none := by cases pl; rfl
  obtain rfl : vu = Value.none := by cases pu; rfl
  have I5 : Inv X pins σ H4 { s4 with heap := s4.heap.push { cls := .type "slice", data := .fields #[.none, .none, vs] } } := I4.kept (t' := s4.toks) fun b ob q => Heap.get?_push_of_some _ q
  obtain ⟨its, r, ht, hz⟩ := I5.tuple hx
  have hlen := r.length
  show wpAny (model X.prog X.w) X.A (subscriptTail e (.Slice none none (some (.UnaryOp .USub (.Constant (.int 1) k p1) p2)) p3) (.ref a) (.ref s4.heap.objs.size)) (EP X pins σ Q) X.xe { s4 with heap := s4.heap.push { cls := .type "slice", data := .fields #[.none, .none, vs] } }
  refine tail_any (ops := [.ref a, .ref s4.heap.objs.size]) ht.typeIs (PyProof.Rows.slot_tuple_getitem.lookup) ?_ (by with_unfolding_all rfl)
  refine getItem_tuple_rev ht (Heap.IsSliceOf.new _ .none .none vs) ps ?_ (by rw [List.size_toArray]; omega)
  refine ⟨.ref _, _, I5.laid (t' := s4.toks) (o := .tup xs.reverse) (fun b ob q => Heap.get?_push_of_some _ q) (Nat.le_refl _) ?_, rfl, q _ (I5.hok.fresh (Nat.le_refl _))⟩
  exact ⟨by rw [List.length_reverse]; exact hz, _, r.reverse, ⟨_, Heap.get?_push_size _ rfl, rfl, _, rfl⟩⟩
end
section
variable {X : Cx} {CX : CXT} {n : Nat} {C f : Addr} {fd : FuncData} {ps : List Str} {sp : Sp} {E : XK}
/-- <=, the left one an instance whose class has a method of its own for it -/
theorem op_leOwn (F : FnOk X.prog X.w X.K X.mg X.base CX n f fd ps sp) (hs : PySem.W.findIn X.K (.ref C) "__le__" = some (some (.ref f))) (hf : PySem.W.isFn X.K (.ref f) = true) (hb : L2.Binds X.K fd ps []) (hx : Passes CX X E) (hr : Room n X.A) :
    OpR X (compareOp .LtE) fun x y H Q => ∃ t, TyX X.K H y t ∧ PySem.W.notFirst X.K C t = true ∧ rOwn C sp E x y H fun b H' => Q (.bl b) H' := by
  intro pins s σ H x y v u Q I rx ry h
  obtain ⟨t, ty, nf, a, dx, fs, rfl, ha, hsp⟩ := h
  obtain rfl : v = Value.ref a := rx
  obtain ⟨mA, J, _⟩ := ins_get I.hok ha
  obtain ⟨od, J, _⟩ := J.look
  obtain ⟨m, hF⟩ := I.fr
  obtain ⟨P, Z, hP, _⟩ := kit_of I ry ty
  show wpAny (model X.prog X.w) X.A (richCompare .LtE (.ref a) u) (EP X pins σ Q) X.xe s
  refine PySem.W.cmp_K (op := .LtE) (tb := t) hr.units0 hF I.ok.mod.kin J (Z.ty _ _ I.kIn hP) nf hs hf (wpAny_mono (own_call (Q := fun v H' => ∃ b, v = .bl b ∧ Q (.bl b) H') ⟨hr, rfl⟩ I F hb hx (.cons (show RelV (.ref a) (.ref a) from rfl) (.cons ry .nil)) hsp) (fun w s' z => ?_) fun _ _ e => e)
  obtain ⟨z, H', I', rz, b, rfl, q⟩ := z
  obtain rfl : w = Value.bool b := rz
  exact ⟨.bl b, H', I', rfl, q⟩
end
end EV
namespace K6
open PySem PySem.Spec PyProof.Rows L2 LamX NdefX EV
/-! ### full settings -/
def grow1 (rows : List (List Str)) (n : Str) : List (List Str) := rows.flatMap fun r => [r ++ [n], r ++ [neg n]]
def fulls (ns : List Str) : List (List Str) := ns.foldl grow1 [[]]
theorem fulls_snoc (ns : List Str) (n : Str) : fulls (ns ++ [n]) = grow1 (fulls ns) n := by
  unfold fulls
  rw [List.foldl_append]
  rfl
theorem grow1_len (rows : List (List Str)) (n : Str) : (grow1 rows n).length = 2 * rows.length := by
  unfold grow1
  induction rows with
  | nil => rfl
  | cons r t ih => rw [List.flatMap_cons, List.length_append, ih]; simp only [List.length_cons, List.length_nil]; omega
theorem grow1_app (a b : List (List Str)) (n : Str) : grow1 (a ++ b) n = grow1 a n ++ grow1 b n := by
  unfold grow1
  exact List.flatMap_append
theorem foldl_len (ns : List Str) : ∀ rows : List (List Str), (ns.foldl grow1 rows).length = 2 ^ ns.length * rows.length := by
  induction ns with
  | nil => intro rows; simp
  | cons n r ih =>
    intro rows
    rw [List.foldl_cons, ih, grow1_len, List.length_cons, Nat.pow_succ, Nat.mul_assoc]
theorem fulls_len (ns : List Str) : (fulls ns).length = 2 ^ ns.length := by
  unfold fulls
  rw [foldl_len]
  simp
theorem fulls_few {ns : List Str} (h : ns.length ≤ 6) : (fulls ns).length ≤ 64 := by
  rw [fulls_len]
  exact Nat.pow_le_pow_right (by decide) h
theorem foldl_rows (ns : List Str) : ∀ (rows : List (List Str)) (r : List Str), r ∈ ns.foldl grow1 rows ↔ ∃ p ∈ rows, ∃ qs : List (Bool × Str), qs.map Prod.snd = ns ∧ r = p ++ qs.map lit := by
  induction ns with
  | nil =>
    intro rows r
    constructor
    · intro h
      exact ⟨r, h, [], rfl, by simp⟩
    · rintro ⟨p, hp, qs, e, rfl⟩
      obtain rfl : qs = [] := by simpa using e
      simpa using hp
  | cons n ns ih =>
    intro rows r
    rw [List.foldl_cons, ih]
    constructor
    · rintro ⟨p, hp, qs, e, rfl⟩
      obtain ⟨p0, hp0, h⟩ := List.mem_flatMap.mp hp
      rcases List.mem_cons.mp h with h | h
      · exact ⟨p0, hp0, (false, n) :: qs, by rw [List.map_cons, e], by rw [h, List.append_assoc]; rfl⟩
      · rw [List.mem_singleton.mp h]
        exact ⟨p0, hp0, (true, n) :: qs, by rw [List.map_cons, e], by rw [List.append_assoc]; rfl⟩
    · rintro ⟨p, hp, qs, e, rfl⟩
      cases qs with
      | nil => cases e
      | cons q qs =>
        injection e with e1 e2
        obtain ⟨b, m⟩ := q
        subst e1
        refine ⟨p ++ [lit (b, m)], List.mem_flatMap.mpr ⟨p, hp, ?_⟩, qs, e2, by rw [List.append_assoc]; rfl⟩
        cases b
        · exact List.mem_cons_self
        · exact List.mem_cons_of_mem _ List.mem_cons_self
/-- a full setting: one literal for each name, in the order of the names -/
theorem fulls_mem {ns r : List Str} : r ∈ fulls ns ↔ ∃ qs : List (Bool × Str), qs.map Prod.snd = ns ∧ r = qs.map lit := by
  unfold fulls
  rw [foldl_rows]
  constructor
  · rintro ⟨p, hp, qs, e, rfl⟩
    obtain rfl := List.mem_singleton.mp hp
    exact ⟨qs, e, rfl⟩
  · rintro ⟨qs, e, rfl⟩
    exact ⟨[], List.mem_singleton.mpr rfl, qs, e, rfl⟩
def spFS (K : PySem.W.Frag) : Sp := fun vs H Q _ => ∃ (T : Addr) (b : Bool) (ns : List Str), vs = [.ref T] ∧ (∀ H', Same H H' → Sq K b H' T (ns.map V.str)) ∧ ns.length ≤ 6 ∧ (∀ z ∈ ns, z.length ≤ 8) ∧
  ∀ (p : Addr) (ts : List Addr) (H' : Hp), H p = none → H' p = some (.lst (ts.map V.ref)) → RowsAt H' ts (fulls ns) → Same H H' → Q (.ref p) H'
theorem rows_snoc {H : Hp} {ts : List Addr} {rs : List (List Str)} {t : Addr} {r : List Str} (h : RowsAt H ts rs) (ht : TupAt H t r) : RowsAt H (ts ++ [t]) (rs ++ [r]) := Paired.snoc h ht
section
variable {P : Program} {w : World} {K : PySem.W.Frag} {mg : Str → Option Value} {base : Heap} {f : Addr} {fd : FuncData}
abbrev nFS : List Str := ["names", "rows", "name", "row", "literal"]
theorem scFS : FnScope nFS ["names"] (defScope sFullSettings) := ⟨rfl, rfl, rfl, by decide +kernel, rfl, by decide +kernel, by decide +kernel⟩
theorem ok_fs (F : Fun K "full_settings" "full_settings" sFullSettings f fd) : FnOk P w K mg base CX0 1 f fd ["names"] (spFS K) := by
  refine F.ok scFS (fun vs H Q E h => ?_) (fun cdv A outer s H vs Q E hr h => ?_)
  · obtain ⟨T, b, ns, rfl, _⟩ := h
    rfl
  · obtain ⟨T, b, ns, rfl, hT, hn, h8, k⟩ := h
    refine ⟨_, pss_cons (ps_set (i := 1) scFS.nd rfl (.inl rfl) (pe_lst (pa_cons (pe_tup pa_nil) pa_nil)))
      (pss_cons (ps_for PassesOwn.never rfl (pi_seq (pv 0)) (pg_name (i := 2) scFS.nd rfl (.inr rfl))
        (pss_one (ps_setLc2 (i := 1) (own := [("row", 3), ("literal", 4)]) (vs1 := [4]) (g := gName 3) (tt := tYes) (g1 := gName 4) (tt1 := tYes) (by rfl) scFS.nd rfl rfl (sw_true rfl rfl rfl (by decide +kernel)) (pi_list (pv 1)) (blkOk_by (N := nFS) (sc := defScope sFullSettings) (by decide +kernel)) (by decide)
          (fun _ _ _ _ _ => pg_name (i := 3) scFS.nd rfl (.inl rfl)) (fun _ _ _ _ _ => pts_nil) (fun _ _ _ _ _ => show PI _ _ _ (iTup K _) from pi_tup (pe_tup (pa_cons (pv 2) (pa_cons (pe_op op_add_str pe_str (pv 2)) pa_nil)))) (fun _ _ _ _ _ => pg_name (i := 4) scFS.nd rfl (.inl rfl)) (fun _ _ _ _ _ => pts_nil)
          (fun _ _ _ _ _ => pe_tup (show PA _ _ (StX.tStar K _ _) from StX.pa_star (pv 3) (pa_cons (pv 4) pa_nil))))))
      (pss_one (ps_ret (pv 1)))), ?_⟩
    refine ⟨Nat.zero_le _, fun t0 ht0 => ⟨(by show 1 ≤ sizeLine; decide), fun p0 hp0 => ?_⟩⟩
    have s0 : Same H _ := (same_new (o := .tup []) ht0).trans (same_new (o := .lst [.ref t0]) hp0)
    have w0 := (same_new (o := .lst [.ref t0]) hp0) _ _ (upd_same (H := H) (a := t0) (o := .tup []))
    have hp0H : H p0 = none := by
      have z := hp0
      rwa [upd_ne (ne_of_none (upd_same (H := H) (a := t0) (o := .tup [])) hp0).symm] at z
    refine ⟨_, rfl, b, T, _, rfl, hT _ s0, for_it walk_sq (fun i σ H2 => ∃ p ts o2, σ = [some (.ref T), some (.ref p), o2, none, none] ∧ H p = none ∧ H2 p = some (.lst (ts.map V.ref)) ∧ RowsAt H2 ts (fulls (ns.take i)) ∧ Same H H2) ⟨p0, [t0], none, rfl, hp0H, upd_same, .cons w0 .nil, s0⟩ (fun i σ H2 _ ⟨_, _, _, _, _, _, _, sm⟩ => hT _ sm) ?_ ?_⟩
    · rintro i x σ H2 H3 hi ⟨p, ts, o2, rfl, hp, hp2, rows, sm⟩ ⟨rfl, hx⟩
      obtain ⟨n, hn', rfl⟩ := get_map hx
      have n8 := h8 n (List.mem_of_getElem? hn')
      have ilt : i < ns.length := (List.getElem?_eq_some_iff.mp hn').1
      have et : ns.take (i + 1) = ns.take i ++ [n] := by rw [List.take_succ, hn']; rfl
      have few : (fulls (ns.take i)).length ≤ 64 := fulls_few (by rw [List.length_take]; omega)
      have lts : ts.length = (fulls (ns.take i)).length := Paired.length rows
      refine ⟨_, rfl, p, rfl, ⟨_, SqL.of hp2⟩, fun D hD => lc2_it walk_list (fun j H4 => Same H3 H4 ∧ ∃ us, H4 D = some (.lst (us.map V.ref)) ∧ RowsAt H4 us (grow1 ((fulls (ns.take i)).take j) n)) ⟨same_new hD, [], upd_same, .nil⟩ (fun j H4 _ hh => SqL.of (hh.1 _ _ hp2)) ?_ ?_⟩
      · rintro j y H4 H5 hj ⟨sm4, us, hD4, ru⟩ ⟨rfl, hy⟩
        obtain ⟨t, ht, rfl⟩ := get_map hy
        obtain ⟨r, hr', hrt3⟩ := RowsAt.get rows j t ht
        have er : (fulls (ns.take i)).take (j + 1) = (fulls (ns.take i)).take j ++ [r] := by rw [List.take_succ, hr']; rfl
        have lus : us.length ≤ 128 := by
          have z := Paired.length ru
          rw [grow1_len, List.length_take] at z
          omega
        have lr : r.length ≤ 6 := by
          obtain ⟨qs, e, rfl⟩ := fulls_mem.mp (List.mem_of_getElem? hr')
          have z := congrArg List.length e
          rw [List.length_map, List.length_take] at z
          rw [List.length_map]
          omega
        have np : p ≠ D := ne_of_none hp2 hD
        refine ⟨rfl, _, rfl, _, rfl, _, _, rfl, rfl, by show 1 + n.length ≤ sizeLine; rw [sizeLine_eq]; omega, by show 2 ≤ sizeLine; decide, fun t2 ht2 => ⟨t2, rfl, ⟨_, SqT.of upd_same⟩, in_it (walk_tup (xs := [V.str n, V.str (neg n)])) (fun m H6 => Same H3 H6 ∧ H6 t2 = some (.tup [.str n, .str (neg n)]) ∧ ∃ vs, H6 D = some (.lst ((us ++ vs).map V.ref)) ∧ vs.length ≤ m ∧ RowsAt H6 (us ++ vs) (grow1 ((fulls (ns.take i)).take j) n ++ ([n, neg n].take m).map fun l => r ++ [l])) ?_ (fun m H6 _ hh => SqT.of hh.2.1) ?_ ?_⟩⟩
        · refine ⟨sm4.trans (same_new ht2), upd_same, [], ?_, Nat.le_refl _, ?_⟩
          · rw [List.append_nil]
            exact (upd_ne (ne_of_none hD4 ht2)).trans hD4
          · rw [List.append_nil, List.take_zero, List.map_nil, List.append_nil]
            exact ru.same (same_new ht2)
        · rintro m z H6 H7 hm ⟨sm6, ht6, vs, hD6, lvs, rv⟩ ⟨rfl, hz⟩
          obtain ⟨l, hl, rfl⟩ := get_map (g := V.str) (xs := [n, neg n]) hz
          have e2 : [n, neg n].take (m + 1) = [n, neg n].take m ++ [l] := by rw [List.take_succ, hl]; rfl
          have m2 : m < 2 := hm
          have hrt7 : TupAt H7 t r := sm6 _ _ hrt3
          refine ⟨rfl, _, rfl, t, r.map V.str, rfl, .inl (SqT.of hrt7), _, rfl, by rw [List.length_append, List.length_map, sizeLine_eq]; show _ + 1 ≤ _; omega, fun q hq => ?_⟩
          have nqD : q ≠ D := (ne_of_none hD6 hq).symm
          have sq : Same H7 _ := same_new (o := .tup (r.map V.str ++ [.str l])) hq
          refine ⟨_, sq _ _ hD6, by rw [List.length_map, List.length_append, sizeLine_eq]; omega, fun b' o h => (upd_ne (ne_of_none h hD)).trans (sq _ _ (sm6 b' o h)), (upd_ne (ne_of ht6 hD6 fun z => nomatch z)).trans (sq _ _ ht6), vs ++ [q], ?_, by rw [List.length_append]; show _ + 1 ≤ _; omega, ?_⟩
          · rw [upd_same, ← List.append_assoc, List.map_append (l₁ := us ++ vs)]
            rfl
          · have e3 : grow1 ((fulls (ns.take i)).take j) n ++ ([n, neg n].take (m + 1)).map (fun l => r ++ [l]) = (grow1 ((fulls (ns.take i)).take j) n ++ ([n, neg n].take m).map (fun l => r ++ [l])) ++ [r ++ [l]] := by
              rw [e2, List.map_append, ← List.append_assoc]
              rfl
            rw [e3, ← List.append_assoc]
            refine RowsAt.put (sq _ _ hD6) (rows_snoc (rv.same sq) ?_)
            show upd _ _ _ _ = _
            rw [upd_same, List.map_append]
            rfl
        · rintro H6 ⟨sm6, _, vs, hD6, _, rv⟩
          refine ⟨sm6, us ++ vs, hD6, ?_⟩
          rw [er, grow1_app]
          exact rv
      · rintro H4 ⟨sm4, us, hD4, ru⟩
        rw [List.length_map, lts, List.take_length] at ru
        have hDH : H D = none := sm.free hD
        refine ⟨D, us, _, rfl, hDH, hD4, ?_, sm.trans sm4⟩
        rw [et, fulls_snoc]
        exact ru
    · rintro σ H2 ⟨p, ts, o2, rfl, hp, hp2, rows, sm⟩
      rw [List.length_map, List.take_length] at rows
      exact ⟨_, rfl, k p ts H2 hp hp2 rows sm⟩
end
end K6
namespace K6
open PySem PySem.Spec PyProof.Rows L2 LamX NdefX EV
theorem paired_app {α β : Type} {R : α → β → Prop} : ∀ {xs xs' : List α} {ys ys' : List β}, Paired R xs ys → Paired R xs' ys' → Paired R (xs ++ xs') (ys ++ ys')
  | _, _, _, _, .nil, h => h
  | _, _, _, _, .cons r t, h => .cons r (paired_app t h)
theorem cat_one {K : PySem.W.Frag} {H : Hp} {t q : Addr} {r : List Str} {l : Str} {Q : VK} (ht : TupAt H t r) (hq : H q = some (.tup [.str l])) (few : r.length ≤ 100) (k : ∀ p H', TupAt H' p (r ++ [l]) → Same H H' → Q (.ref p) H') : rCatA K (.ref t) (.ref q) H Q := by
  refine ⟨t, q, r.map V.str, [.str l], rfl, rfl, SqT.of ht, SqT.of hq, by rw [List.length_map, sizeLine_eq]; show _ + 1 ≤ _; omega, fun e => ?_, (fun _ e => nomatch e), fun _ _ p hp => ?_⟩
  · have e2 : r = [] := by simpa using e
    subst e2
    exact k q H hq (Same.refl H)
  · refine k p _ ?_ (same_new hp)
    show upd _ _ _ _ = _
    rw [upd_same, List.map_append]
    rfl
def spFulls (K : PySem.W.Frag) : Sp := fun vs H Q _ => ∃ (T : Addr) (ns : List Str), vs = [.ref T] ∧ (∀ H', Same H H' → SqL K H' T (ns.map V.str)) ∧ ns.length ≤ 6 ∧ (∀ z ∈ ns, z.length ≤ 8) ∧
  ∀ (p : Addr) (ts : List Addr) (H' : Hp), H p = none → H' p = some (.lst (ts.map V.ref)) → RowsAt H' ts (fulls ns) → Same H H' → Q (.ref p) H'
def spChkCount (K : PySem.W.Frag) : Sp := fun vs H Q _ => ∃ (T : Addr) (b : Bool) (xs : List V), vs = [.ref T] ∧ Sq K b H T xs ∧ xs.length ≤ 6 ∧ Q .non H
def spIsFull (K : PySem.W.Frag) : Sp := fun vs H Q _ => ∃ (PL : Addr) (x : V) (ns : List Str), vs = [.ref PL, x] ∧ H PL = some (.dK (plc ns)) ∧ ns.length ≤ 60 ∧ ns.Nodup ∧ (∀ z ∈ ns, Name1 z) ∧
  ((∃ s qs, Given K s H ns x qs ∧ ∀ H', Same H H' → Q (.bl (decide (qs.length = ns.length))) H') ∨ (Ask K H ns false x ∧ ∀ H', Same H H' → Q (.bl false) H'))
theorem Sq.len {K : PySem.W.Frag} {H : Hp} {b : Bool} {a : Addr} {xs : List V} (h : Sq K b H a xs) : LenV K (.ref a) H xs.length := by
  cases b
  · exact .inr ⟨xs, h, rfl⟩
  · exact .inl ⟨xs, h, rfl⟩
section
variable {P : Program} {w : World} {K : PySem.W.Frag} {mg : Str → Option Value} {base : Heap} {f fC : Addr} {fd fdC : FuncData}
abbrev nFulls : List Str := ["_law_names_here", "_law_found", "_law_name", "_law_longer", "_law_one"]
theorem scFulls : FnScope nFulls ["_law_names_here"] (defScope sFulls) := ⟨rfl, rfl, rfl, by decide +kernel, rfl, by decide +kernel, by decide +kernel⟩
theorem ok_fulls (F : Fun K "_law_fulls" "_law_fulls" sFulls f fd) : FnOk P w K mg base CX0 1 f fd ["_law_names_here"] (spFulls K) := by
  refine F.ok scFulls (fun vs H Q E h => ?_) (fun cdv A outer s H vs Q E hr h => ?_)
  · obtain ⟨T, ns, rfl, _⟩ := h
    rfl
  · obtain ⟨T, ns, rfl, hT, hn, h8, k⟩ := h
    refine ⟨_, pss_cons (ps_set (i := 1) scFulls.nd rfl (.inl rfl) (pe_lst (pa_cons (pe_tup pa_nil) pa_nil)))
      (pss_cons (ps_for PassesOwn.never rfl (pi_list (pv 0)) (pg_name (i := 2) scFulls.nd rfl (.inl rfl))
        (pss_cons (ps_set (i := 3) scFulls.nd rfl (.inl rfl) (pe_lst pa_nil))
        (pss_cons (ps_for PassesOwn.never rfl (pi_list (pv 1)) (pg_name (i := 4) scFulls.nd rfl (.inl rfl))
          (pss_one (ps_expr (pe_bm PySem.F.plainAttrs_list PySem.F.slot_list_extend PySem.F.type_list_extend mt_extend (pv 3) (pa_cons (pe_lst (pa_cons (pe_op op_catA (pv 4) (pe_tup (pa_cons (pv 2) pa_nil))) (pa_cons (pe_op op_catA (pv 4) (pe_tup (pa_cons (pe_op op_add_str pe_str (pv 2)) pa_nil))) pa_nil))) pa_nil)))))
        (pss_one (ps_set (i := 1) scFulls.nd rfl (.inl rfl) (pv 3))))))
      (pss_one (ps_ret (pv 1)))), ?_⟩
    refine ⟨Nat.zero_le _, fun t0 ht0 => ⟨(by show 1 ≤ sizeLine; decide), fun p0 hp0 => ?_⟩⟩
    have s0 : Same H _ := (same_new (o := .tup []) ht0).trans (same_new (o := .lst [.ref t0]) hp0)
    have w0 := (same_new (o := .lst [.ref t0]) hp0) _ _ (upd_same (H := H) (a := t0) (o := .tup []))
    have hp0H : H p0 = none := by
      have z := hp0
      rwa [upd_ne (ne_of_none (upd_same (H := H) (a := t0) (o := .tup [])) hp0).symm] at z
    refine ⟨_, rfl, T, rfl, ⟨_, hT _ s0⟩, for_list (K := K) (a := T) (xs := ns.map V.str) (fun i σ H2 => ∃ p ts o2 o3 o4, σ = [some (.ref T), some (.ref p), o2, o3, o4] ∧ H p = none ∧ H2 p = some (.lst (ts.map V.ref)) ∧ RowsAt H2 ts (fulls (ns.take i)) ∧ Same H H2) ⟨p0, [t0], none, none, none, rfl, hp0H, upd_same, .cons w0 .nil, s0⟩ (fun i σ H2 _ ⟨_, _, _, _, _, _, _, _, _, sm⟩ => hT _ sm) ?_ ?_⟩
    · rintro i x σ H3 hx ⟨p, ts, o2, o3, o4, rfl, hp, hp2, rows, sm⟩
      obtain ⟨n, hn', rfl⟩ := get_map hx
      have n8 := h8 n (List.mem_of_getElem? hn')
      have ilt : i < ns.length := (List.getElem?_eq_some_iff.mp hn').1
      have et : ns.take (i + 1) = ns.take i ++ [n] := by rw [List.take_succ, hn']; rfl
      have few : (fulls (ns.take i)).length ≤ 64 := fulls_few (by rw [List.length_take]; omega)
      have lts : ts.length = (fulls (ns.take i)).length := Paired.length rows
      refine ⟨Nat.zero_le _, fun D hD => ?_⟩
      have hDH : H D = none := sm.free hD
      have np : p ≠ D := ne_of_none hp2 hD
      refine ⟨_, rfl, p, rfl, ⟨_, SqL.of ((same_new hD) _ _ hp2)⟩, for_list (K := K) (a := p) (xs := ts.map V.ref) (fun j σ H4 => ∃ o4 us, σ = [some (.ref T), some (.ref p), some (.str n), some (.ref D), o4] ∧ Same H3 H4 ∧ H4 D = some (.lst (us.map V.ref)) ∧ RowsAt H4 us (grow1 ((fulls (ns.take i)).take j) n)) ⟨_, [], rfl, same_new hD, upd_same, .nil⟩ (fun j σ H4 _ ⟨_, _, _, hh, _⟩ => SqL.of (hh _ _ hp2)) ?_ ?_⟩
      · rintro j y σ H4 hy ⟨o4, us, rfl, sm4, hD4, ru⟩
        obtain ⟨t, ht, rfl⟩ := get_map hy
        obtain ⟨r, hr', hrt3⟩ := RowsAt.get rows j t ht
        have er : (fulls (ns.take i)).take (j + 1) = (fulls (ns.take i)).take j ++ [r] := by rw [List.take_succ, hr']; rfl
        have lus : us.length ≤ 128 := by
          have z := Paired.length ru
          rw [grow1_len, List.length_take] at z
          omega
        have lr : r.length ≤ 6 := by
          obtain ⟨qs, e, rfl⟩ := fulls_mem.mp (List.mem_of_getElem? hr')
          have z := congrArg List.length e
          rw [List.length_map, List.length_take] at z
          rw [List.length_map]
          omega
        refine ⟨_, rfl, .inl ⟨rfl, _, SqL.of hD4⟩, _, rfl, _, rfl, by show 1 ≤ sizeLine; decide, fun q1 hq1 => ?_⟩
        have a1 : Same H4 _ := same_new (o := .tup [.str n]) hq1
        refine cat_one (a1 _ _ (sm4 _ _ hrt3)) upd_same (by omega) fun v1 H5 hv1 s5 => ?_
        have sm5 := a1.trans s5
        refine ⟨_, rfl, _, rfl, _, _, rfl, rfl, by show 1 + n.length ≤ sizeLine; rw [sizeLine_eq]; omega, by show 1 ≤ sizeLine; decide, fun q2 hq2 => ?_⟩
        have a2 : Same H5 _ := same_new (o := .tup [.str (neg n)]) hq2
        refine cat_one (a2 _ _ (sm5 _ _ (sm4 _ _ hrt3))) upd_same (by omega) fun v2 H6 hv2 s6 => ⟨by show 2 ≤ sizeLine; decide, fun m hm => ?_⟩
        have a3 : Same H6 _ := same_new (o := .lst [.ref v1, .ref v2]) hm
        have s46 : Same H4 (upd H6 m (.lst [.ref v1, .ref v2])) := (sm5.trans (a2.trans s6)).trans a3
        refine ⟨D, m, _, _, rfl, rfl, s46 _ _ hD4, upd_same, by rw [List.length_map, sizeLine_eq]; show _ + 2 ≤ _; omega, _, us ++ [v1, v2], rfl, fun b o h => (upd_ne (ne_of_none h hD)).trans (s46 _ _ (sm4 _ _ h)), ?_, ?_⟩
        · rw [upd_same, List.map_append]
          rfl
        · refine RowsAt.put (s46 _ _ hD4) ?_
          rw [er, grow1_app]
          refine paired_app (ru.same s46) ?_
          exact .cons (a3 _ _ (s6 _ _ (a2 _ _ hv1))) (.cons (a3 _ _ hv2) .nil)
      · rintro σ H4 ⟨o4, us, rfl, sm4, hD4, ru⟩
        rw [List.length_map, lts, List.take_length] at ru
        refine ⟨_, rfl, D, us, _, _, _, rfl, hDH, hD4, ?_, sm.trans sm4⟩
        rw [et, fulls_snoc]
        exact ru
    · rintro σ H2 ⟨p, ts, o2, o3, o4, rfl, hp, hp2, rows, sm⟩
      rw [List.length_map, List.take_length] at rows
      exact ⟨_, rfl, k p ts H2 hp hp2 rows sm⟩
theorem scChkCount : FnScope ["names"] ["names"] (defScope sChkCount) := ⟨rfl, rfl, rfl, by decide +kernel, rfl, by decide +kernel, by decide +kernel⟩
theorem ok_chkCount (F : Fun K "check_count" "check_count" sChkCount f fd) (ml : mg "len" = none) (mS : ∃ t, mg "MOST_SIGNS" = some (.int 6 t)) : FnOk P w K mg base CX0 1 f fd ["names"] (spChkCount K) := by
  obtain ⟨tS, mS⟩ := mS
  refine F.ok scChkCount (fun vs H Q E h => ?_) (fun cdv A outer s H vs Q E hr h => ?_)
  · obtain ⟨T, b, xs, rfl, _⟩ := h
    rfl
  · obtain ⟨T, b, xs, rfl, hT, few, k⟩ := h
    refine ⟨_, pss_one (ps_if (pt_cmpR op_gt (pe_callB call_len (by rfl) ml PySem.boot_len (pa_cons (pv 0) pa_nil)) (pe_glob (v := .int 6) (by rfl) mS ⟨_, rfl⟩) (nomark _)) (pss_one ps_none) pss_nil), ?_⟩
    refine ⟨_, rfl, _, xs.length, rfl, Sq.len hT, _, _, rfl, rfl, _, rfl, ?_⟩
    rw [decide_eq_false (by omega)]
    exact iteF k
theorem scIsFull : FnScope ["places", "thing"] ["places", "thing"] (defScope sIsFull) := ⟨rfl, rfl, rfl, by decide +kernel, rfl, by decide +kernel, by decide +kernel⟩
theorem ok_isFull (F : Fun K "is_full" "is_full" sIsFull f fd) (ml : mg "len" = none) (GC : FnOk P w K mg base CX0 3 fC fdC ["places", "thing"] (spIsClause K)) (mC : mg "is_clause" = some (.ref fC)) (kC : PySem.W.keepIn K (.ref fC) = true) (bC : L2.Binds K fdC ["places", "thing"] []) :
    FnOk P w K mg base CX0 4 f fd ["places", "thing"] (spIsFull K) := by
  refine F.ok scIsFull (fun vs H Q E h => ?_) (fun cdv A' outer s H vs Q E hr h => ?_)
  · obtain ⟨PL, x, ns, rfl, _⟩ := h
    rfl
  · obtain ⟨PL, x, ns, rfl, hPL, hn, nd, good, way⟩ := h
    refine ⟨_, pss_one (ps_ret (pe_and (pe_call GC hr (by rfl) mC kC bC .nil pass0 (pa_cons (pv 0) (pa_cons (pv 1) pa_nil))) (pe_one (pe_cmpR op_eq (pe_op op_mul pe_int (pe_callB call_len (by rfl) ml PySem.boot_len (pa_cons (pv 1) pa_nil))) (pe_callB call_lenD (by rfl) ml PySem.boot_len (pa_cons (pv 0) pa_nil)) (nomark _))))), ?_⟩
    rcases way with ⟨s', qs, giv, k⟩ | ⟨ask, k⟩
    · refine ⟨_, rfl, _, rfl, PL, x, ns, true, rfl, hPL, hn, nd, good, giv.ask, fun H1 sm1 => ⟨_, rfl, iteT ?_⟩⟩
      obtain ⟨hq, b, A, t, rfl, ty, kit, sq⟩ := giv
      have few : qs.length ≤ ns.length := by
        have z := nodup_le (qs.map Prod.snd) ns hq.nd fun n hn => by
          obtain ⟨q, hq', rfl⟩ := List.mem_map.mp hn
          exact hq.sub q hq'
        rwa [List.length_map] at z
      have ll : ((qs.map lit).map V.str).length = qs.length := by rw [List.length_map, List.length_map]
      have sL : LenV K (.ref A) H1 qs.length := ll ▸ Sq.len (sq _ (.of sm1))
      refine ⟨_, rfl, _, qs.length, rfl, sL, _, _, rfl, rfl, .inl ⟨by omega, by omega⟩, _, rfl, PL, _, rfl, sm1 _ _ hPL, rfl, ?_⟩
      have e : decide (V.int (2 * ((qs.length : Nat) : Int)) = V.int ((plc ns).length : Int)) = decide (qs.length = ns.length) := by
        rw [plcF_len, lits_len]
        refine decide_eq_decide.mpr ⟨fun h => ?_, fun h => ?_⟩
        · injection h with h
          omega
        · rw [h]
          congr 1
      show Q (.bl (decide (V.int (2 * ((qs.length : Nat) : Int)) = V.int ((plc ns).length : Int)))) H1
      rw [e]
      exact k H1 sm1
    · exact ⟨_, rfl, _, rfl, PL, x, ns, false, rfl, hPL, hn, nd, good, ask, fun H1 sm1 => ⟨_, rfl, iteF (k H1 sm1)⟩⟩
end
end K6
namespace K6
open PySem PySem.Spec PyProof.Rows L2 LamX NdefX EV
abbrev sInit : Stmt := inClass (top 27) 0
abbrev sSigns : Stmt := inClass (top 27) 1
abbrev sSettings : Stmt := inClass (top 27) 2
abbrev sLen : Stmt := inClass (top 27) 6
abbrev sContains : Stmt := inClass (top 27) 7
abbrev sLe : Stmt := inClass (top 27) 12
abbrev sEq : Stmt := inClass (top 27) 14
/-! ### rules -/
theorem neg_ne (n : Str) : n ≠ neg n := fun e => by
  have z := neg_len n
  rw [← e] at z
  omega
theorem grow1_mem {rows : List (List Str)} {n : Str} {r : List Str} : r ∈ grow1 rows n ↔ ∃ p ∈ rows, r = p ++ [n] ∨ r = p ++ [neg n] := by
  unfold grow1
  rw [List.mem_flatMap]
  constructor
  · rintro ⟨p, hp, h⟩
    rcases List.mem_cons.mp h with h | h
    · exact ⟨p, hp, .inl h⟩
    · exact ⟨p, hp, .inr (List.mem_singleton.mp h)⟩
  · rintro ⟨p, hp, h | h⟩
    · exact ⟨p, hp, by rw [h]; exact List.mem_cons_self⟩
    · exact ⟨p, hp, by rw [h]; exact List.mem_cons_of_mem _ (List.mem_singleton.mpr rfl)⟩
theorem snoc_inj {α : Type} {a b : List α} {x y : α} (h : a ++ [x] = b ++ [y]) : a = b ∧ x = y := by
  obtain ⟨h1, h2⟩ := List.append_inj' h rfl
  exact ⟨h1, by injection h2⟩
theorem grow1_nodup (n : Str) : ∀ rows : List (List Str), rows.Nodup → (grow1 rows n).Nodup
  | [], _ => List.nodup_nil
  | r :: t, nd => by
    obtain ⟨h1, h2⟩ := List.nodup_cons.mp nd
    have ih := grow1_nodup n t h2
    show ((r ++ [n]) :: (r ++ [neg n]) :: grow1 t n).Nodup
    refine List.nodup_cons.mpr ⟨fun h => ?_, List.nodup_cons.mpr ⟨fun h => ?_, ih⟩⟩
    · rcases List.mem_cons.mp h with h | h
      · exact neg_ne n (snoc_inj h).2
      · obtain ⟨p, hp, e | e⟩ := grow1_mem.mp h
        · exact h1 ((snoc_inj e).1 ▸ hp)
        · exact neg_ne n (snoc_inj e).2
    · obtain ⟨p, hp, e | e⟩ := grow1_mem.mp h
      · exact neg_ne n (snoc_inj e).2.symm
      · exact h1 ((snoc_inj e).1 ▸ hp)
theorem foldl_nodup : ∀ (ns : List Str) (rows : List (List Str)), rows.Nodup → (ns.foldl grow1 rows).Nodup
  | [], _, nd => nd
  | n :: ns, rows, nd => foldl_nodup ns _ (grow1_nodup n rows nd)
theorem fulls_nodup (ns : List Str) : (fulls ns).Nodup := foldl_nodup ns [[]] (List.nodup_cons.mpr ⟨fun h => (nomatch h), List.nodup_nil⟩)
theorem addRow_iff {rs : List (List Str)} {r x : List Str} : x ∈ addRow rs r ↔ x ∈ rs ∨ x = r := by
  unfold addRow
  split
  · rename_i h
    exact ⟨.inl, fun q => q.elim id fun e => e ▸ h⟩
  · rw [List.mem_append, List.mem_singleton]
theorem fold_iff : ∀ (xs acc : List (List Str)) (x : List Str), x ∈ xs.foldl addRow acc ↔ x ∈ acc ∨ x ∈ xs
  | [], _, _ => ⟨.inl, fun h => h.elim id fun z => nomatch z⟩
  | y :: xs, acc, x => by
    rw [List.foldl_cons, fold_iff xs, addRow_iff, List.mem_cons, or_assoc]
theorem rowsOf_iff {ns : List Str} {qss : List (List (Bool × Str))} {r : List Str} : r ∈ rowsOf ns qss ↔ ∃ qs ∈ qss, r = asc ns (qs.map lit) := by
  unfold rowsOf
  rw [fold_iff, List.mem_map]
  constructor
  · rintro (h | ⟨qs, h, e⟩)
    · cases h
    · exact ⟨qs, h, e.symm⟩
  · rintro ⟨qs, h, e⟩
    exact .inr ⟨qs, h, e.symm⟩
/-- the allowed settings of a rule of which these are given -/
def allow (ns : List Str) (gs : List (List Str)) : List (List Str) := (fulls ns).filter fun r => decide (r ∈ gs)
/-- the fields of a rule -/
def fl (a pl r : Addr) : List (Str × V) := putF "rows" (.ref r) (putF "places" (.ref pl) (putF "names" (.ref a) []))
theorem fl_eq (a pl r : Addr) : fl a pl r = ([("names", V.ref a), ("places", V.ref pl), ("rows", V.ref r)] : List (Str × V)) := by
  unfold fl putF
  rfl
theorem fl1 (a pl r : Addr) : (fl a pl r).lookup ("names" : Str) = some (.ref a) := by rw [fl_eq]; rfl
theorem fl2 (a pl r : Addr) : (fl a pl r).lookup ("places" : Str) = some (.ref pl) := by rw [fl_eq]; rfl
theorem fl3 (a pl r : Addr) : (fl a pl r).lookup ("rows" : Str) = some (.ref r) := by rw [fl_eq]; rfl
theorem fl_no {a pl r : Addr} {m : Str} (h : (["names", "places", "rows"] : List Str).contains m = false) : (fl a pl r).lookup m = none := by
  rw [fl_eq]
  simp only [List.contains_cons, List.contains_nil, Bool.or_false, Bool.or_eq_false_iff] at h
  obtain ⟨h1, h2, h3⟩ := h
  simp only [List.lookup, h1, h2, h3]
/-- a rule that stands in the heap, the rows' dict named -/
structure RuleR (K : PySem.W.Frag) (C : Addr) (H : Hp) (x : Addr) (sg : List Str) (rs : List (List Str)) (r : Addr) : Prop where
  at_ : ∃ dx a pl, H x = some (.ins C dx (fl a pl r)) ∧ (∀ H', Same H H' → SqT K H' a (sg.map V.str)) ∧ H pl = some (.dK (plc sg)) ∧ H r = some (.dT (rs.map rowKv))
structure RTxt (K : PySem.W.Frag) (mg : Str → Option Value) (C : Addr) : Prop where
  cl : Cls K C
  n1 : NoAttr K C "names"
  n2 : NoAttr K C "places"
  n3 : NoAttr K C "rows"
  mgC : mg "Rule" = some (.ref C)
  tuple : mg "tuple" = none
  list : mg "list" = none
  len : mg "len" = none
theorem RuleR.same {K : PySem.W.Frag} {C : Addr} {H H' : Hp} {x r : Addr} {sg : List Str} {rs : List (List Str)} (c : RuleR K C H x sg rs r) (sm : Same H H') : RuleR K C H' x sg rs r := by
  obtain ⟨dx, a, pl, h1, h2, h4, h5⟩ := c.at_
  exact ⟨dx, a, pl, sm _ _ h1, fun H2 s2 => h2 H2 (sm.trans s2), sm _ _ h4, sm _ _ h5⟩
theorem RuleR.off {K : PySem.W.Frag} {C : Addr} {H H' : Hp} {x r d : Addr} {sg : List Str} {rs : List (List Str)} {ws : List (List Key × V)} (c : RuleR K C H x sg rs r) (hd : H d = some (.dT ws)) (ne : r ≠ d) (g : Grow d H H') : RuleR K C H' x sg rs r := by
  obtain ⟨dx, a, pl, h1, h2, h4, h5⟩ := c.at_
  exact ⟨dx, a, pl, g _ _ (fun e => by rw [e, hd] at h1; cases h1) h1, fun H2 s2 => (sqT_off (h2 H (Same.refl H)) hd g).ext s2, g _ _ (fun e => by rw [e, hd] at h4; cases h4) h4, g _ _ ne h5⟩
theorem RuleR.kept {K : PySem.W.Frag} {C : Addr} {H H' : Hp} {S L x r : Addr} {sg : List Str} {rs : List (List Str)} (cr : RuleR K C H x sg rs r) (hS : Two H S L) (k : Kept S L H H') : RuleR K C H' x sg rs r := by
  obtain ⟨dx, a, pl, h1, h2, h4, h5⟩ := cr.at_
  obtain ⟨⟨_, g1⟩, ⟨_, g2⟩⟩ := id hS
  exact ⟨dx, a, pl, k _ _ h1 (ne_of h1 g1 fun z => nomatch z) (ne_of h1 g2 fun z => nomatch z), fun H2 s2 => (sqT_kept (h2 H (Same.refl H)) hS k).ext s2, k _ _ h4 (ne_of h4 g1 fun z => nomatch z) (ne_of h4 g2 fun z => nomatch z), k _ _ h5 (ne_of h5 g1 fun z => nomatch z) (ne_of h5 g2 fun z => nomatch z)⟩
def spInit (K : PySem.W.Frag) (C : Addr) : Sp := fun vs H Q _ => ∃ (x dx S0 T0 : Addr) (b1 b2 : Bool) (sg : List Str) (xs : List V) (qss : List (List (Bool × Str))), vs = [.ref x, .ref S0, .ref T0] ∧ H x = some (.ins C dx []) ∧
  (∀ H', Grow x H H' → Sq K b1 H' S0 (sg.map V.str)) ∧ (∀ H', Grow x H H' → Sq K b2 H' T0 xs) ∧ sg.length ≤ 6 ∧ sg.Nodup ∧ (∀ z ∈ sg, Name1 z) ∧ Paired (Given K x H sg) xs qss ∧ (∀ qs ∈ qss, qs.length = sg.length) ∧ qss.length ≤ 1000 ∧
  ∀ H' r, Grow x H H' → RuleR K C H' x sg (allow sg (rowsOf sg qss)) r → H r = none → Q .non H'
theorem Given.same {K : PySem.W.Frag} {s : Addr} {H H' : Hp} {ns : List Str} {x : V} {qs : List (Bool × Str)} (g : Given K s H ns x qs) (sm : Same H H') : Given K s H' ns x qs := by
  obtain ⟨hq, b, A, t, rfl, ty, kit, sq⟩ := g
  exact ⟨hq, b, A, t, rfl, fun H2 g2 => ty H2 ((Grow.of sm).trans g2), kit, fun H2 g2 => sq H2 ((Grow.of sm).trans g2)⟩
section
variable {P : Program} {w : World} {K : PySem.W.Frag} {mg : Str → Option Value} {base : Heap} {f fN fP fC fO fU fS C : Addr} {fd fdN fdP fdC fdO fdU fdS : FuncData}
abbrev nInit : List Str := ["self", "signs", "settings", "places", "index", "thing", "given", "setting", "row"]
theorem scInit : FnScope nInit ["self", "signs", "settings"] (defScope sInit) := ⟨rfl, rfl, rfl, by decide +kernel, rfl, by decide +kernel, by decide +kernel⟩
theorem ok_init {A1 : Addr} {dsN : List Value} (F : Fun K "__init__" "Rule.__init__" sInit f fd) (T : RTxt K mg C) (me : mg "enumerate" = none)
    (GN : FnOk P w K mg base CX0 2 fN fdN ["things", "taken"] (spChkNames K)) (mN : mg "check_names" = some (.ref fN)) (kN : PySem.W.keepIn K (.ref fN) = true) (hN1 : NilT K A1) (dN : Vals [.ref A1] dsN) (bN : L2.Binds K fdN ["things", "taken"] dsN)
    (GU : FnOk P w K mg base CX0 1 fU fdU ["names"] (spChkCount K)) (mU : mg "check_count" = some (.ref fU)) (kU : PySem.W.keepIn K (.ref fU) = true) (bU : L2.Binds K fdU ["names"] [])
    (GP : FnOk P w K mg base CX0 2 fP fdP ["names"] (spPlaces K)) (mP : mg "places_of" = some (.ref fP)) (kP : PySem.W.keepIn K (.ref fP) = true) (bP : L2.Binds K fdP ["names"] [])
    (GC : FnOk P w K mg base CX0 4 fC fdC ["places", "thing"] (spIsFull K)) (mC : mg "is_full" = some (.ref fC)) (kC : PySem.W.keepIn K (.ref fC) = true) (bC : L2.Binds K fdC ["places", "thing"] [])
    (GO : FnOk P w K mg base CX0 1 fO fdO ["places", "literals"] (spInOrder K)) (mO : mg "in_order" = some (.ref fO)) (kO : PySem.W.keepIn K (.ref fO) = true) (bO : L2.Binds K fdO ["places", "literals"] [])
    (GS : FnOk P w K mg base CX0 1 fS fdS ["names"] (spFS K)) (mS : mg "full_settings" = some (.ref fS)) (kS : PySem.W.keepIn K (.ref fS) = true) (bS : L2.Binds K fdS ["names"] []) :
    FnOk P w K mg base CX0 5 f fd ["self", "signs", "settings"] (spInit K C) := by
  refine F.ok scInit (fun vs H Q E h => ?_) (fun cdv A' outer s H vs Q E hr h => ?_)
  · obtain ⟨x, dx, S0, T0, b1, b2, sg, xs, qss, rfl, _⟩ := h
    rfl
  · obtain ⟨x, dx, S0, T0, b1, b2, sg, xs, qss, rfl, hx, hS, hT, n6, nd, good, giv, lens, few, k⟩ := h
    have hu := hu_of hr
    have hr1 : Room 1 _ := hr.mono (by decide)
    have hr2 : Room 2 _ := hr.mono (by decide)
    have n60 : sg.length ≤ 60 := by omega
    refine ⟨_, pss_cons (ps_expr (pe_call GN hr2 (by rfl) mN kN bN dN pass0 (pa_cons (pv 1) pa_nil)))
      (pss_cons (ps_expr (pe_call GU hr1 (by rfl) mU kU bU .nil pass0 (pa_cons (pv 1) pa_nil)))
      (pss_cons (ps_set (i := 3) scInit.nd rfl (.inr rfl) (pe_call GP hr2 (by rfl) mP kP bP .nil pass0 (pa_cons (pv 1) pa_nil)))
      (pss_cons (ps_for PassesOwn.never rfl (pi_enumB (by rfl) me (pa_cons (pv 2) pa_nil)) (pg_tup rfl (pgs_cons (pg_name (i := 4) scInit.nd rfl (.inl rfl)) (pgs_cons (pg_name (i := 5) scInit.nd rfl (.inl rfl)) pgs_nil)))
        (pss_one (ps_if (pt_not (pt_val (pe_call GC hr (by rfl) mC kC bC .nil pass0 (pa_cons (pv 3) (pa_cons (pv 5) pa_nil))))) (pss_one ps_none) pss_nil)))
      (pss_cons (ps_set (i := 6) scInit.nd rfl (.inr rfl) (pe_dcP (own := [("setting", 7)]) .t rfl hu scInit.nd (pi_seq (pv 2)) (blkOk_by (N := nInit) (sc := defScope sInit) (by decide +kernel))
          (fun _ _ _ _ _ => pg_name (i := 7) scInit.nd rfl (.inl rfl)) (fun _ _ _ _ _ => pts_nil) (fun _ _ _ _ _ => pe_call GO hr1 (by rfl) mO kO bO .nil pass0 (pa_cons (pv 3) (pa_cons (pv 7) pa_nil))) (fun _ _ _ _ _ => pe_bl)))
      (pss_cons (ps_fld (pv 0) (pe_tupleOf (by rfl) T.tuple (pv 1)) rfl)
      (pss_cons (ps_fld (pv 0) (pv 3) rfl)
      (pss_one (ps_fld (pv 0) (pe_dcP (own := [("row", 8)]) .t rfl hu scInit.nd (pi_list (pe_call GS hr1 (by rfl) mS kS bS .nil pass0 (pa_cons (pv 1) pa_nil))) (blkOk_by (N := nInit) (sc := defScope sInit) (by decide +kernel))
          (fun _ _ _ _ _ => pg_name (i := 8) scInit.nd rfl (.inl rfl)) (fun _ _ _ _ _ => pts_one (pt_cmp (pc_din hu (pv 8) (pv 6)))) (fun _ _ _ _ _ => pv 8) (fun _ _ _ _ _ => pe_bl)) rfl)))))))), ?_⟩
    have g0 : Grow x H H := .of (Same.refl H)
    refine ⟨_, rfl, S0, A1, b1, false, sg, [], rfl, (fun H' s' => hS H' (.of s')), (fun H' _ => hN1.sq H'), n60, Nat.zero_le _, nd, good, fun H1 sm1 => ?_⟩
    refine ⟨_, rfl, S0, b1, _, rfl, hS H1 (.of sm1), by rw [List.length_map]; exact n6, ?_⟩
    refine ⟨_, rfl, S0, b1, sg, rfl, hS H1 (.of sm1), (fun H' s' => hS H' (.of (sm1.trans s'))), n60, nd, good, fun PL H2 hPL0 hPL2 sm2 => ?_⟩
    have sm02 := sm1.trans sm2
    refine ⟨_, rfl, b2, T0, _, rfl, hT _ (.of sm02), for_it walk_enumB (fun i σ H3 => ∃ o4 o5, σ = [some (.ref x), some (.ref S0), some (.ref T0), some (.ref PL), o4, o5, none, none, none] ∧ Same H2 H3) ⟨_, _, rfl, Same.refl _⟩ (fun i σ H3 _ ⟨_, _, _, sm⟩ => hT _ (.of (sm02.trans sm))) ?_ ?_⟩
    · rintro i y σ H3 H4 hi ⟨o4, o5, rfl, sm⟩ ⟨t, v1, v2, rfl, ht, rfl, hv1, hv2⟩
      have sm3 := sm.trans (same_new (o := .tup [v1, v2]) ht)
      obtain ⟨qs, hqs, g⟩ := paired_get giv i v2 hv2
      have lq := lens qs (List.mem_of_getElem? hqs)
      refine ⟨t, _, rfl, SqT.of upd_same, rfl, _, _, rfl, _, _, rfl, rfl, _, rfl, _, rfl, PL, v2, sg, rfl, sm3 _ _ hPL2, n60, nd, good, .inl ⟨x, qs, g.same (sm02.trans sm3), fun H5 sm5 => ⟨_, rfl, ?_⟩⟩⟩
      rw [decide_eq_true lq]
      exact iteF ⟨_, _, rfl, sm3.trans sm5⟩
    rintro σ H3 ⟨o4, o5, rfl, sm3⟩
    have sm03 := sm02.trans sm3
    have g3 : Grow x H H3 := .of sm03
    have hPL3 := sm3 _ _ hPL2
    have lx : xs.length = qss.length := Paired.length giv
    refine ⟨_, rfl, b2, T0, _, rfl, hT _ g3, fun D hD => dc_it walk_sq (fun i H7 => Same H3 H7 ∧ H7 D = some (.dT ((rowsOf sg (qss.take i)).map rowKv))) ⟨same_new hD, upd_same⟩ (fun i H7 _ hh => hT _ (g3.trans (Grow.of hh.1))) ?_ ?_⟩
    · rintro i v H7 H8 hi ⟨sm7, hD7⟩ ⟨rfl, hv⟩
      obtain ⟨qs, hqs, hq, b', A, t', rfl, ty, kit, sq⟩ := paired_get giv i v hv
      have g7 := g3.trans (Grow.of sm7)
      refine ⟨rfl, _, rfl, _, rfl, PL, A, b', sg, qs.map lit, rfl, sm7 _ _ hPL3, sq _ g7, (fun H' s' => sq _ (g7.trans (Grow.of s'))), n60, nd, good, (fun l hl => ?_), fun t H9 ht ht9 sm9 => ?_⟩
      · obtain ⟨q, hq', rfl⟩ := List.mem_map.mp hl
        exact lit_mem (hq.sub q hq')
      rw [← kV_strs] at ht9
      refine ⟨_, DPut.t (sm9 _ _ hD7) ht9 ?_, fun c o h => (upd_ne (ne_of_none h hD)).trans (sm9 _ _ (sm7 _ _ h)), ?_⟩
      · rw [List.length_map, sizeLine_eq]
        have := rowsOf_len sg (qss.take i)
        have := List.length_take_le i qss
        have := List.length_take_le' i qss
        omega
      · rw [upd_same, row_put, List.take_succ, hqs]
        show _ = some (HO.dT ((rowsOf sg (qss.take i ++ [qs])).map rowKv))
        rw [rowsOf_snoc]
    rintro H7 ⟨sm7, hD7⟩
    rw [lx, List.take_length] at hD7
    have sm07 := sm03.trans sm7
    have hx7 := sm07 _ _ hx
    refine ⟨_, rfl, tup_any (x := x) (fun H' g => hS H' ((Grow.of sm07).trans g)) hx7 fun a H8 sm8 ha => ⟨_, rfl, x, C, dx, [], rfl, sm8 _ _ hx7, T.cl, T.n1, (by show 0 < 1000; decide), ?_⟩⟩
    have g8 : Grow x H (upd H8 x (.ins C dx (putF "names" (.ref a) []))) := (Grow.of (sm07.trans sm8)).trans .put
    refine ⟨_, rfl, _, rfl, x, C, dx, _, rfl, upd_same, T.cl, T.n2, (by show 1 < 1000; decide), ?_⟩
    have g9 := g8.trans (Grow.put (x := x) (o := .ins C dx (putF "places" (.ref PL) (putF "names" (.ref a) []))))
    have g79 : Grow x H7 (upd (upd H8 x (.ins C dx (putF "names" (.ref a) []))) x (.ins C dx (putF "places" (.ref PL) (putF "names" (.ref a) [])))) := ((Grow.of sm8).trans .put).trans .put
    generalize eH9 : upd (upd H8 x (.ins C dx (putF "names" (.ref a) []))) x (.ins C dx (putF "places" (.ref PL) (putF "names" (.ref a) []))) = H9 at g9 g79 ⊢
    have hx9 : H9 x = some (.ins C dx (putF "places" (.ref PL) (putF "names" (.ref a) []))) := eH9 ▸ upd_same
    have nPx : PL ≠ x := ne_of (sm7 _ _ hPL3) hx7 fun z => nomatch z
    have nDx : D ≠ x := ne_of hD7 hx7 fun z => nomatch z
    have hPL9 : H9 PL = some (.dK (plc sg)) := g79 _ _ nPx (sm7 _ _ hPL3)
    have hD9 : H9 D = some (.dT ((rowsOf sg qss).map rowKv)) := g79 _ _ nDx hD7
    refine ⟨_, rfl, S0, b1, sg, rfl, (fun H' s' => hS H' (g9.trans (Grow.of s'))), n6, (fun z hz => (good z hz).2.1), fun p ts Ha hp hpa rows sma => ⟨p, rfl, ⟨_, SqL.of hpa⟩, fun R hR => dc_it walk_list (fun i Hb => Same Ha Hb ∧ Hb R = some (.dT ((((fulls sg).take i).filter fun r => decide (r ∈ rowsOf sg qss)).map rowKv))) ⟨same_new hR, upd_same⟩ (fun i Hb _ hh => SqL.of (hh.1 _ _ hpa)) ?_ ?_⟩⟩
    · rintro i v Hb Hc hi ⟨smb, hRb⟩ ⟨rfl, hv⟩
      obtain ⟨t, ht, rfl⟩ := get_map hv
      obtain ⟨r, hr', hrt⟩ := RowsAt.get rows i t ht
      have ht2 : Hc t = some (.tup ((r.map (Sum.inr : Str → Key)).map kV)) := by
        rw [kV_strs]
        exact smb _ _ hrt
      have er : (fulls sg).take (i + 1) = (fulls sg).take i ++ [r] := by rw [List.take_succ, hr']; rfl
      have g := DGet.t (k := r.map Sum.inr) (smb _ _ (sma _ _ hD9)) ht2
      refine ⟨rfl, _, rfl, _, rfl, D, _, rfl, g, _, rfl, ?_⟩
      have fresh : r ∉ ((fulls sg).take i).filter fun r => decide (r ∈ rowsOf sg qss) := fun q => not_before (fulls_nodup sg) hr' (List.mem_filter.mp q).1
      have lf : (((fulls sg).take i).filter fun r => decide (r ∈ rowsOf sg qss)).length ≤ 64 := by
        have z1 := List.length_filter_le (fun r => decide (r ∈ rowsOf sg qss)) ((fulls sg).take i)
        have z2 := List.length_take_le' i (fulls sg)
        have z3 := fulls_few n6
        omega
      by_cases e : r ∈ rowsOf sg qss
      · rw [row_some _ e]
        refine iteT ⟨_, rfl, _, DPut.t hRb ht2 (by rw [List.length_map, sizeLine_eq]; omega), fun c o h => (upd_ne (ne_of_none h hR)).trans (smb c o h), ?_⟩
        rw [upd_same, row_put, er, List.filter_append]
        unfold addRow
        rw [if_neg fresh, List.filter_cons_of_pos (by rw [decide_eq_true e])]
        rfl
      · rw [row_none _ e]
        refine iteF ⟨smb, ?_⟩
        rw [er, List.filter_append, List.filter_cons_of_neg (by rw [decide_eq_false e]; decide), List.filter_nil, List.append_nil]
        exact hRb
    · rintro Hb ⟨smb, hRb⟩
      rw [List.length_map, Paired.length rows, List.take_length] at hRb
      have sm9b := sma.trans smb
      have hR9 : H9 R = none := sma.free hR
      have hxb := sm9b _ _ hx9
      have nRx : R ≠ x := ne_of hRb hxb fun z => nomatch z
      have g9b : Grow x H9 (upd Hb x (.ins C dx (fl a PL R))) := (Grow.of sm9b).trans .put
      refine ⟨_, rfl, x, C, dx, _, rfl, hxb, T.cl, T.n3, (by show 2 < 1000; decide), k _ R (g9.trans g9b) ⟨dx, a, PL, upd_same, ?_, g9b _ _ nPx hPL9, (upd_ne nRx).trans hRb⟩ ?_⟩
      · intro H' s'
        refine ha H' ?_
        exact (Grow.put.trans (eH9 ▸ Grow.put)).trans (g9b.trans (Grow.of s'))
      · cases hHR : H R with
        | none => rfl
        | some o =>
          have z := g9 _ _ nRx hHR
          rw [hR9] at z
          cases z
end
end K6
namespace K6
open PySem PySem.Spec PyProof.Rows L2 LamX NdefX EV
def spSigns (K : PySem.W.Frag) (C : Addr) : Sp := fun vs H Q _ => ∃ (x r : Addr) (sg : List Str) (rs : List (List Str)), vs = [.ref x] ∧ RuleR K C H x sg rs r ∧ ∀ p, H p = none → Q (.ref p) (upd H p (.lst (sg.map V.str)))
def spSettings (K : PySem.W.Frag) (C : Addr) : Sp := fun vs H Q _ => ∃ (x r : Addr) (sg : List Str) (rs : List (List Str)), vs = [.ref x] ∧ RuleR K C H x sg rs r ∧ ∀ p ts, H p = none → RowsAt H ts rs → Q (.ref p) (upd H p (.lst (ts.map V.ref)))
def spLen (K : PySem.W.Frag) (C : Addr) : Sp := fun vs H Q _ => ∃ (x r : Addr) (sg : List Str) (rs : List (List Str)), vs = [.ref x] ∧ RuleR K C H x sg rs r ∧ Q (.int ((rs.length : Nat) : Int)) H
def spContains (K : PySem.W.Frag) (C : Addr) : Sp := fun vs H Q _ => ∃ (x r : Addr) (v : V) (sg : List Str) (rs : List (List Str)), vs = [.ref x, v] ∧ RuleR K C H x sg rs r ∧ sg.length ≤ 60 ∧ sg.Nodup ∧ (∀ z ∈ sg, Name1 z) ∧
  ((∃ qs, Given K x H sg v qs ∧ ∀ H', Same H H' → Q (.bl (decide (qs.length = sg.length) && decide (asc sg (qs.map lit) ∈ rs))) H') ∨ (Ask K H sg false v ∧ ∀ H', Same H H' → Q (.bl false) H'))
theorem keys_rows {H : Hp} : ∀ (rs : List (List Str)) (bs : List Addr), IsKeys H (rs.map rowKv) bs → RowsAt H bs rs
  | [], [], _ => .nil
  | [], _ :: _, h => nomatch h
  | _ :: _, [], h => nomatch h
  | r :: rs, b :: bs, .cons h t => .cons (by rw [show (rowKv r).1 = r.map Sum.inr from rfl, kV_strs] at h; exact h) (keys_rows rs bs t)
theorem scLen : FnScope ["self"] ["self"] (defScope sLen) := ⟨rfl, rfl, rfl, by decide +kernel, rfl, by decide +kernel, by decide +kernel⟩
theorem scContains : FnScope ["self", "thing"] ["self", "thing"] (defScope sContains) := ⟨rfl, rfl, rfl, by decide +kernel, rfl, by decide +kernel, by decide +kernel⟩
theorem scSigns : FnScope ["self"] ["self"] (defScope sSigns) := ⟨rfl, rfl, rfl, by decide +kernel, rfl, by decide +kernel, by decide +kernel⟩
theorem scSettings : FnScope ["self"] ["self"] (defScope sSettings) := ⟨rfl, rfl, rfl, by decide +kernel, rfl, by decide +kernel, by decide +kernel⟩
/-- what `set(..) == set(..)` and the rows tell: which rows of the one stand in the other -/
def found (sg' : List Str) (rs' rs : List (List Str)) : List Bool := rs.map fun q => decide (asc sg' q ∈ rs')
def leR (sg : List Str) (rs : List (List Str)) (sg' : List Str) (rs' : List (List Str)) : Bool := sameMem sg sg' && (found sg' rs' rs).all id
def eqR (sg : List Str) (rs : List (List Str)) (sg' : List Str) (rs' : List (List Str)) : Bool := leR sg rs sg' rs' && decide (rs.length = rs'.length)
/-- a row of a rule: one literal for each sign -/
def FullOf (ns r : List Str) : Prop := ∃ qs, Lits ns qs ∧ qs.length = ns.length ∧ r = qs.map lit
def spLe (K : PySem.W.Frag) (C : Addr) : Sp := fun vs H Q _ => ∃ (x y : Addr) (sg sg' : List Str) (rs rs' : List (List Str)) (r r' : Addr), vs = [.ref x, .ref y] ∧ RuleR K C H x sg rs r ∧ RuleR K C H y sg' rs' r' ∧ r ≠ r' ∧ sg.length ≤ 60 ∧ sg'.length ≤ 60 ∧ sg.Nodup ∧ sg'.Nodup ∧ (∀ z ∈ sg', Name1 z) ∧ (∀ q ∈ rs, FullOf sg q) ∧ rs.length ≤ 1000 ∧
  ∀ H', Same H H' → Q (.bl (leR sg rs sg' rs')) H'
def spEq (K : PySem.W.Frag) (C : Addr) : Sp := fun vs H Q _ => ∃ (x : Addr) (v : V) (sg : List Str) (rs : List (List Str)) (r : Addr), vs = [.ref x, v] ∧ RuleR K C H x sg rs r ∧ sg.length ≤ 60 ∧ sg.Nodup ∧ (∀ q ∈ rs, FullOf sg q) ∧ rs.length ≤ 1000 ∧
  ((∃ (y : Addr) (sg' : List Str) (rs' : List (List Str)) (r' : Addr), v = .ref y ∧ RuleR K C H y sg' rs' r' ∧ r ≠ r' ∧ sg'.length ≤ 60 ∧ sg'.Nodup ∧ (∀ z ∈ sg', Name1 z) ∧ ∀ H', Same H H' → Q (.bl (eqR sg rs sg' rs')) H')
   ∨ ((∃ t, TyX K H v t ∧ PySem.W.kitOne K t (.ref C) = some false) ∧ ∀ H', Same H H' → Q (.bl false) H'))
section
variable {P : Program} {w : World} {K : PySem.W.Frag} {mg : Str → Option Value} {base : Heap} {f fI fL C : Addr} {fd fdI fdL : FuncData}
theorem ok_signs (F : Fun K "signs" "Rule.signs" sSigns f fd) (T : RTxt K mg C) : FnOk P w K mg base CX0 1 f fd ["self"] (spSigns K C) := by
  refine F.ok scSigns (fun vs H Q E h => ?_) (fun cdv A' outer s H vs Q E hr h => ?_)
  · obtain ⟨x, r, sg, rs, rfl, _⟩ := h
    rfl
  · obtain ⟨x, r, sg, rs, rfl, ⟨dx, a, pl, hx, ha, _⟩, k⟩ := h
    refine ⟨_, pss_one (ps_ret (pe_callTy call_list_of (by rfl) T.list (by decide +kernel) (pa_cons (pe_fld (pv 0) rfl) pa_nil))), ?_⟩
    exact ⟨_, rfl, x, C, dx, _, _, rfl, hx, T.cl, T.n1, fl1 .., a, _, rfl, .inr (ha H (Same.refl H)), k⟩
theorem ok_settings (F : Fun K "settings" "Rule.settings" sSettings f fd) (T : RTxt K mg C) : FnOk P w K mg base CX0 1 f fd ["self"] (spSettings K C) := by
  refine F.ok scSettings (fun vs H Q E h => ?_) (fun cdv A' outer s H vs Q E hr h => ?_)
  · obtain ⟨x, r, sg, rs, rfl, _⟩ := h
    rfl
  · obtain ⟨x, r, sg, rs, rfl, ⟨dx, a, pl, hx, _, _, hr4⟩, k⟩ := h
    refine ⟨_, pss_one (ps_ret (pe_callTy (call_list_dT rfl) (by rfl) T.list (by decide +kernel) (pa_cons (pe_fld (pv 0) rfl) pa_nil))), ?_⟩
    refine ⟨_, rfl, x, C, dx, _, _, rfl, hx, T.cl, T.n3, fl3 .., r, _, rfl, .inl hr4, fun p bs hp hk => k p bs hp ?_⟩
    exact keys_rows rs bs hk
theorem ok_len (F : Fun K "__len__" "Rule.__len__" sLen f fd) (T : RTxt K mg C) : FnOk P w K mg base CX0 1 f fd ["self"] (spLen K C) := by
  refine F.ok scLen (fun vs H Q E h => ?_) (fun cdv A' outer s H vs Q E hr h => ?_)
  · obtain ⟨x, r, sg, rs, rfl, _⟩ := h
    rfl
  · obtain ⟨x, r, sg, rs, rfl, ⟨dx, a, pl, hx, _, _, hr4⟩, k⟩ := h
    refine ⟨_, pss_one (ps_ret (pe_callB call_len_dT (by rfl) T.len PySem.boot_len (pa_cons (pe_fld (pv 0) rfl) pa_nil))), ?_⟩
    refine ⟨_, rfl, x, C, dx, _, _, rfl, hx, T.cl, T.n3, fl3 .., r, _, rfl, hr4, ?_⟩
    rw [List.length_map]
    exact k
theorem ok_contains {fC fO : Addr} {fdC fdO : FuncData} (F : Fun K "__contains__" "Rule.__contains__" sContains f fd) (T : RTxt K mg C)
    (GC : FnOk P w K mg base CX0 4 fC fdC ["places", "thing"] (spIsFull K)) (mC : mg "is_full" = some (.ref fC)) (kC : PySem.W.keepIn K (.ref fC) = true) (bC : L2.Binds K fdC ["places", "thing"] [])
    (GO : FnOk P w K mg base CX0 1 fO fdO ["places", "literals"] (spInOrder K)) (mO : mg "in_order" = some (.ref fO)) (kO : PySem.W.keepIn K (.ref fO) = true) (bO : L2.Binds K fdO ["places", "literals"] []) :
    FnOk P w K mg base CX0 5 f fd ["self", "thing"] (spContains K C) := by
  refine F.ok scContains (fun vs H Q E h => ?_) (fun cdv A' outer s H vs Q E hr h => ?_)
  · obtain ⟨x, r, v, sg, rs, rfl, _⟩ := h
    rfl
  · obtain ⟨x, r, v, sg, rs, rfl, ⟨dx, a, pl, hx, _, hpl, hr4⟩, hn, nd, good, way⟩ := h
    have hu := hu_of hr
    have hr1 : Room 1 _ := hr.mono (by decide)
    refine ⟨_, pss_one (ps_ret (pe_and (pe_call GC hr (by rfl) mC kC bC .nil pass0 (pa_cons (pe_fld (pv 0) rfl) (pa_cons (pv 1) pa_nil))) (pe_one (pe_cmp (pc_din hu (pe_call GO hr1 (by rfl) mO kO bO .nil pass0 (pa_cons (pe_fld (pv 0) rfl) (pa_cons (pv 1) pa_nil))) (pe_fld (pv 0) rfl)))))), ?_⟩
    refine ⟨_, rfl, x, C, dx, _, _, rfl, hx, T.cl, T.n2, fl2 .., _, rfl, ?_⟩
    rcases way with ⟨qs, giv, k⟩ | ⟨ask, k⟩
    · refine ⟨pl, v, sg, rfl, hpl, hn, nd, good, .inl ⟨x, qs, giv, fun H1 sm1 => ⟨_, rfl, ?_⟩⟩⟩
      cases el : decide (qs.length = sg.length) with
      | false =>
        have z := k H1 sm1
        rw [el] at z
        exact iteF z
      | true =>
        refine iteT ?_
        obtain ⟨hq, b', A, t, rfl, ty, kit, sq⟩ := giv
        refine ⟨_, rfl, x, C, dx, _, _, rfl, sm1 _ _ hx, T.cl, T.n2, fl2 .., _, rfl, pl, A, b', sg, qs.map lit, rfl, sm1 _ _ hpl, sq _ (.of sm1), (fun H' s' => sq _ (.of (sm1.trans s'))), hn, nd, good, (fun l hl => ?_), fun t1 H2 ht ht2 sm2 => ?_⟩
        · obtain ⟨q, hq', rfl⟩ := List.mem_map.mp hl
          exact lit_mem (hq.sub q hq')
        rw [← kV_strs] at ht2
        have sm := sm1.trans sm2
        have g := DGet.t (k := (asc sg (qs.map lit)).map Sum.inr) (sm _ _ hr4) ht2
        refine ⟨_, rfl, x, C, dx, _, _, rfl, sm _ _ hx, T.cl, T.n3, fl3 .., r, _, rfl, g, ?_⟩
        by_cases e : asc sg (qs.map lit) ∈ rs
        · rw [row_some rs e]
          have z := k H2 sm
          rwa [el, decide_eq_true e] at z
        · rw [row_none rs e]
          have z := k H2 sm
          rwa [el, decide_eq_false e] at z
    · exact ⟨pl, v, sg, rfl, hpl, hn, nd, good, .inr ⟨ask, fun H1 sm1 => ⟨_, rfl, iteF (k H1 sm1)⟩⟩⟩
abbrev nLe : List Str := ["self", "other", "row"]
theorem scLe : FnScope nLe ["self", "other"] (defScope sLe) := ⟨rfl, rfl, rfl, by decide +kernel, rfl, by decide +kernel, by decide +kernel⟩
theorem ok_le (F : Fun K "__le__" "Rule.__le__" sLe f fd) (T : RTxt K mg C) (ma : mg "all" = none) (ms : mg "set" = none)
    (GI : FnOk P w K mg base CX0 5 fI fdI ["self", "thing"] (spContains K C)) (hs : PySem.W.findIn K (.ref C) "__contains__" = some (some (.ref fI))) (hf : PySem.W.isFn K (.ref fI) = true) (bI : L2.Binds K fdI ["self", "thing"] []) :
    FnOk P w K mg base CX0 6 f fd ["self", "other"] (spLe K C) := by
  refine F.ok scLe (fun vs H Q E h => ?_) (fun cdv A' outer s H vs Q E hr h => ?_)
  · obtain ⟨x, y, sg, sg', rs, rs', r, r', rfl, _⟩ := h
    rfl
  · obtain ⟨x, y, sg, sg', rs, rs', r, r', rfl, cx, cy, ner, n1, n2, d1, d2, good', rows, few, k⟩ := h
    have hu := Nat.lt_of_succ_lt (hu_of hr)
    have hr5 : Room 5 _ := hr.mono (by decide)
    refine ⟨_, pss_one (ps_ret (pe_and (pe_cmpR (op_eqX hu) (pe_callTy (cr_setX rfl) (by rfl) ms (by decide +kernel) (pa_cons (pe_fld (pv 0) rfl) pa_nil)) (pe_callTy (cr_setX rfl) (by rfl) ms (by decide +kernel) (pa_cons (pe_fld (pv 1) rfl) pa_nil)) (nomark _))
      (pe_one (pe_callB (cr_all rfl) (by rfl) ma (by decide +kernel) (pa_cons (pe_lock (pe_lc (own := [("row", 2)]) (g := gName 2) (tt := tYes) rfl scLe.nd (pi_keys (pe_fld (pv 0) rfl)) (blkOk_by (N := nLe) (sc := defScope sLe) (by decide +kernel))
          (fun _ _ _ _ _ => pg_name (i := 2) scLe.nd rfl (.inl rfl)) (fun _ _ _ _ _ => pts_nil) (fun _ _ _ _ _ => pe_cmpR (op_inOwn GI hs hf bI pass0 hr5) (pv 2) (pv 1) rfl))) pa_nil))))), ?_⟩
    obtain ⟨dx, a, pl, hx, ha, _, hr4⟩ := cx.at_
    obtain ⟨dy, a', pl', hy, ha', _, hr4'⟩ := cy.at_
    refine ⟨_, rfl, x, C, dx, _, _, rfl, hx, T.cl, T.n1, fl1 .., a, sg, rfl, ha H (Same.refl H), d1, by omega, fun p hp0 => ?_⟩
    have sm1 : Same H _ := same_new (o := SetX P w p sg) hp0
    refine ⟨_, rfl, y, C, dy, _, _, rfl, sm1 _ _ hy, T.cl, T.n1, fl1 .., a', sg', rfl, ha' _ sm1, d2, by omega, fun q hq0 => ?_⟩
    have sm2 : Same H _ := sm1.trans (same_new (o := SetX P w q sg') hq0)
    refine ⟨p, q, sg, sg', rfl, rfl, (upd_ne (ne_of_none upd_same hq0)).trans upd_same, upd_same, _, rfl, ?_⟩
    generalize hX : upd (upd H p (SetX _ _ p sg)) q (SetX _ _ q sg') = H1
    replace sm2 : Same H H1 := by
      rw [← hX]
      exact sm2
    cases h1 : sameMem sg sg' with
    | false =>
      refine iteF ?_
      have z := k _ sm2
      unfold leR at z
      rw [h1] at z
      exact z
    | true =>
      have sub : ∀ z ∈ sg, z ∈ sg' := mem_same h1
      have len := (sameMem_iff.mp h1).1
      have hd1 := sm2 _ _ hr4
      have cy1 := cy.same sm2
      have hx1 := sm2 _ _ hx
      have nxr : x ≠ r := ne_of hx1 hd1 fun z => nomatch z
      refine iteT ⟨r, _, hd1, trivial, fun od => ?_⟩
      have g0 : Grow r H1 (upd H1 r (.frz od (.dT (rs.map rowKv)))) := Grow.put
      refine ⟨_, rfl, x, C, dx, _, _, rfl, (upd_ne nxr).trans hx1, T.cl, T.n3, fl3 .., r, od, rfl, .inr ⟨_, upd_same, fun L hL => lc_it walk_keysT (fun i H2 => H2 r = some (.frz od (.dT (rs.map rowKv))) ∧ H2 L = some (.lst ((found sg' rs' (rs.take i)).map V.bl)) ∧ Grow r H1 H2) ?_ (fun i H2 _ hh => hh.1) ?_ ?_⟩⟩
      · have nrL : r ≠ L := ne_of_none (show upd H1 r (.frz od (.dT (rs.map rowKv))) r = some _ from upd_same) hL
        refine ⟨(upd_ne nrL).trans upd_same, ?_, fun c o nc e => (upd_ne (ne_of_none (g0 c o nc e) hL)).trans (g0 c o nc e)⟩
        rw [upd_same]
        rfl
      · rintro i v H2 H3 hi ⟨hr2, hL2, g2⟩ ⟨rfl, kk, vv, q, hkv, rfl, hq⟩
        obtain ⟨row, hrow, ekv⟩ := get_map hkv
        injection ekv with ek ev
        rw [ek, kV_strs] at hq
        obtain ⟨qs, hqs, lq, rfl⟩ := rows row (List.mem_of_getElem? hrow)
        have cy2 := cy1.off hd1 ner.symm g2
        obtain ⟨dy2, _, _, hy2, _⟩ := cy2.at_
        have nqy : q ≠ y := ne_of hq hy2 fun z => nomatch z
        refine ⟨rfl, _, rfl, _, rfl, y, dy2, _, rfl, hy2, y, r', .ref q, sg', rs', rfl, cy2, n2, d2, good', .inl ⟨qs, ⟨hqs.names sub, false, q, .type "tuple", rfl, fun H' g => .base (.tup (g _ _ nqy hq)), kit_seq false, fun H' g => Sq.tup (g _ _ nqy hq)⟩, fun H4 sm4 => ⟨_, rfl, ?_⟩⟩⟩
        rw [decide_eq_true (lq.trans len)]
        refine ⟨_, sm4 _ _ hL2, by rw [List.length_map]; unfold found; rw [List.length_map, List.length_take, sizeLine_eq]; omega, ?_, ?_, ?_⟩
        · have nrL : r ≠ L := ne_of hr2 hL2 fun z => nomatch z
          exact (upd_ne nrL).trans (sm4 _ _ hr2)
        · rw [upd_same, List.take_succ, hrow]
          unfold found
          rw [List.map_append, List.map_append]
          rfl
        · intro c o nc e
          have z := sm4 _ _ (g2 c o nc e)
          have hL1 : H1 L = none := by
            have y := hL
            rwa [upd_ne (ne_of_none (show upd H1 r (.frz od (.dT (rs.map rowKv))) r = some _ from upd_same) hL).symm] at y
          exact (upd_ne (ne_of_none e hL1)).trans z
      · rintro H2 ⟨hr2, hL2, g2⟩
        have nrL : L ≠ r := ne_of hL2 hr2 fun z => nomatch z
        refine ⟨hr2, L, _, rfl, SqL.of ((upd_ne nrL).trans hL2), ?_⟩
        have sm3 : Same H1 (upd H2 r (.dT (rs.map rowKv))) := fun c o e => by
          by_cases q : c = r
          · rw [q, hd1] at e
            rw [q, upd_same, e]
          · exact (upd_ne q).trans (g2 c o q e)
        have z := k _ (sm2.trans sm3)
        unfold leR at z
        rw [List.length_map, List.take_length]
        rw [h1] at z
        exact z
abbrev nEq : List Str := ["self", "other"]
theorem scEq : FnScope nEq ["self", "other"] (defScope sEq) := ⟨rfl, rfl, rfl, by decide +kernel, rfl, by decide +kernel, by decide +kernel⟩
theorem ok_eq (F : Fun K "__eq__" "Rule.__eq__" sEq f fd) (T : RTxt K mg C) (TI : CIs K C) (nf : PySem.W.notFirst K C (.ref C) = true) (mi : mg "isinstance" = none)
    (GL : FnOk P w K mg base CX0 6 fL fdL ["self", "other"] (spLe K C)) (hs : PySem.W.findIn K (.ref C) "__le__" = some (some (.ref fL))) (hf : PySem.W.isFn K (.ref fL) = true) (bL : L2.Binds K fdL ["self", "other"] []) :
    FnOk P w K mg base CX0 7 f fd ["self", "other"] (spEq K C) := by
  refine F.ok scEq (fun vs H Q E h => ?_) (fun cdv A' outer s H vs Q E hr h => ?_)
  · obtain ⟨x, v, sg, rs, r, rfl, _⟩ := h
    rfl
  · obtain ⟨x, v, sg, rs, r, rfl, cx, hn, nd, rows, few, way⟩ := h
    have hr6 : Room 6 _ := hr.mono (by decide)
    refine ⟨_, pss_one (ps_ret (pe_and (pe_callB call_isi (by rfl) mi (by decide +kernel) (pa_cons (pv 1) (pa_cons (pe_glob (v := .ref C) (by rfl) T.mgC rfl) pa_nil)))
        (pe_and (pe_cmpR (op_leOwn GL hs hf bL pass0 hr6) (pv 0) (pv 1) (nomark _))
        (pe_one (pe_cmpR op_eq (pe_callB call_len_dT (by rfl) T.len PySem.boot_len (pa_cons (pe_fld (pv 0) rfl) pa_nil)) (pe_callB call_len_dT (by rfl) T.len PySem.boot_len (pa_cons (pe_fld (pv 1) rfl) pa_nil)) (nomark _)))))), ?_⟩
    obtain ⟨dx, a, pl, hx, _, _, hr4⟩ := cx.at_
    rcases way with ⟨y, sg', rs', r', rfl, cy, ner, hn', nd', good', k⟩ | ⟨⟨t, ty, kit⟩, k⟩
    · obtain ⟨dy, a', pl', hy, _, _, hr4'⟩ := cy.at_
      have tyy : TyX K H (.ref y) (.ref C) := .base (.ins hy T.cl TI.cl TI.gt TI.tk TI.ob)
      refine ⟨_, rfl, .ref y, .ref C, _, _, true, rfl, .own C, tyy, by show (if (Value.ref C == Value.ref C) = true then _ else _) = _; rw [if_pos (by simp)], _, rfl, ?_⟩
      refine iteT ⟨_, rfl, _, rfl, .ref C, tyy, nf, x, dx, _, rfl, hx, x, y, sg, sg', rs, rs', r, r', rfl, cx, cy, ner, hn, hn', nd, nd', good', rows, few, fun H1 sm1 => ⟨_, rfl, _, rfl, ?_⟩⟩
      cases e1 : leR sg rs sg' rs' with
      | false =>
        have z := k H1 sm1
        unfold eqR at z
        rw [e1] at z
        exact iteF z
      | true =>
        refine iteT ⟨_, rfl, x, C, dx, _, _, rfl, sm1 _ _ hx, T.cl, T.n3, fl3 .., r, _, rfl, sm1 _ _ hr4, _, rfl, y, C, dy, _, _, rfl, sm1 _ _ hy, T.cl, T.n3, fl3 .., r', _, rfl, sm1 _ _ hr4', rfl, ?_⟩
        have eL : decide (V.int (((rs.map rowKv).length : Nat) : Int) = V.int (((rs'.map rowKv).length : Nat) : Int)) = decide (rs.length = rs'.length) := by
          rw [List.length_map, List.length_map]
          refine decide_eq_decide.mpr ⟨fun h => ?_, fun h => by rw [h]⟩
          injection h with h
          omega
        show Q (.bl (decide (V.int (((rs.map rowKv).length : Nat) : Int) = V.int (((rs'.map rowKv).length : Nat) : Int)))) H1
        rw [eL]
        have z := k H1 sm1
        unfold eqR at z
        rw [e1] at z
        exact z
    · exact ⟨_, rfl, v, .ref C, _, _, false, rfl, .own C, ty, kit, _, rfl, iteF (k H (Same.refl H))⟩
end
end K6
namespace K6
open PySem PySem.Spec PyProof.Rows L2 LamX NdefX EV
/-! ### half-filled settings by their lengths, in order -/
abbrev QL := List (Bool × Str)
/-- the names behind a name -/
def behN : List Str → Str → List Str
  | [], _ => []
  | m :: r, n => if m = n then r else behN r n
/-- what may follow: both literals of each name behind the last one -/
def nexts (ns : List Str) (qs : QL) : QL := match qs.getLast? with
  | none => pairs ns
  | some q => pairs (behN ns q.2)
def level (ns : List Str) : Nat → List QL
  | 0 => [[]]
  | k + 1 => (level ns k).flatMap fun qs => (nexts ns qs).map fun q => qs ++ [q]
theorem behN_sub : ∀ (ns : List Str) (n : Str), (behN ns n).Sublist ns
  | [], _ => List.Sublist.refl _
  | m :: r, n => by
    unfold behN
    split
    · exact List.sublist_cons_self m r
    · exact (behN_sub r n).cons m
theorem behN_in : ∀ (ns a : List Str) (m n : Str), ns.Nodup → (a ++ [m]).Sublist ns → n ∈ behN ns m → (a ++ [m] ++ [n]).Sublist ns
  | [], a, m, n, _, s, h => nomatch h
  | x :: r, a, m, n, nd, s, h => by
    obtain ⟨nx, ndr⟩ := List.nodup_cons.mp nd
    unfold behN at h
    by_cases e : x = m
    · rw [if_pos e] at h
      subst e
      -- x stands ahead of all of r: a is empty
      have ea : a = [] := by
        cases a with
        | nil => rfl
        | cons y a =>
          exfalso
          cases s with
          | cons _ s' => exact nx (s'.subset (List.mem_append_right _ (List.mem_singleton.mpr rfl)))
          | cons_cons _ s' => exact nx (s'.subset (List.mem_append_right _ (List.mem_singleton.mpr rfl)))
      subst ea
      exact List.Sublist.cons_cons x (List.singleton_sublist.mpr h)
    · rw [if_neg e] at h
      cases a with
      | nil =>
        cases s with
        | cons _ s' => exact (behN_in r [] m n ndr s' h).cons x
        | cons_cons _ s' => exact (e rfl).elim
      | cons y a =>
        cases s with
        | cons _ s' => exact (behN_in r (y :: a) m n ndr s' h).cons x
        | cons_cons _ s' => exact (behN_in r a m n ndr s' h).cons_cons x
theorem behN_of : ∀ (ns a : List Str) (m n : Str), ns.Nodup → (a ++ [m] ++ [n]).Sublist ns → n ∈ behN ns m
  | [], a, m, n, _, s => by
    have := List.sublist_nil.mp s
    simp at this
  | x :: r, a, m, n, nd, s => by
    obtain ⟨nx, ndr⟩ := List.nodup_cons.mp nd
    unfold behN
    by_cases e : x = m
    · rw [if_pos e]
      subst e
      cases a with
      | nil =>
        cases s with
        | cons _ s' => exact (nx (s'.subset List.mem_cons_self)).elim
        | cons_cons _ s' => exact s'.subset List.mem_cons_self
      | cons y a =>
        exfalso
        cases s with
        | cons _ s' => exact nx (s'.subset (by simp))
        | cons_cons _ s' => exact nx (s'.subset (by simp))
    · rw [if_neg e]
      cases a with
      | nil =>
        cases s with
        | cons _ s' => exact behN_of r [] m n ndr s'
        | cons_cons _ s' => exact (e rfl).elim
      | cons y a =>
        cases s with
        | cons _ s' => exact behN_of r (y :: a) m n ndr s'
        | cons_cons _ s' => exact behN_of r a m n ndr s'
/-- ascending: one literal of some names, in their order -/
def Half (ns : List Str) (qs : QL) : Prop := (qs.map Prod.snd).Sublist ns
theorem Half.sub {ns : List Str} {ps qs : QL} (h : Half ns qs) (s : ps.Sublist qs) : Half ns ps := (s.map Prod.snd).trans h
theorem Half.lits {ns : List Str} {qs : QL} (h : Half ns qs) (nd : ns.Nodup) : Lits ns qs := ⟨h.nodup nd, fun q hq => h.subset (List.mem_map_of_mem hq)⟩
theorem half_snoc {ns : List Str} (nd : ns.Nodup) {qs : QL} {q : Bool × Str} : Half ns (qs ++ [q]) ↔ Half ns qs ∧ q ∈ nexts ns qs := by
  unfold nexts
  rcases List.eq_nil_or_concat qs with rfl | ⟨ps, p, rfl⟩
  · simp only [List.getLast?_nil, pairs_mem]
    show ([q.2] : List Str).Sublist ns ↔ _
    rw [List.singleton_sublist]
    exact ⟨fun h => ⟨List.nil_sublist _, h⟩, fun h => h.2⟩
  · rw [List.concat_eq_append, List.getLast?_append]
    simp only [List.getLast?_singleton, Option.some_or, pairs_mem]
    unfold Half
    simp only [List.map_append, List.map_cons, List.map_nil]
    exact ⟨fun h => ⟨(List.sublist_append_left _ _).trans h, behN_of ns _ _ _ nd h⟩, fun h => behN_in ns _ _ _ nd h.1 h.2⟩
theorem mem_level {ns : List Str} (nd : ns.Nodup) : ∀ (k : Nat) (qs : QL), qs ∈ level ns k ↔ qs.length = k ∧ Half ns qs
  | 0, qs => by
    unfold level
    rw [List.mem_singleton]
    constructor
    · rintro rfl
      exact ⟨rfl, List.nil_sublist _⟩
    · exact fun h => List.eq_nil_of_length_eq_zero h.1
  | k + 1, qs => by
    unfold level
    rw [List.mem_flatMap]
    constructor
    · rintro ⟨ps, hp, h⟩
      obtain ⟨q, hq, rfl⟩ := List.mem_map.mp h
      obtain ⟨h1, h2⟩ := (mem_level nd k ps).mp hp
      exact ⟨by rw [List.length_append, h1]; rfl, (half_snoc nd).mpr ⟨h2, hq⟩⟩
    · rintro ⟨h1, h2⟩
      rcases List.eq_nil_or_concat qs with rfl | ⟨ps, p, rfl⟩
      · cases h1
      · rw [List.concat_eq_append] at *
        obtain ⟨h3, h4⟩ := (half_snoc nd).mp h2
        rw [List.length_append, List.length_singleton] at h1
        exact ⟨ps, (mem_level nd k ps).mpr ⟨by omega, h3⟩, List.mem_map.mpr ⟨p, h4, rfl⟩⟩
theorem pairs_nd : ∀ ns : List Str, ns.Nodup → (pairs ns).Nodup
  | [], _ => List.nodup_nil
  | n :: r, nd => by
    obtain ⟨h1, h2⟩ := List.nodup_cons.mp nd
    have ih := pairs_nd r h2
    show ((false, n) :: (true, n) :: pairs r).Nodup
    refine List.nodup_cons.mpr ⟨fun m => ?_, List.nodup_cons.mpr ⟨fun m => h1 (pairs_mem.mp m), ih⟩⟩
    rcases List.mem_cons.mp m with e | m
    · cases e
    · exact h1 (pairs_mem.mp m)
theorem nexts_nd {ns : List Str} (nd : ns.Nodup) (qs : QL) : (nexts ns qs).Nodup := by
  unfold nexts
  split
  · exact pairs_nd ns nd
  · exact pairs_nd _ ((behN_sub _ _).nodup nd)
theorem level_nd {ns : List Str} (nd : ns.Nodup) : ∀ k : Nat, (level ns k).Nodup
  | 0 => by unfold level; simp
  | k + 1 => by
    unfold level
    refine List.pairwise_flatMap.mpr ⟨fun ps _ => List.pairwise_map.mpr ((nexts_nd nd ps).imp fun {a b} h e => h ?_), (level_nd nd k).imp fun {a b} h x hx y hy e => h ?_⟩
    · have z := List.append_inj_right e rfl
      exact List.cons.inj z |>.1
    · obtain ⟨q, _, rfl⟩ := List.mem_map.mp hx
      obtain ⟨r, _, rfl⟩ := List.mem_map.mp hy
      exact (List.append_inj' e rfl).1
end K6
namespace K6
open PySem PySem.Spec PyProof.Rows L2 LamX NdefX EV
/-! ### consequences of rows, the shortest of them -/
/-- each row has a literal of the clause -/
def Cons (rs : List (List Str)) (c : QL) : Prop := ∀ r ∈ rs, ∃ q ∈ c, lit q ∈ r
def consB (rs : List (List Str)) (c : QL) : Bool := rs.all fun r => c.any fun q => decide (lit q ∈ r)
theorem consB_iff {rs : List (List Str)} {c : QL} : consB rs c = true ↔ Cons rs c := by
  unfold consB Cons
  rw [List.all_eq_true]
  refine forall_congr' fun r => imp_congr_right fun _ => ?_
  rw [List.any_eq_true]
  exact ⟨fun ⟨q, h1, h2⟩ => ⟨q, h1, of_decide_eq_true h2⟩, fun ⟨q, h1, h2⟩ => ⟨q, h1, decide_eq_true h2⟩⟩
theorem Cons.up {rs : List (List Str)} {c d : QL} (h : Cons rs c) (s : ∀ q ∈ c, q ∈ d) : Cons rs d := fun r hr => by
  obtain ⟨q, h1, h2⟩ := h r hr
  exact ⟨q, s q h1, h2⟩
/-- without one literal -/
def without (c : QL) (l : Bool × Str) : QL := c.filter fun q => decide (q ≠ l)
def primeB (rs : List (List Str)) (c : QL) : Bool := consB rs c && c.all fun l => !consB rs (without c l)
theorem primeB_iff {rs : List (List Str)} {c : QL} : primeB rs c = true ↔ Cons rs c ∧ ∀ l ∈ c, ¬ Cons rs (without c l) := by
  unfold primeB
  rw [Bool.and_eq_true, consB_iff, List.all_eq_true]
  refine and_congr_right fun _ => forall_congr' fun l => imp_congr_right fun _ => ?_
  rw [← consB_iff]
  cases consB rs (without c l) <;> simp
/-- what is a part, but not all, is a part of what lacks one -/
theorem part_without {c p : QL} {l : Bool × Str} (s : ∀ q ∈ p, q ∈ c) (h : l ∉ p) : ∀ q ∈ p, q ∈ without c l := fun q hq =>
  List.mem_filter.mpr ⟨s q hq, decide_eq_true fun e => h (e ▸ hq)⟩
theorem prime_part {rs : List (List Str)} {c p : QL} (pr : primeB rs c = true) (s : ∀ q ∈ p, q ∈ c) (cp : Cons rs p) : ∀ q ∈ c, q ∈ p := fun l hl => Classical.byContradiction fun n =>
  (primeB_iff.mp pr).2 l hl (cp.up (part_without s n))
theorem half_eq {ns : List Str} (nd : ns.Nodup) : ∀ {c p : QL}, Half ns c → Half ns p → (∀ q, q ∈ c ↔ q ∈ p) → c = p := by
  -- both are the pairs of ns filtered by membership
  have key : ∀ {ns : List Str} {c : QL}, ns.Nodup → Half ns c → c = (pairs ns).filter fun q => decide (q ∈ c) := by
    intro ns
    induction ns with
    | nil =>
      intro c _ h
      have e : c.map Prod.snd = [] := List.sublist_nil.mp h
      have e2 : c = [] := by simpa using e
      subst e2
      rfl
    | cons n r ih =>
      intro c nd h
      obtain ⟨nn, ndr⟩ := List.nodup_cons.mp nd
      have far : ∀ {d : QL}, Half r d → ∀ b, (b, n) ∉ d := fun hd b m => nn (hd.subset (List.mem_map_of_mem (f := Prod.snd) m))
      show c = ((false, n) :: (true, n) :: pairs r).filter fun q => decide (q ∈ c)
      cases c with
      | nil =>
        rw [List.filter_cons_of_neg (by simp), List.filter_cons_of_neg (by simp)]
        exact ih ndr (List.nil_sublist _)
      | cons q d =>
        have other : ∀ d' : QL, (∀ z ∈ pairs r, (z ∈ q :: d ↔ z ∈ d')) → (pairs r).filter (fun z => decide (z ∈ q :: d)) = (pairs r).filter fun z => decide (z ∈ d') := fun d' e => List.filter_congr fun z hz => decide_eq_decide.mpr (e z hz)
        cases h with
        | cons _ h' =>
          rw [List.filter_cons_of_neg (by rw [decide_eq_false (far h' false)]; decide), List.filter_cons_of_neg (by rw [decide_eq_false (far h' true)]; decide)]
          exact ih ndr h'
        | cons_cons _ h' =>
          obtain ⟨b, m⟩ := q
          have hd : Half r d := h'
          have tl : d = (pairs r).filter fun z => decide (z ∈ (b, m) :: d) := by
            rw [other d fun z hz => ⟨fun y => (List.mem_cons.mp y).resolve_left fun e => nn (by rw [e] at hz; exact pairs_mem.mp hz), List.mem_cons_of_mem _⟩]
            exact ih ndr hd
          cases b
          · rw [List.filter_cons_of_pos (by simp), List.filter_cons_of_neg (by rw [decide_eq_false fun y => (List.mem_cons.mp y).elim (fun e => absurd (show true = false from congrArg Prod.fst e) (by decide)) (far hd true)]; decide), ← tl]
          · rw [List.filter_cons_of_neg (by rw [decide_eq_false fun y => (List.mem_cons.mp y).elim (fun e => absurd (show false = true from congrArg Prod.fst e) (by decide)) (far hd false)]; decide), List.filter_cons_of_pos (by simp), ← tl]
  intro c p hc hp e
  rw [key nd hc, key nd hp]
  exact List.filter_congr fun q _ => decide_eq_decide.mpr (e q)
/-- in each consequence lies a shortest one -/
theorem prime_in {ns : List Str} {rs : List (List Str)} : ∀ (k : Nat) (c : QL), c.length ≤ k → Half ns c → Cons rs c → ∃ p : QL, p.Sublist c ∧ primeB rs p = true
  | 0, c, hk, hh, hc => by
    have e : c = [] := List.eq_nil_of_length_eq_zero (Nat.le_zero.mp hk)
    subst e
    exact ⟨[], List.Sublist.refl _, primeB_iff.mpr ⟨hc, fun l h => nomatch h⟩⟩
  | k + 1, c, hk, hh, hc => by
    by_cases h : ∃ l ∈ c, Cons rs (without c l)
    · obtain ⟨l, hl, hc'⟩ := h
      have s : (without c l).Sublist c := List.filter_sublist
      have lt : (without c l).length < c.length := by
        refine Nat.lt_of_le_of_ne s.length_le fun e => ?_
        have z := s.eq_of_length e
        rw [← z] at hl
        exact of_decide_eq_true (List.mem_filter.mp hl).2 rfl
      obtain ⟨p, h1, h2⟩ := prime_in k _ (by omega) (hh.sub s) hc'
      exact ⟨p, h1.trans s, h2⟩
    · exact ⟨c, List.Sublist.refl _, primeB_iff.mpr ⟨hc, fun l hl q => h ⟨l, hl, q⟩⟩⟩
end K6
namespace K6
open PySem PySem.Spec PyProof.Rows L2 LamX NdefX EV
/-! ### the program's way to the shortest consequences -/
def ext1 (ns : List Str) (c : QL) : List QL := (nexts ns c).map fun q => c ++ [q]
theorem level_succ (ns : List Str) (k : Nat) : level ns (k + 1) = (level ns k).flatMap (ext1 ns) := rfl
def parts (ns : List Str) (rs : List (List Str)) : Nat → List QL
  | 0 => [[]]
  | k + 1 => ((parts ns rs k).filter fun c => !consB rs c).flatMap (ext1 ns)
/-- no beginning is a consequence -/
def noPre (rs : List (List Str)) (c : QL) : Bool := (List.range c.length).all fun i => !consB rs (c.take i)
theorem noPre_snoc {rs : List (List Str)} {c : QL} {q : Bool × Str} : noPre rs (c ++ [q]) = (noPre rs c && !consB rs c) := by
  unfold noPre
  rw [List.length_append, List.length_singleton, List.range_succ, List.all_append]
  congr 1
  · refine Bool.eq_iff_iff.mpr ?_
    rw [List.all_eq_true, List.all_eq_true]
    refine forall_congr' fun i => imp_congr_right fun hi => ?_
    rw [List.take_append_of_le_length (Nat.le_of_lt (List.mem_range.mp hi))]
  · rw [List.all_cons, List.all_nil, Bool.and_true, List.take_left' rfl]
theorem flatMap_if {α β : Type} (p : α → Bool) (f : α → List β) : ∀ l : List α, (l.filter p).flatMap f = l.flatMap fun a => if p a then f a else []
  | [] => rfl
  | a :: l => by
    have ih := flatMap_if p f l
    cases h : p a with
    | true => rw [List.filter_cons_of_pos h, List.flatMap_cons, List.flatMap_cons, if_pos h, ih]
    | false => rw [List.filter_cons_of_neg (by rw [h]; decide), List.flatMap_cons, if_neg (by rw [h]; decide), List.nil_append, ih]
theorem filter_flat {α β : Type} (p : β → Bool) (f : α → List β) : ∀ l : List α, (l.flatMap f).filter p = l.flatMap fun a => (f a).filter p
  | [] => rfl
  | a :: l => by rw [List.flatMap_cons, List.filter_append, List.flatMap_cons, filter_flat p f l]
theorem flat_congr {α β : Type} {f g : α → List β} : ∀ {l : List α}, (∀ a ∈ l, f a = g a) → l.flatMap f = l.flatMap g
  | [], _ => rfl
  | a :: l, h => by rw [List.flatMap_cons, List.flatMap_cons, h a List.mem_cons_self, flat_congr fun b hb => h b (List.mem_cons_of_mem _ hb)]
theorem parts_eq (ns : List Str) (rs : List (List Str)) : ∀ k : Nat, parts ns rs k = (level ns k).filter (noPre rs)
  | 0 => by
    unfold parts level
    rw [List.filter_cons_of_pos (show noPre rs [] = true from rfl)]
    rfl
  | k + 1 => by
    unfold parts
    rw [parts_eq ns rs k, level_succ, filter_flat, List.filter_filter, flatMap_if]
    refine flat_congr fun c _ => ?_
    unfold ext1
    rw [List.filter_map]
    have e : (noPre rs ∘ fun q => c ++ [q]) = fun _ => (noPre rs c && !consB rs c) := by
      funext q
      exact noPre_snoc
    rw [e]
    cases h : (!consB rs c) && noPre rs c with
    | true =>
      rw [if_pos rfl, show (noPre rs c && !consB rs c) = true from by rw [Bool.and_comm]; exact h, List.filter_eq_self.mpr fun _ _ => rfl]
    | false =>
      rw [if_neg (by decide), show (noPre rs c && !consB rs c) = false from by rw [Bool.and_comm]; exact h, List.filter_eq_nil_iff.mpr fun _ _ => by decide]
      rfl
theorem prime_noPre {ns : List Str} {rs : List (List Str)} (nd : ns.Nodup) {c : QL} (hh : Half ns c) (pr : primeB rs c = true) : noPre rs c = true := by
  unfold noPre
  rw [List.all_eq_true]
  intro i hi
  have il := List.mem_range.mp hi
  cases e : consB rs (c.take i) with
  | false => rfl
  | true =>
    exfalso
    have all := prime_part pr (fun q hq => List.mem_of_mem_take hq) (consB_iff.mp e)
    have cn : c.Nodup := (List.pairwise_map.mp (hh.nodup nd)).imp fun ne e => ne (congrArg Prod.snd e)
    have m := all c[i] (List.getElem_mem il)
    obtain ⟨j, hj, ej⟩ := List.getElem_of_mem m
    rw [List.length_take] at hj
    rw [List.getElem_take] at ej
    have := (List.getElem_inj (h₀ := by omega) (h₁ := il) cn).mp ej
    omega
theorem parts_prime {ns : List Str} (nd : ns.Nodup) (rs : List (List Str)) (k : Nat) : (parts ns rs k).filter (primeB rs) = (level ns k).filter (primeB rs) := by
  rw [parts_eq, List.filter_filter]
  refine List.filter_congr fun c hc => ?_
  cases h : primeB rs c with
  | false => rfl
  | true => rw [prime_noPre nd ((mem_level nd k c).mp hc).2 h]; rfl
theorem level_end {ns : List Str} (nd : ns.Nodup) {k : Nat} (h : ns.length < k) : level ns k = [] := by
  cases e : level ns k with
  | nil => rfl
  | cons c r =>
    obtain ⟨h1, h2⟩ := (mem_level nd k c).mp (by rw [e]; exact List.mem_cons_self)
    have z := h2.length_le
    rw [List.length_map] at z
    omega
theorem parts_end {ns : List Str} {rs : List (List Str)} {k : Nat} (h : parts ns rs k = []) : ∀ j : Nat, parts ns rs (k + j) = []
  | 0 => h
  | j + 1 => by
    show ((parts ns rs (k + j)).filter _).flatMap _ = []
    rw [parts_end h j]
    rfl
/-- all half-filled settings, in order -/
def halves (ns : List Str) : List QL := (List.range (ns.length + 1)).flatMap (level ns)
def primes (ns : List Str) (rs : List (List Str)) : List QL := (halves ns).filter (primeB rs)
/-- what is found behind k lengths -/
def upTo (ns : List Str) (rs : List (List Str)) (k : Nat) : List QL := (List.range k).flatMap fun j => (level ns j).filter (primeB rs)
theorem upTo_succ {ns : List Str} {rs : List (List Str)} (nd : ns.Nodup) (k : Nat) : upTo ns rs (k + 1) = upTo ns rs k ++ (parts ns rs k).filter (primeB rs) := by
  unfold upTo
  rw [List.range_succ, List.flatMap_append, parts_prime nd]
  simp
theorem upTo_stay {ns : List Str} {rs : List (List Str)} (nd : ns.Nodup) {k : Nat} (h : parts ns rs k = []) : ∀ j : Nat, upTo ns rs (k + j) = upTo ns rs k
  | 0 => rfl
  | j + 1 => by
    show upTo ns rs ((k + j) + 1) = _
    rw [upTo_succ nd, parts_end h j, upTo_stay nd h j, List.filter_nil, List.append_nil]
theorem upTo_more {ns : List Str} {rs : List (List Str)} (nd : ns.Nodup) : ∀ j : Nat, upTo ns rs (ns.length + 1 + j) = primes ns rs
  | 0 => by
    unfold upTo primes halves
    rw [filter_flat]
  | j + 1 => by
    show upTo ns rs ((ns.length + 1 + j) + 1) = _
    unfold upTo
    rw [List.range_succ, List.flatMap_append]
    have e := upTo_more (rs := rs) nd j
    unfold upTo at e
    rw [e]
    simp [level_end nd (show ns.length < ns.length + 1 + j by omega)]
theorem upTo_all {ns : List Str} {rs : List (List Str)} (nd : ns.Nodup) {k : Nat} (h : parts ns rs k = []) : upTo ns rs k = primes ns rs := by
  rw [← upTo_stay nd h (ns.length + 1), ← upTo_more nd k, Nat.add_comm]
/-! ### the law's way -/
theorem halves_mem {ns : List Str} (nd : ns.Nodup) {c : QL} : c ∈ halves ns ↔ Half ns c := by
  unfold halves
  rw [List.mem_flatMap]
  constructor
  · rintro ⟨k, _, h⟩
    exact ((mem_level nd k c).mp h).2
  · intro h
    have z := h.length_le
    rw [List.length_map] at z
    exact ⟨c.length, List.mem_range.mpr (by omega), (mem_level nd _ c).mpr ⟨rfl, h⟩⟩
theorem halves_up {ns : List Str} (nd : ns.Nodup) : (halves ns).Pairwise fun a b => a.length ≤ b.length ∧ a ≠ b := by
  unfold halves
  refine List.pairwise_flatMap.mpr ⟨fun k _ => ?_, List.pairwise_lt_range.imp fun {j k} lt a ha b hb => ?_⟩
  · refine List.Pairwise.imp_of_mem (fun {a b} ha hb h => ⟨?_, h⟩) (level_nd nd k)
    rw [((mem_level nd k a).mp ha).1, ((mem_level nd k b).mp hb).1]
    exact Nat.le_refl _
  · have h1 := ((mem_level nd j a).mp ha).1
    have h2 := ((mem_level nd k b).mp hb).1
    exact ⟨by omega, fun e => by rw [e] at h1; omega⟩
def inB (p c : QL) : Bool := p.all fun q => decide (q ∈ c)
theorem inB_iff {p c : QL} : inB p c = true ↔ ∀ q ∈ p, q ∈ c := by
  unfold inB
  rw [List.all_eq_true]
  exact forall_congr' fun q => imp_congr_right fun _ => decide_eq_true_iff
/-- one step of the law -/
def lStep (rs : List (List Str)) (f : List QL) (c : QL) : List QL := if !(f.any fun p => inB p c) && consB rs c then f ++ [c] else f
theorem law_step {ns : List Str} {rs : List (List Str)} (nd : ns.Nodup) {as bs : List QL} {c : QL} (e : halves ns = as ++ c :: bs) : lStep rs (as.filter (primeB rs)) c = (as ++ [c]).filter (primeB rs) := by
  have up := halves_up nd
  rw [e] at up
  obtain ⟨_, u2, u3⟩ := List.pairwise_append.mp up
  have mem : ∀ {d : QL}, d ∈ as ++ c :: bs → Half ns d := fun h => (halves_mem nd).mp (e ▸ h)
  have hc : Half ns c := mem (by simp)
  unfold lStep
  rw [List.filter_append]
  cases pr : primeB rs c with
  | true =>
    have no : (as.filter (primeB rs)).any (fun p => inB p c) = false := by
      refine List.any_eq_false.mpr fun p hp q => ?_
      obtain ⟨h1, h2⟩ := List.mem_filter.mp hp
      have s := inB_iff.mp q
      have s2 := prime_part pr s (primeB_iff.mp h2).1
      exact (u3 p h1 c List.mem_cons_self).2 (half_eq nd (mem (List.mem_append_left _ h1)) hc fun q => ⟨s q, s2 q⟩)
    rw [no, consB_iff.mpr (primeB_iff.mp pr).1, if_pos (by decide), List.filter_cons_of_pos pr]
    rfl
  | false =>
    rw [List.filter_cons_of_neg (by rw [pr]; decide)]
    simp only [List.filter_nil, List.append_nil]
    cases hcs : consB rs c with
    | false => rw [Bool.and_false, if_neg (by decide)]
    | true =>
      obtain ⟨p, s, pp⟩ := prime_in c.length c (Nat.le_refl _) hc (consB_iff.mp hcs)
      have lt : p.length < c.length := Nat.lt_of_le_of_ne s.length_le fun q => by
        rw [s.eq_of_length q, pr] at pp
        cases pp
      have hm : p ∈ as := by
        have m := (halves_mem nd).mpr (hc.sub s)
        rw [e] at m
        rcases List.mem_append.mp m with m | m
        · exact m
        · rcases List.mem_cons.mp m with q | m
          · rw [q] at lt; omega
          · have := ((List.pairwise_cons.mp u2).1 p m).1
            omega
      have yes : (as.filter (primeB rs)).any (fun p => inB p c) = true := List.any_eq_true.mpr ⟨p, List.mem_filter.mpr ⟨hm, pp⟩, inB_iff.mpr fun q hq => s.subset hq⟩
      rw [yes, if_neg (by decide)]
theorem law_all {ns : List Str} {rs : List (List Str)} (nd : ns.Nodup) : ∀ (bs as : List QL), halves ns = as ++ bs → bs.foldl (lStep rs) (as.filter (primeB rs)) = primes ns rs
  | [], as, e => by
    rw [List.append_nil] at e
    unfold primes
    rw [e]
    rfl
  | c :: bs, as, e => by
    rw [List.foldl_cons, law_step nd e]
    exact law_all nd bs (as ++ [c]) (by rw [e, List.append_assoc]; rfl)
end K6
namespace K6
open PySem PySem.Spec PyProof.Rows L2 LamX NdefX EV
/-! ### what is forced -/
def opp (q : Bool × Str) : Bool × Str := (!q.1, q.2)
theorem opp_opp (q : Bool × Str) : opp (opp q) = q := by
  obtain ⟨b, n⟩ := q
  cases b <;> rfl
/-- the rows with all literals of a setting -/
def fitB (h : QL) (r : List Str) : Bool := h.all fun q => decide (lit q ∈ r)
def fits (rs : List (List Str)) (h : QL) : List (List Str) := rs.filter (fitB h)
def forcedOf (rs : List (List Str)) (h : QL) : Option (List Str) := match fits rs h with
  | [] => none
  | r0 :: rest => some (r0.filter fun l => !decide (l ∈ h.map lit) && (r0 :: rest).all fun r => decide (l ∈ r))
/-- a row with one literal of each name -/
structure FullR (ns : List Str) (r : List Str) : Prop where
  one : ∀ q : Bool × Str, q.2 ∈ ns → (lit q ∈ r ↔ lit (opp q) ∉ r)
  mem : ∀ l ∈ r, ∃ q : Bool × Str, q.2 ∈ ns ∧ lit q = l
theorem full_r {ns r : List Str} (nd : ns.Nodup) (good : ∀ z ∈ ns, Name1 z) (h : FullOf ns r) : FullR ns r := by
  obtain ⟨qs, hq, hl, rfl⟩ := h
  have all : ∀ n ∈ ns, n ∈ qs.map Prod.snd := fun n hn => by
    by_cases m : n ∈ qs.map Prod.snd
    · exact m
    · have z := nodup_le (n :: qs.map Prod.snd) ns (List.nodup_cons.mpr ⟨m, hq.nd⟩) fun x hx => (List.mem_cons.mp hx).elim (fun e => e ▸ hn) fun w => by
        obtain ⟨q, hq', rfl⟩ := List.mem_map.mp w
        exact hq.sub q hq'
      rw [List.length_cons, List.length_map] at z
      omega
  have mq : ∀ {q : Bool × Str}, q.2 ∈ ns → (lit q ∈ qs.map lit ↔ q ∈ qs) := fun {q} h => ⟨fun m => by
    obtain ⟨p, hp, e⟩ := List.mem_map.mp m
    rw [← lit_inj (good _ (hq.sub p hp)) (good _ h) e]
    exact hp, List.mem_map_of_mem⟩
  have same : ∀ {qs : QL} {p q : Bool × Str}, (qs.map Prod.snd).Nodup → p ∈ qs → q ∈ qs → p.2 = q.2 → p = q := fun {qs} => by
    induction qs with
    | nil => intro p q _ h; cases h
    | cons z r ih =>
      intro p q nd hp hq e
      rw [List.map_cons] at nd
      obtain ⟨m1, m2⟩ := List.nodup_cons.mp nd
      rcases List.mem_cons.mp hp with h1 | h1
      · rcases List.mem_cons.mp hq with h2 | h2
        · exact h1.trans h2.symm
        · exact absurd (h1 ▸ e ▸ List.mem_map_of_mem h2 : z.2 ∈ r.map Prod.snd) m1
      · rcases List.mem_cons.mp hq with h2 | h2
        · exact absurd (h2 ▸ e ▸ List.mem_map_of_mem h1 : z.2 ∈ r.map Prod.snd) m1
        · exact ih m2 h1 h2 e
  refine ⟨fun q hn => ?_, fun l hl => ?_⟩
  · rw [mq hn, mq (q := opp q) hn]
    constructor
    · intro h1 h2
      have e := congrArg Prod.fst (same hq.nd h1 h2 rfl)
      have e : q.1 = !q.1 := e
      exact absurd e (by cases q.1 <;> decide)
    · intro h2
      obtain ⟨p, hp, e⟩ := List.mem_map.mp (all q.2 hn)
      by_cases e1 : p.1 = q.1
      · rwa [show q = p from Prod.ext e1.symm e.symm]
      · refine (h2 ?_).elim
        rwa [show opp q = p from Prod.ext (by show (!q.1) = p.1; cases hp1 : p.1 <;> cases hq1 : q.1 <;> simp_all) e.symm]
  · obtain ⟨q, hq', e⟩ := List.mem_map.mp hl
    exact ⟨q, hq.sub q hq', e⟩
/-! ### any clause is one of the half-filled settings, but for the order -/
theorem half_filter : ∀ {ns : List Str} {f : Bool × Str → Bool}, (∀ n ∈ ns, ¬ (f (false, n) = true ∧ f (true, n) = true)) → Half ns ((pairs ns).filter f)
  | [], f, _ => List.Sublist.refl _
  | n :: r, f, h => by
    have ih := half_filter (ns := r) (f := f) fun m hm => h m (List.mem_cons_of_mem _ hm)
    have o := h n List.mem_cons_self
    show Half (n :: r) (((false, n) :: (true, n) :: pairs r).filter f)
    cases h1 : f (false, n) with
    | true =>
      have h2 : f (true, n) = false := by
        cases h2 : f (true, n) with
        | false => rfl
        | true => exact absurd ⟨h1, h2⟩ o
      rw [List.filter_cons_of_pos h1, List.filter_cons_of_neg (by rw [h2]; decide)]
      exact List.Sublist.cons_cons n ih
    | false =>
      rw [List.filter_cons_of_neg (by rw [h1]; decide)]
      cases h2 : f (true, n) with
      | true =>
        rw [List.filter_cons_of_pos h2]
        exact List.Sublist.cons_cons n ih
      | false =>
        rw [List.filter_cons_of_neg (by rw [h2]; decide)]
        exact List.Sublist.cons n ih
theorem half_of {ns : List Str} {p : QL} (sub : ∀ q ∈ p, q.2 ∈ ns) (one : ∀ n, ¬ ((false, n) ∈ p ∧ (true, n) ∈ p)) : ∃ p' : QL, Half ns p' ∧ ∀ q, q ∈ p' ↔ q ∈ p := by
  refine ⟨(pairs ns).filter fun q => decide (q ∈ p), half_filter fun n _ h => one n ⟨of_decide_eq_true h.1, of_decide_eq_true h.2⟩, fun q => ?_⟩
  rw [List.mem_filter, pairs_mem]
  exact ⟨fun h => of_decide_eq_true h.2, fun h => ⟨sub q h, decide_eq_true h⟩⟩
theorem cons_same {rs : List (List Str)} {p p' : QL} (e : ∀ q, q ∈ p' ↔ q ∈ p) : Cons rs p' ↔ Cons rs p := ⟨fun h => h.up fun q hq => (e q).mp hq, fun h => h.up fun q hq => (e q).mpr hq⟩
theorem prime_same {rs : List (List Str)} {p p' : QL} (e : ∀ q, q ∈ p' ↔ q ∈ p) (h : primeB rs p = true) : primeB rs p' = true := by
  obtain ⟨h1, h2⟩ := primeB_iff.mp h
  refine primeB_iff.mpr ⟨(cons_same e).mpr h1, fun l hl c => h2 l ((e l).mp hl) (c.up fun q hq => ?_)⟩
  obtain ⟨a, b⟩ := List.mem_filter.mp hq
  exact List.mem_filter.mpr ⟨(e q).mp a, b⟩
theorem prime_any : ∀ {rs : List (List Str)} (k : Nat) (c : QL), c.length ≤ k → Cons rs c → ∃ p : QL, (∀ q ∈ p, q ∈ c) ∧ primeB rs p = true
  | rs, 0, c, hk, hc => by
    have e : c = [] := List.eq_nil_of_length_eq_zero (Nat.le_zero.mp hk)
    subst e
    exact ⟨[], (fun q h => h), primeB_iff.mpr ⟨hc, fun l h => nomatch h⟩⟩
  | rs, k + 1, c, hk, hc => by
    by_cases h : ∃ l ∈ c, Cons rs (without c l)
    · obtain ⟨l, hl, hc'⟩ := h
      have s : (without c l).Sublist c := List.filter_sublist
      have lt : (without c l).length < c.length := by
        refine Nat.lt_of_le_of_ne s.length_le fun e => ?_
        have z := s.eq_of_length e
        rw [← z] at hl
        exact of_decide_eq_true (List.mem_filter.mp hl).2 rfl
      obtain ⟨p, h1, h2⟩ := prime_any k _ (by omega) hc'
      exact ⟨p, fun q hq => s.subset (h1 q hq), h2⟩
    · exact ⟨c, fun q hq => hq, primeB_iff.mpr ⟨hc, fun l hl q => h ⟨l, hl, q⟩⟩⟩
/-- some shortest consequence lies in these literals -/
def primeIn (ns : List Str) (rs : List (List Str)) (d : QL) : Bool := (primes ns rs).any fun p => inB p d
theorem primeIn_iff {ns : List Str} {rs : List (List Str)} (nd : ns.Nodup) {d : QL} (sub : ∀ q ∈ d, q.2 ∈ ns) (one : ∀ n, ¬ ((false, n) ∈ d ∧ (true, n) ∈ d)) : primeIn ns rs d = true ↔ Cons rs d := by
  unfold primeIn
  rw [List.any_eq_true]
  constructor
  · rintro ⟨p, hp, hi⟩
    exact ((primeB_iff.mp (List.mem_filter.mp hp).2).1).up (inB_iff.mp hi)
  · intro h
    obtain ⟨p, h1, h2⟩ := prime_any d.length d (Nat.le_refl _) h
    obtain ⟨p', h3, h4⟩ := half_of (ns := ns) (p := p) (fun q hq => sub q (h1 q hq)) fun n z => one n ⟨h1 _ z.1, h1 _ z.2⟩
    exact ⟨p', List.mem_filter.mpr ⟨(halves_mem nd).mpr h3, prime_same h4 h2⟩, inB_iff.mpr fun q hq => h1 q ((h4 q).mp hq)⟩
theorem one_of : ∀ {h : QL}, (h.map Prod.snd).Nodup → ∀ n, ¬ ((false, n) ∈ h ∧ (true, n) ∈ h)
  | [], _, _, z => nomatch z.1
  | q :: r, w, n, z => by
    obtain ⟨a, b⟩ := z
    rw [List.map_cons] at w
    obtain ⟨w1, w2⟩ := List.nodup_cons.mp w
    rcases List.mem_cons.mp a with e | a
    · rcases List.mem_cons.mp b with e2 | b
      · rw [← e] at e2; cases e2
      · exact w1 (by rw [← e]; exact List.mem_map.mpr ⟨_, b, rfl⟩)
    · rcases List.mem_cons.mp b with e2 | b
      · exact w1 (by rw [← e2]; exact List.mem_map.mpr ⟨_, a, rfl⟩)
      · exact one_of w2 n ⟨a, b⟩
theorem half_one {ns : List Str} (nd : ns.Nodup) {h : QL} (hh : Half ns h) (n : Str) : ¬ ((false, n) ∈ h ∧ (true, n) ∈ h) := one_of (hh.nodup nd) n
theorem fitB_iff {h : QL} {r : List Str} : fitB h r = true ↔ ∀ q ∈ h, lit q ∈ r := by
  unfold fitB
  rw [List.all_eq_true]
  exact forall_congr' fun q => imp_congr_right fun _ => decide_eq_true_iff
section
variable {ns : List Str} {rs : List (List Str)} {h : QL}
theorem not_fit (full : ∀ r ∈ rs, FullR ns r) (sub : ∀ q ∈ h, q.2 ∈ ns) {r : List Str} (hr : r ∈ rs) (n : ¬ fitB h r = true) : ∃ q ∈ h.map opp, lit q ∈ r := by
  rw [fitB_iff] at n
  obtain ⟨q, n⟩ := Classical.not_forall.mp n
  obtain ⟨hq, n⟩ := Classical.not_imp.mp n
  refine ⟨opp q, List.mem_map_of_mem hq, ?_⟩
  have z := (full r hr).one (opp q) (sub q hq)
  rw [opp_opp] at z
  exact z.mpr n
theorem fit_not (full : ∀ r ∈ rs, FullR ns r) (sub : ∀ q ∈ h, q.2 ∈ ns) {r : List Str} (hr : r ∈ rs) (f : fitB h r = true) : ∀ q ∈ h.map opp, lit q ∉ r := fun q hq => by
  obtain ⟨p, hp, rfl⟩ := List.mem_map.mp hq
  exact ((full r hr).one p (sub p hp)).mp (fitB_iff.mp f p hp)
/-- None: a shortest consequence lies in the opposites -/
theorem none_iff (nd : ns.Nodup) (full : ∀ r ∈ rs, FullR ns r) (hh : Half ns h) : forcedOf rs h = none ↔ primeIn ns rs (h.map opp) = true := by
  have sub : ∀ q ∈ h, q.2 ∈ ns := fun q hq => hh.subset (List.mem_map_of_mem hq)
  have so : ∀ q ∈ h.map opp, q.2 ∈ ns := fun q hq => by
    obtain ⟨p, hp, rfl⟩ := List.mem_map.mp hq
    exact sub p hp
  have op : ∀ b n, (b, n) ∈ h.map opp → (!b, n) ∈ h := fun b n m => by
    obtain ⟨p, hp, e⟩ := List.mem_map.mp m
    have e2 : p = (!b, n) := by rw [← opp_opp p, e]; rfl
    exact e2 ▸ hp
  rw [primeIn_iff nd so fun n z => half_one nd hh n ⟨op true n z.2, op false n z.1⟩]
  have e : forcedOf rs h = none ↔ fits rs h = [] := by
    unfold forcedOf
    split
    · rename_i e; exact ⟨fun _ => e, fun _ => rfl⟩
    · rename_i e; exact ⟨(fun z => nomatch z), fun z => by rw [e] at z; cases z⟩
  rw [e]
  unfold fits
  rw [List.filter_eq_nil_iff]
  exact ⟨fun n r hr => not_fit full sub hr (n r hr), fun c r hr f => by
    obtain ⟨q, hq, m⟩ := c r hr
    exact fit_not full sub hr f q hq m⟩
/-- a literal is forced just if a shortest consequence lies in the opposites and it -/
theorem forced_iff (nd : ns.Nodup) (good : ∀ z ∈ ns, Name1 z) (full : ∀ r ∈ rs, FullR ns r) (hh : Half ns h) {q : Bool × Str} (hq : q.2 ∈ ns) (n1 : q ∉ h) (n2 : opp q ∉ h) {fs : List Str} (ef : forcedOf rs h = some fs) : lit q ∈ fs ↔ primeIn ns rs (h.map opp ++ [q]) = true := by
  have sub : ∀ q ∈ h, q.2 ∈ ns := fun q hq => hh.subset (List.mem_map_of_mem hq)
  have op : ∀ b n, (b, n) ∈ h.map opp → (!b, n) ∈ h := fun b n m => by
    obtain ⟨p, hp, e⟩ := List.mem_map.mp m
    have e2 : p = (!b, n) := by rw [← opp_opp p, e]; rfl
    exact e2 ▸ hp
  have so : ∀ p ∈ h.map opp ++ [q], p.2 ∈ ns := fun p hp => by
    rcases List.mem_append.mp hp with m | m
    · obtain ⟨z, hz, rfl⟩ := List.mem_map.mp m
      exact sub z hz
    · rw [List.mem_singleton.mp m]; exact hq
  have one : ∀ n, ¬ ((false, n) ∈ h.map opp ++ [q] ∧ (true, n) ∈ h.map opp ++ [q]) := fun n ⟨a, b⟩ => by
    rcases List.mem_append.mp a with a | a
    · rcases List.mem_append.mp b with b | b
      · exact half_one nd hh n ⟨op true n b, op false n a⟩
      · exact n1 (List.mem_singleton.mp b ▸ op false n a)
    · rcases List.mem_append.mp b with b | b
      · exact n1 (List.mem_singleton.mp a ▸ op true n b)
      · have e := (List.mem_singleton.mp a).trans (List.mem_singleton.mp b).symm
        cases e
  rw [primeIn_iff nd so one]
  unfold forcedOf at ef
  have hl : lit q ∉ h.map lit := fun m => by
    obtain ⟨p, hp, e⟩ := List.mem_map.mp m
    rw [lit_inj (good _ (sub p hp)) (good _ hq) e] at hp
    exact n1 hp
  split at ef
  · cases ef
  · rename_i r0 rest e
    have ef := Option.some.inj ef
    subst ef
    have inF : ∀ {r}, r ∈ r0 :: rest ↔ r ∈ rs ∧ fitB h r = true := fun {r} => by rw [← e]; exact List.mem_filter
    rw [List.mem_filter, Bool.and_eq_true, List.all_eq_true]
    constructor
    · rintro ⟨_, _, all⟩ r hr
      by_cases f : fitB h r = true
      · exact ⟨q, by simp, of_decide_eq_true (all r (inF.mpr ⟨hr, f⟩))⟩
      · obtain ⟨p, h1, h2⟩ := not_fit full sub hr f
        exact ⟨p, List.mem_append_left _ h1, h2⟩
    · intro c
      have all : ∀ r ∈ r0 :: rest, lit q ∈ r := fun r hr => by
        obtain ⟨h1, h2⟩ := inF.mp hr
        obtain ⟨p, h3, h4⟩ := c r h1
        rcases List.mem_append.mp h3 with m | m
        · exact (fit_not full sub h1 h2 p m h4).elim
        · rw [← List.mem_singleton.mp m]; exact h4
      exact ⟨all r0 List.mem_cons_self, by rw [decide_eq_false hl]; rfl, fun r hr => decide_eq_true (all r hr)⟩
end
end K6
namespace K6
open PySem PySem.Spec PyProof.Rows L2 LamX NdefX EV
/-! ### rows as bits -/
/-- the number with the bit k set if the literal stands in the row at k -/
def mark : List (List Str) → Str → Nat
  | [], _ => 0
  | r :: rs, l => (if l ∈ r then 1 else 0) + 2 * mark rs l
theorem mark_snoc : ∀ (rs : List (List Str)) (r l : _), mark (rs ++ [r]) l = mark rs l + if l ∈ r then 2 ^ rs.length else 0
  | [], r, l => by
    show (if l ∈ r then 1 else 0) + 2 * 0 = 0 + _
    split <;> simp
  | x :: rs, r, l => by
    show (if l ∈ x then 1 else 0) + 2 * mark (rs ++ [r]) l = (if l ∈ x then 1 else 0) + 2 * mark rs l + _
    rw [mark_snoc rs r l, List.length_cons, Nat.pow_succ]
    split <;> split <;> omega
theorem mark_bit : ∀ (rs : List (List Str)) (l : Str) (k : Nat), (mark rs l).testBit k = true ↔ ∃ r, rs[k]? = some r ∧ l ∈ r
  | [], l, k => by simp [mark]
  | x :: rs, l, 0 => by
    show ((if l ∈ x then 1 else 0) + 2 * mark rs l).testBit 0 = true ↔ _
    rw [Nat.testBit_zero]
    have e : ((if l ∈ x then 1 else 0) + 2 * mark rs l) % 2 = if l ∈ x then 1 else 0 := by split <;> omega
    rw [e]
    by_cases h : l ∈ x
    · simp [h]
    · simp [h]
  | x :: rs, l, k + 1 => by
    show ((if l ∈ x then 1 else 0) + 2 * mark rs l).testBit (k + 1) = true ↔ _
    rw [Nat.testBit_succ]
    have e : ((if l ∈ x then 1 else 0) + 2 * mark rs l) / 2 = mark rs l := by split <;> omega
    rw [e, mark_bit rs l k, List.getElem?_cons_succ]
/-- the bits of all literals of a clause -/
def met (rs : List (List Str)) (c : QL) : Nat := c.foldl (fun m q => m ||| mark rs (lit q)) 0
theorem met_snoc (rs : List (List Str)) (c : QL) (q : Bool × Str) : met rs (c ++ [q]) = met rs c ||| mark rs (lit q) := by
  unfold met
  rw [List.foldl_append]
  rfl
theorem met_bit' (rs : List (List Str)) (k : Nat) : ∀ (c : QL) (m : Nat), (c.foldl (fun m q => m ||| mark rs (lit q)) m).testBit k = true ↔ m.testBit k = true ∨ ∃ q ∈ c, (mark rs (lit q)).testBit k = true
  | [], m => by simp
  | q :: c, m => by
    rw [List.foldl_cons, met_bit' rs k c, Nat.testBit_or, Bool.or_eq_true, or_assoc]
    refine or_congr_right ?_
    constructor
    · rintro (h | ⟨p, h1, h2⟩)
      · exact ⟨q, List.mem_cons_self, h⟩
      · exact ⟨p, List.mem_cons_of_mem _ h1, h2⟩
    · rintro ⟨p, h1, h2⟩
      rcases List.mem_cons.mp h1 with rfl | h1
      · exact .inl h2
      · exact .inr ⟨p, h1, h2⟩
theorem met_bit (rs : List (List Str)) (c : QL) (k : Nat) : (met rs c).testBit k = true ↔ ∃ q ∈ c, (mark rs (lit q)).testBit k = true := by
  unfold met
  rw [met_bit']
  simp
theorem met_iff {rs : List (List Str)} {c : QL} : met rs c = 2 ^ rs.length - 1 ↔ Cons rs c := by
  constructor
  · intro e r hr
    obtain ⟨k, hk⟩ := List.getElem?_of_mem hr
    have kl := (List.getElem?_eq_some_iff.mp hk).1
    have b : (met rs c).testBit k = true := by
      rw [e, Nat.testBit_two_pow_sub_one]
      exact decide_eq_true kl
    obtain ⟨q, hq, hb⟩ := (met_bit rs c k).mp b
    obtain ⟨r', h1, h2⟩ := (mark_bit rs (lit q) k).mp hb
    rw [hk] at h1
    exact ⟨q, hq, Option.some.inj h1 ▸ h2⟩
  · intro h
    refine Nat.eq_of_testBit_eq fun k => Bool.eq_iff_iff.mpr ?_
    rw [met_bit, Nat.testBit_two_pow_sub_one, decide_eq_true_iff]
    constructor
    · rintro ⟨q, _, hb⟩
      obtain ⟨r, h1, _⟩ := (mark_bit rs (lit q) k).mp hb
      exact (List.getElem?_eq_some_iff.mp h1).1
    · intro kl
      obtain ⟨q, hq, m⟩ := h rs[k] (List.getElem_mem kl)
      exact ⟨q, hq, (mark_bit rs (lit q) k).mpr ⟨_, List.getElem?_eq_getElem kl, m⟩⟩
theorem consB_met (rs : List (List Str)) (c : QL) : decide (met rs c = 2 ^ rs.length - 1) = consB rs c := by
  refine Bool.eq_iff_iff.mpr ?_
  rw [decide_eq_true_iff, met_iff, consB_iff]
def markKv (rs : List (List Str)) (l : Str) : Key × V := (Sum.inr l, .int (mark rs l : Nat))
theorem marks_get {rs : List (List Str)} {l : Str} : ∀ ls : List Str, l ∈ ls → valV (ls.map (markKv rs)) (Sum.inr l) = some (.int (mark rs l : Nat))
  | [], h => nomatch h
  | m :: ls, h => by
    by_cases e : m = l
    · subst e
      exact valV_pos rfl
    · rw [List.map_cons, valV_neg (fun q => e (by injection q))]
      exact marks_get ls ((List.mem_cons.mp h).resolve_left fun q => e q.symm)
theorem marks_none {rs : List (List Str)} {l : Str} : ∀ ls : List Str, l ∉ ls → valV (ls.map (markKv rs)) (Sum.inr l) = none
  | [], _ => rfl
  | m :: ls, h => by
    have ne : ¬ (markKv rs m).1 = Sum.inr l := fun q => by
      have e : m = l := by injection q
      exact h (by rw [e]; exact List.mem_cons_self)
    rw [List.map_cons, valV_neg ne]
    exact marks_none ls fun q => h (List.mem_cons_of_mem _ q)
def spCons (K : PySem.W.Frag) : Sp := fun vs H Q _ => ∃ (M A R : Addr) (b : Bool) (ns : List Str) (rs : List (List Str)) (c : QL) (ts : List V), vs = [.ref M, .ref A, .ref R] ∧ H M = some (.dK ((lits ns).map (markKv rs))) ∧ Sq K b H A ((c.map lit).map V.str) ∧ (∀ q ∈ c, q.2 ∈ ns) ∧ SqL K H R ts ∧ ts.length = rs.length ∧ rs.length ≤ 64 ∧ Q (.bl (consB rs c)) H
def spMarks (K : PySem.W.Frag) : Sp := fun vs H Q _ => ∃ (A R : Addr) (ls : List Str) (rs : List (List Str)) (ts : List Addr), vs = [.ref A, .ref R] ∧ H A = some (.lst (ls.map V.str)) ∧ ls.Nodup ∧ ls.length ≤ 1000 ∧ H R = some (.lst (ts.map V.ref)) ∧ RowsAt H ts rs ∧ rs.length ≤ 64 ∧
  ∀ M H', Same H H' → H M = none → H' M = some (.dK (ls.map (markKv rs))) → Q (.ref M) H'
section
variable {P : Program} {w : World} {K : PySem.W.Frag} {mg : Str → Option Value} {base : Heap} {f : Addr} {fd : FuncData}
abbrev nCons : List Str := ["marks", "clause", "rows", "met", "literal"]
theorem scCons : FnScope nCons ["marks", "clause", "rows"] (defScope sIsCons) := ⟨rfl, rfl, rfl, by decide +kernel, rfl, by decide +kernel, by decide +kernel⟩
theorem ok_cons (F : Fun K "is_consequence" "is_consequence" sIsCons f fd) (ml : mg "len" = none) : FnOk P w K mg base CX0 1 f fd ["marks", "clause", "rows"] (spCons K) := by
  refine F.ok scCons (fun vs H Q E h => ?_) (fun cdv A' outer s H vs Q E hr h => ?_)
  · obtain ⟨M, A, R, b, ns, rs, c, ts, rfl, _⟩ := h
    rfl
  · obtain ⟨M, A, R, b, ns, rs, c, ts, rfl, hM, hA, sub, hR, lt, r64, k⟩ := h
    have hu := hu_of hr
    refine ⟨_, pss_cons (ps_set (i := 3) scCons.nd rfl (.inl rfl) pe_int)
      (pss_cons (ps_for PassesOwn.never rfl (pi_seq (pv 1)) (pg_name (i := 4) scCons.nd rfl (.inl rfl)) (pss_one (ps_set (i := 3) scCons.nd rfl (.inl rfl) (pe_op op_or (pv 3) (pe_dget hu (pv 0) (pv 4) (fun _ _ => rfl))))))
      (pss_one (ps_ret (pe_cmpR op_eq (pv 3) (pe_op op_sub (pe_op op_shl pe_int (pe_callB call_len (by rfl) ml PySem.boot_len (pa_cons (pv 2) pa_nil))) pe_int) (nomark _))))), ?_⟩
    refine ⟨_, rfl, b, A, _, rfl, hA, for_it walk_sq (fun i σ H2 => H2 = H ∧ ∃ o4, σ = [some (.ref M), some (.ref A), some (.ref R), some (.int (met rs (c.take i) : Nat)), o4]) ⟨rfl, _, rfl⟩ (fun i σ H2 _ ⟨e, _⟩ => e ▸ hA) ?_ ?_⟩
    · rintro i x σ H2 H3 hi ⟨rfl, o4, rfl⟩ ⟨rfl, hx⟩
      obtain ⟨z, hz, rfl⟩ := get_map hx
      obtain ⟨q, hq, rfl⟩ := get_map hz
      have g : DGet H3 M (.str (lit q)) (some (.int (mark rs (lit q) : Nat))) := by
        have z := DGet.k (k := Sum.inr (lit q)) hM
        rwa [marks_get _ (lit_mem (sub q (List.mem_of_getElem? hq)))] at z
      refine ⟨_, rfl, _, rfl, _, rfl, M, _, rfl, g, _, _, rfl, rfl, rfl, some (.str (lit q)), ?_⟩
      have e : Builtin.bitOr (met rs (c.take i) : Nat) (mark rs (lit q) : Nat) = ((met rs (c.take (i + 1)) : Nat) : Int) := by
        rw [bitOr_nn (Int.natCast_nonneg _) (Int.natCast_nonneg _), Int.toNat_natCast, Int.toNat_natCast, List.take_succ, hq]
        exact congrArg _ (met_snoc rs (c.take i) q).symm
      show [some (V.ref M), some (.ref A), some (.ref R), some (.int (Builtin.bitOr (met rs (c.take i) : Nat) (mark rs (lit q) : Nat))), _] = _
      rw [e]
    · rintro σ H2 ⟨rfl, o4, rfl⟩
      have e : c.take ((c.map lit).map V.str).length = c := List.take_of_length_le (by rw [List.length_map, List.length_map]; exact Nat.le_refl _)
      rw [e]
      refine ⟨_, rfl, _, rfl, _, _, rfl, .inl ⟨_, hR, rfl⟩, _, _, rfl, rfl, ⟨Int.natCast_nonneg _, by omega, by decide⟩, _, _, rfl, rfl, rfl, ?_⟩
      have e2 : decide (V.int (met rs c : Nat) = V.int (1 * 2 ^ ((ts.length : Nat) : Int).toNat - 1)) = consB rs c := by
        rw [← consB_met]
        refine decide_eq_decide.mpr ?_
        rw [Int.toNat_natCast, lt, Int.one_mul]
        have p1 : (2 : Int) ^ rs.length - 1 = ((2 ^ rs.length - 1 : Nat) : Int) := by
          have : 1 ≤ 2 ^ rs.length := Nat.one_le_two_pow
          rw [Int.natCast_sub this, Int.natCast_pow]
          rfl
        rw [p1]
        exact ⟨fun h => by injection h with h; exact Int.ofNat_inj.mp h, fun h => by rw [h]⟩
      show Q (.bl (decide (V.int (met rs c : Nat) = V.int (1 * 2 ^ ((ts.length : Nat) : Int).toNat - 1)))) _
      rw [e2]
      exact k
end
end K6
namespace K6
open PySem PySem.Spec PyProof.Rows L2 LamX NdefX EV
section
variable {P : Program} {w : World} {K : PySem.W.Frag} {mg : Str → Option Value} {base : Heap} {f : Addr} {fd : FuncData}
abbrev nMarks : List Str := ["literals", "rows", "marks", "literal", "k", "row"]
theorem scMarks : FnScope nMarks ["literals", "rows"] (defScope sRowMarks) := ⟨rfl, rfl, rfl, by decide +kernel, rfl, by decide +kernel, by decide +kernel⟩
theorem ok_marks (F : Fun K "row_marks" "row_marks" sRowMarks f fd) (mS : mg "sum" = none) (me : mg "enumerate" = none) : FnOk P w K mg base CX0 1 f fd ["literals", "rows"] (spMarks K) := by
  refine F.ok scMarks (fun vs H Q E h => ?_) (fun cdv A' outer s H vs Q E hr h => ?_)
  · obtain ⟨A, R, ls, rs, ts, rfl, _⟩ := h
    rfl
  · obtain ⟨A, R, ls, rs, ts, rfl, hA, nd, l1000, hR, rows, r64, k⟩ := h
    have hu := hu_of hr
    refine ⟨_, pss_cons (ps_set (i := 2) scMarks.nd rfl (.inl rfl) pe_dnewK)
      (pss_cons (ps_for PassesOwn.never rfl (pi_list (pv 0)) (pg_name (i := 3) scMarks.nd rfl (.inr rfl)) (pss_one (ps_dput hu (pv 2) (pv 3) (pe_callB (cr_sum rfl) (by rfl) mS (by decide +kernel) (pa_cons (pe_lc (own := [("k", 4), ("row", 5)]) rfl scMarks.nd (pi_enumB (by rfl) me (pa_cons (pv 1) pa_nil)) (blkOk_by (N := nMarks) (sc := defScope sRowMarks) (by decide +kernel))
          (fun _ _ _ _ _ => show PG _ _ (gTup K 2 _) from pg_tup rfl (pgs_cons (pg_name (i := 4) scMarks.nd rfl (.inl rfl)) (pgs_cons (pg_name (i := 5) scMarks.nd rfl (.inl rfl)) pgs_nil)))
          (fun _ _ _ _ _ => pts_one (show PT _ _ (tTest (tOp (rIn K false) _ _)) from pt_cmpR op_in_seq (pv 3) (pv 5) rfl)) (fun _ _ _ _ _ => pe_op op_shl pe_int (pv 4))) pa_nil)) rfl)))
      (pss_one (ps_ret (pv 2)))), ?_⟩
    have lt : ts.length = rs.length := Paired.length rows
    refine fun M hM => ⟨_, rfl, A, rfl, ⟨_, SqL.of ((same_new hM) _ _ hA)⟩, for_list (K := K) (a := A) (xs := ls.map V.str) (fun i σ H2 => ∃ o3, σ = [some (.ref A), some (.ref R), some (.ref M), o3, none, none] ∧ Same H H2 ∧ H2 M = some (.dK ((ls.take i).map (markKv rs)))) ⟨_, rfl, same_new hM, upd_same⟩ (fun i σ H2 _ ⟨_, _, sm, _⟩ => SqL.of (sm _ _ hA)) ?_ ?_⟩
    · rintro i x σ H2 hx ⟨o3, rfl, sm, hM2⟩
      obtain ⟨l, hl, rfl⟩ := get_map hx
      have ilt : i < ls.length := (List.getElem?_eq_some_iff.mp hl).1
      have fresh := not_before nd hl
      refine ⟨_, rfl, true, R, _, rfl, SqL.of (sm _ _ hR), fun D hD => lc_it walk_enumB (fun j H3 => Same H2 H3 ∧ ∃ xs : List Int, H3 D = some (.lst (xs.map V.int)) ∧ xs.length ≤ j ∧ xs.sum = (mark (rs.take j) l : Nat)) ⟨same_new hD, [], upd_same, Nat.le_refl _, rfl⟩ (fun j H3 _ hh => SqL.of (hh.1 _ _ (sm _ _ hR))) ?_ ?_⟩
      · rintro j y H3 H4 hj ⟨sm3, xs, hD3, lx, sx⟩ ⟨t, v1, v2, rfl, ht, rfl, hv1, hv2⟩
        obtain rfl := Option.some.inj hv1
        replace hv2 : (ts.map V.ref)[j]? = some v2 := hv2
        obtain ⟨r, hr2, rfl⟩ := get_map hv2
        obtain ⟨row, hrow, tup⟩ := paired_get rows j r hr2
        have st := same_new (o := .tup [.int (j : Nat), .ref r]) ht
        have jlt : j < rs.length := (List.getElem?_eq_some_iff.mp hrow).1
        have em : mark (rs.take (j + 1)) l = mark (rs.take j) l + if l ∈ row then 2 ^ j else 0 := by
          rw [List.take_succ, hrow]
          show mark (rs.take j ++ [row]) l = _
          rw [mark_snoc, List.length_take, Nat.min_eq_left (Nat.le_of_lt jlt)]
        have upD : Same H2 (upd H3 t (.tup [.int (j : Nat), .ref r])) := sm3.trans st
        refine ⟨t, _, rfl, SqT.of upd_same, rfl, _, _, rfl, _, _, rfl, rfl, rfl, _, rfl, _, rfl, r, _, rfl, .inr (SqT.of ((sm.trans upD) _ _ tup)), rfl, flat_str _, _, rfl, ?_⟩
        rw [if_neg (by decide), inV_str]
        by_cases m : l ∈ row
        · rw [decide_eq_true m]
          rw [if_pos m] at em
          refine iteT ⟨_, rfl, _, _, rfl, rfl, ⟨Int.natCast_nonneg _, by omega, by decide⟩, _, st _ _ hD3, by rw [List.length_map, sizeLine_eq]; omega, fun b o h => (upd_ne (ne_of_none h hD)).trans (upD b o h), xs ++ [1 * 2 ^ ((j : Nat) : Int).toNat], ?_, by rw [List.length_append]; exact Nat.succ_le_succ lx, ?_⟩
          · rw [upd_same, List.map_append]
            rfl
          · rw [List.sum_append, sx, em, Int.toNat_natCast, Int.one_mul]
            simp
        · rw [decide_eq_false m]
          rw [if_neg m, Nat.add_zero] at em
          exact iteF ⟨upD, xs, st _ _ hD3, Nat.le_succ_of_le lx, by rw [em]; exact sx⟩
      · rintro H3 ⟨sm3, xs, hD3, lx, sx⟩
        have e : rs.take (ts.map V.ref).length = rs := List.take_of_length_le (by rw [List.length_map]; omega)
        rw [e] at sx
        refine ⟨D, xs, rfl, SqL.of hD3, ?_⟩
        rw [sx]
        have hM3 := sm3 _ _ hM2
        refine ⟨_, rfl, _, rfl, M, _, rfl, DPut.k (k := Sum.inr l) hM3 (by rw [List.length_map, List.length_take, sizeLine_eq]; omega), _, rfl, fun c o h => (upd_ne (ne_of_none h hM)).trans ((sm.trans sm3) c o h), ?_⟩
        rw [upd_same, putK_new (marks_none _ fresh), List.take_succ, hl, List.map_append]
        rfl
    · rintro σ H2 ⟨o3, rfl, sm, hM2⟩
      rw [List.length_map, List.take_length] at hM2
      exact ⟨_, rfl, k M H2 sm hM hM2⟩
end
end K6
namespace K6
open PySem PySem.Spec PyProof.Rows L2 LamX NdefX EV
theorem lits_drop : ∀ (ns : List Str) (k : Nat), (lits ns).drop (2 * k) = lits (ns.drop k)
  | ns, 0 => rfl
  | [], k + 1 => by simp [lits]
  | n :: r, k + 1 => by
    show (n :: neg n :: lits r).drop (2 * k + 2) = lits (r.drop k)
    rw [← lits_drop r k]
    rfl
/-- the place of a literal, halved, tells what stands behind its name -/
theorem behN_drop : ∀ (ns : List Str) (k : Nat) (n : Str), ns.Nodup → ns[k]? = some n → behN ns n = ns.drop (k + 1)
  | [], k, n, _, h => by simp at h
  | m :: r, 0, n, nd, h => by
    have e : m = n := by simpa using h
    unfold behN
    rw [if_pos e]
    rfl
  | m :: r, k + 1, n, nd, h => by
    obtain ⟨h1, h2⟩ := List.nodup_cons.mp nd
    have h3 : r[k]? = some n := h
    have ne : ¬ m = n := fun e => h1 (e ▸ List.mem_of_getElem? h3)
    unfold behN
    rw [if_neg ne]
    exact behN_drop r k n h2 h3
theorem lits_at : ∀ (ns : List Str) (q : Bool × Str), q.2 ∈ ns → ∃ k, ns[k]? = some q.2 ∧ (lits ns)[2 * k + if q.1 then 1 else 0]? = some (lit q)
  | [], q, h => nomatch h
  | m :: r, q, h => by
    by_cases e : m = q.2
    · refine ⟨0, by rw [← e]; rfl, ?_⟩
      obtain ⟨b, n⟩ := q
      have e : m = n := e
      subst e
      cases b <;> rfl
    · obtain ⟨k, h1, h2⟩ := lits_at r q ((List.mem_cons.mp h).resolve_left fun z => e z.symm)
      refine ⟨k + 1, h1, ?_⟩
      have e2 : 2 * (k + 1) + (if q.1 then 1 else 0) = (2 * k + if q.1 then 1 else 0) + 2 := by omega
      rw [e2]
      exact h2
def spBehind : Sp := fun vs H Q _ => ∃ (A PL t : Addr) (ns : List Str) (c : QL), vs = [.ref A, .ref PL, .ref t] ∧ H A = some (.lst ((lits ns).map V.str)) ∧ H PL = some (.dK (plc ns)) ∧ H t = some (.tup ((c.map lit).map V.str)) ∧ Half ns c ∧ ns.Nodup ∧ (∀ z ∈ ns, Name1 z) ∧ ns.length ≤ 60 ∧
  ∀ p H', Same H H' → H' p = some (.lst (((nexts ns c).map lit).map V.str)) → Q (.ref p) H'
section
variable {P : Program} {w : World} {K : PySem.W.Frag} {mg : Str → Option Value} {base : Heap} {f : Addr} {fd : FuncData}
theorem scBehind : FnScope ["literals", "places", "row"] ["literals", "places", "row"] (defScope sBehind) := ⟨rfl, rfl, rfl, by decide +kernel, rfl, by decide +kernel, by decide +kernel⟩
theorem ok_behind (F : Fun K "literals_behind" "literals_behind" sBehind f fd) : FnOk P w K mg base CX0 1 f fd ["literals", "places", "row"] spBehind := by
  refine F.ok scBehind (fun vs H Q E h => ?_) (fun cdv A' outer s H vs Q E hr h => ?_)
  · obtain ⟨A, PL, t, ns, c, rfl, _⟩ := h
    rfl
  · obtain ⟨A, PL, t, ns, c, rfl, hA, hPL, ht, hh, nd, good, n60, k⟩ := h
    have hu := hu_of hr
    refine ⟨_, pss_cons (ps_if (pt_not (pt_truth (pv 2) (fun _ => rfl))) (pss_one (ps_ret (pv 0))) pss_nil)
      (pss_one (ps_ret (pe_slice sl_list (pv 0) (po_some (pe_op op_mul (pe_op op_add (pe_op op_fdiv (pe_dget hu (pv 1) (pe_ix (show IxR _ (rIxT K) from ix_tup) (pv 2) (pe_un un_neg pe_int) (fun _ _ => rfl)) (fun _ _ => rfl)) pe_int) pe_int) pe_int)) po_none))), ?_⟩
    rcases List.eq_nil_or_concat c with rfl | ⟨ps, q, rfl⟩
    · refine ⟨_, rfl, false, .inr (.inl ⟨[], SqT.of ht, rfl⟩), iteT ⟨_, rfl, k A H (Same.refl H) ?_⟩⟩
      unfold nexts
      show H A = some (.lst (((pairs ns).map lit).map V.str))
      rw [pairs_lit]
      exact hA
    · rw [List.concat_eq_append] at *
      have et : ((ps ++ [q]).map lit).map V.str = (ps.map lit).map V.str ++ [.str (lit q)] := by rw [List.map_append, List.map_append]; rfl
      rw [et] at ht
      have hq : q.2 ∈ ns := hh.subset (List.mem_map_of_mem (f := Prod.snd) (List.mem_append_right _ (List.mem_singleton.mpr rfl)))
      obtain ⟨j, h1, h2⟩ := lits_at ns q hq
      have g : DGet H PL (.str (lit q)) (some (.int ((0 + (2 * j + if q.1 then 1 else 0) : Nat) : Int))) := by
        have z := DGet.k (k := Sum.inr (lit q)) hPL
        rwa [show valV (plc ns) (Sum.inr (lit q)) = _ from plcF_at _ 0 _ (lits_nodup ns nd good) h2] at z
      refine ⟨_, rfl, true, .inr (.inl ⟨_, SqT.of ht, ?_⟩), iteF ?_⟩
      · cases (ps.map lit).map V.str <;> rfl
      have e1 : ((0 + (2 * j + if q.1 then 1 else 0) : Nat) : Int) / 2 = (j : Int) := by
        cases q.1 <;> simp <;> omega
      refine ⟨_, rfl, _, rfl, _, rfl, _, rfl, t, _, -1, _, rfl, rfl, SqT.of ht, atI_last _ _, PL, _, rfl, g, _, _, rfl, rfl, ⟨by decide, by decide⟩, _, _, rfl, rfl, _, _, rfl, rfl, ?_⟩
      refine ⟨.inr ⟨by decide, by decide⟩, _, rfl, A, _, rfl, SqL.of hA, fun p hp => ?_⟩
      refine k p _ (same_new hp) ?_
      rw [upd_same]
      have e2 : (((0 + (2 * j + if q.1 then 1 else 0) : Nat) : Int) / 2 + 1) * 2 = ((2 * (j + 1) : Nat) : Int) := by rw [e1]; omega
      have e3 : nexts ns (ps ++ [q]) = pairs (behN ns q.2) := by
        unfold nexts
        rw [List.getLast?_append]
        rfl
      rw [e2, cutV_drop, ← List.map_drop, lits_drop, ← behN_drop ns j q.2 nd h1, e3, pairs_lit]
end
end K6
/-! &, |, -, ~, < of instances with methods of their own for them: the answer is an object. -/
namespace EV
open PySem PySem.Spec PyProof.Rows L2
section
variable {X : Cx} {CX : CXT} {n : Nat} {C f : Addr} {fd : FuncData} {ps : List Str} {sp : Sp} {E : XK}
/-- what an own operator asks: it answers with an object -/
def rBin (C : Addr) (sp : Sp) (E : XK) (x y : V) (H : Hp) (Q : VK) : Prop := ∃ a dx fs, x = .ref a ∧ H a = some (.ins C dx fs) ∧ sp [.ref a, y] H (fun v H' => ∃ p, v = .ref p ∧ Q (.ref p) H') E
/-- x op y, both of this class -/
theorem op_binOwn {op : Operator} (F : FnOk X.prog X.w X.K X.mg X.base CX n f fd ps sp) (hc : PySem.W.selfFirst X.K C = true) (hs : PySem.W.findIn X.K (.ref C) (PySem.dunder op.info.2) = some (some (.ref f))) (hf : PySem.W.isFn X.K (.ref f) = true) (hb : L2.Binds X.K fd ps []) (hx : Passes CX X E) (hr : Room n X.A) :
    OpR X (binaryOp op) fun x y H Q => TyX X.K H y (.ref C) ∧ rBin C sp E x y H Q := by
  intro pins s σ H x y v u Q I rx ry h
  obtain ⟨ty, a, dx, fs, rfl, ha, hsp⟩ := h
  obtain rfl : v = Value.ref a := rx
  obtain ⟨mA, J, _⟩ := ins_get I.hok ha
  obtain ⟨od, J, _⟩ := J.look
  obtain ⟨m, hF⟩ := I.fr
  obtain ⟨P, Z, hP, _⟩ := kit_of I ry ty
  refine PySem.W.binop_K hF I.ok.mod.kin J (Z.ty _ _ I.kIn hP) hc hs hf (wpAny_mono (own_call (Q := fun v H' => ∃ p, v = .ref p ∧ Q (.ref p) H') ⟨hr, rfl⟩ I F hb hx (.cons (show RelV (.ref a) (.ref a) from rfl) (.cons ry .nil)) hsp) (fun w s' z => ?_) fun _ _ e => e)
  obtain ⟨z, H', I', rz, p, rfl, q⟩ := z
  obtain rfl : w = Value.ref p := rz
  exact ⟨.ref p, H', I', rfl, q⟩
/-- x op y, y a text -/
theorem op_binStr {op : Operator} (F : FnOk X.prog X.w X.K X.mg X.base CX n f fd ps sp) (hc : PySem.W.selfFirst X.K C = true) (hs : PySem.W.findIn X.K (.ref C) (PySem.dunder op.info.2) = some (some (.ref f))) (hf : PySem.W.isFn X.K (.ref f) = true)
    (hro : PySem.W.findIn X.K (.ref C) (dunderR op.info.2) = some none) (h1 : PySem.W.findIn X.K (.type "str") (PySem.dunder op.info.2) = some none) (h2 : PySem.W.findIn X.K (.type "str") (dunderR op.info.2) = some none) (hsub : PySem.W.subIn X.K (.type "str") (.ref C) = some false)
    (hb : L2.Binds X.K fd ps []) (hx : Passes CX X E) (hr : Room n X.A) :
    OpR X (binaryOp op) fun x y H Q => (∃ z, y = .str z) ∧ rBin C sp E x y H Q := by
  intro pins s σ H x y v u Q I rx ry h
  obtain ⟨⟨z, rfl⟩, a, dx, fs, rfl, ha, hsp⟩ := h
  obtain rfl : v = Value.ref a := rx
  obtain ⟨t, rfl⟩ := id ry
  obtain ⟨mA, J, _⟩ := ins_get I.hok ha
  obtain ⟨od, J, _⟩ := J.look
  obtain ⟨m, hF⟩ := I.fr
  refine PySem.W.ksp_binT (T := "str") hF I.ok.mod.kin J rfl hc hs hf hro (.inl rfl) h1 h2 hsub (wpAny_mono (own_call (Q := fun v H' => ∃ p, v = .ref p ∧ Q (.ref p) H') ⟨hr, rfl⟩ I F hb hx (.cons (show RelV (.ref a) (.ref a) from rfl) (.cons ry .nil)) hsp) (fun w s' z => ?_) fun _ _ e => e)
  obtain ⟨z, H', I', rz, p, rfl, q⟩ := z
  obtain rfl : w = Value.ref p := rz
  exact ⟨.ref p, H', I', rfl, q⟩
/-- ~x -/
theorem un_invOwn (F : FnOk X.prog X.w X.K X.mg X.base CX n f fd ps sp) (hs : PySem.W.findIn X.K (.ref C) "__invert__" = some (some (.ref f))) (hf : PySem.W.isFn X.K (.ref f) = true) (hb : L2.Binds X.K fd ps []) (hx : Passes CX X E) (hr : Room n X.A) :
    UnR X (unaryOp .Invert) fun x H Q => ∃ a dx fs, x = .ref a ∧ H a = some (.ins C dx fs) ∧ sp [.ref a] H Q E := by
  intro pins s σ H x v Q I rx h
  obtain ⟨a, dx, fs, rfl, ha, hsp⟩ := h
  obtain rfl : v = Value.ref a := rx
  obtain ⟨mA, J, _⟩ := ins_get I.hok ha
  obtain ⟨od, J, _⟩ := J.look
  obtain ⟨m, hF⟩ := I.fr
  exact PySem.W.ksp_inv hF I.ok.mod.kin J hs hf (own_call (Q := Q) ⟨hr, rfl⟩ I F hb hx (.cons (show RelV (.ref a) (.ref a) from rfl) .nil) hsp)
/-- < -/
theorem op_ltOwn (F : FnOk X.prog X.w X.K X.mg X.base CX n f fd ps sp) (hs : PySem.W.findIn X.K (.ref C) "__lt__" = some (some (.ref f))) (hf : PySem.W.isFn X.K (.ref f) = true) (hb : L2.Binds X.K fd ps []) (hx : Passes CX X E) (hr : Room n X.A) :
    OpR X (compareOp .Lt) fun x y H Q => ∃ t, TyX X.K H y t ∧ PySem.W.notFirst X.K C t = true ∧ rOwn C sp E x y H fun b H' => Q (.bl b) H' := by
  intro pins s σ H x y v u Q I rx ry h
  obtain ⟨t, ty, nf, a, dx, fs, rfl, ha, hsp⟩ := h
  obtain rfl : v = Value.ref a := rx
  obtain ⟨mA, J, _⟩ := ins_get I.hok ha
  obtain ⟨od, J, _⟩ := J.look
  obtain ⟨m, hF⟩ := I.fr
  obtain ⟨P, Z, hP, _⟩ := kit_of I ry ty
  show wpAny (model X.prog X.w) X.A (richCompare .Lt (.ref a) u) (EP X pins σ Q) X.xe s
  refine PySem.W.cmp_K (op := .Lt) (tb := t) hr.units0 hF I.ok.mod.kin J (Z.ty _ _ I.kIn hP) nf hs hf (wpAny_mono (own_call (Q := fun v H' => ∃ b, v = .bl b ∧ Q (.bl b) H') ⟨hr, rfl⟩ I F hb hx (.cons (show RelV (.ref a) (.ref a) from rfl) (.cons ry .nil)) hsp) (fun w s' z => ?_) fun _ _ e => e)
  obtain ⟨z, H', I', rz, b, rfl, q⟩ := z
  obtain rfl : w = Value.bool b := rz
  exact ⟨.bl b, H', I', rfl, q⟩
end
/-! ### xs[::k], k a small number -/
section
variable {X : Cx}
/-- each k-th one -/
def pickK {α : Type} (k : Nat) (xs : List α) : List α := (sliceRange 0 (xs.length : Int) (k : Int)).filterMap fun i => xs[i]?
def tStepL (K : PySem.W.Frag) (k : Nat) (te : TE) : TE := fun σ H Q => te σ H fun x H1 => ∃ a xs, x = .ref a ∧ SqL K H1 a xs ∧ ∀ p, H1 p = none → Q (.ref p) (upd H1 p (.lst (pickK k xs)))
end
end EV
namespace K6
open PySem PySem.Spec PyProof.Rows L2 LamX NdefX EV
theorem lookup_relabel_cf {env : Env} : ∀ {names : List (Str × NameKind)} {x : Str}, (names.lookup x = some .cell ∨ names.lookup x = some .free) →
    ((names.map fun (n, k) => if (k == NameKind.free && env.scope.kind == .function && env.kindOf n == some .cell) then (n, NameKind.cell) else (n, k)).lookup x = some .cell ∨
     (names.map fun (n, k) => if (k == NameKind.free && env.scope.kind == .function && env.kindOf n == some .cell) then (n, NameKind.cell) else (n, k)).lookup x = some .free)
  | [], _, h => by rcases h with h | h <;> cases h
  | (n, k) :: r, x, h => by
    have ih := @lookup_relabel_cf env r x
    show (List.lookup x ((if (k == NameKind.free && env.scope.kind == .function && env.kindOf n == some .cell) = true then (n, NameKind.cell) else (n, k)) :: _) = _ ∨ List.lookup x ((if (k == NameKind.free && env.scope.kind == .function && env.kindOf n == some .cell) = true then (n, NameKind.cell) else (n, k)) :: _) = _)
    by_cases hc : (k == NameKind.free && env.scope.kind == .function && env.kindOf n == some .cell) = true
    · rw [if_pos hc]
      cases hx : x == n with
      | true =>
        left
        simp [List.lookup_cons, hx]
      | false =>
        simp only [List.lookup_cons, hx] at h ⊢
        exact ih h
    · rw [if_neg hc]
      cases hx : x == n with
      | true =>
        simp only [List.lookup_cons, hx] at h ⊢
        exact h
      | false =>
        simp only [List.lookup_cons, hx] at h ⊢
        exact ih h
theorem blk_in {N : List Str} {sc scope : Scope} {own : List (Str × Nat)} {env : Env} (h : BlkOk N sc scope own) : BlkOk N (relabel sc env) scope own :=
  ⟨h.kind, h.uniq, h.ix, fun y hy e => lookup_relabel_cf (h.free y hy e), h.own⟩
theorem without_snoc (c : QL) (q l : Bool × Str) : without (c ++ [q]) l = without c l ++ if q = l then [] else [q] := by
  unfold without
  rw [List.filter_append]
  congr 1
  by_cases e : q = l
  · rw [if_pos e, List.filter_cons_of_neg (by rw [e]; simp), List.filter_nil]
  · rw [if_neg e, List.filter_cons_of_pos (by simpa using e), List.filter_nil]
def spShort (K : PySem.W.Frag) : Sp := fun vs H Q _ => ∃ (M A R : Addr) (ns : List Str) (rs : List (List Str)) (c : QL) (ts : List V), vs = [.ref M, .ref A, .ref R] ∧ H M = some (.dK ((lits ns).map (markKv rs))) ∧ H A = some (.tup ((c.map lit).map V.str)) ∧ (∀ q ∈ c, q.2 ∈ ns) ∧ (∀ z ∈ ns, Name1 z) ∧ c.length ≤ 60 ∧ H R = some (.lst ts) ∧ ts.length = rs.length ∧ rs.length ≤ 64 ∧
  ∀ H', Same H H' → Q (.bl (c.all fun l => !consB rs (without c l))) H'
section
variable {P : Program} {w : World} {K : PySem.W.Frag} {mg : Str → Option Value} {base : Heap} {f fC : Addr} {fd fdC : FuncData}
abbrev nShort : List Str := ["marks", "clause", "rows", "shorter", "literal", "left", "part"]
abbrev scLeft : Scope := { kind := .function, names := [(".0", .local), ("left", .cell), ("clause", .free)], isGenerator := false, isCoroutine := false }
theorem scShort : FnScope nShort ["marks", "clause", "rows"] (defScope sIsShortest) := ⟨rfl, rfl, rfl, by decide +kernel, rfl, by decide +kernel, by decide +kernel⟩
theorem ok_short (F : Fun K "is_shortest" "is_shortest" sIsShortest f fd) (any : mg "any" = none) (GC : FnOk P w K mg base CX0 1 fC fdC ["marks", "clause", "rows"] (spCons K)) (mC : mg "is_consequence" = some (.ref fC)) (kC : PySem.W.keepIn K (.ref fC) = true) (bC : L2.Binds K fdC ["marks", "clause", "rows"] []) :
    FnOk P w K mg base CX0 2 f fd ["marks", "clause", "rows"] (spShort K) := by
  refine F.ok scShort (fun vs H Q E h => ?_) (fun cdv A' outer s H vs Q E hr h => ?_)
  · obtain ⟨M, A, R, ns, rs, c, ts, rfl, _⟩ := h
    rfl
  · obtain ⟨M, A, R, ns, rs, c, ts, rfl, hM, hA, sub, good, c60, hR, lt, r64, k⟩ := h
    have hu := hu_of hr
    refine ⟨_, pss_cons (ps_setLc (i := 3) (own := [("left", 5)]) (g := gName 5) (tt := tYes) (by rfl) scShort.nd rfl rfl (sw_true rfl rfl rfl (by decide +kernel)) (pi_seq (pv 1)) (blkOk_by (N := nShort) (sc := defScope sIsShortest) (by decide +kernel))
            (fun _ _ _ _ _ => pg_name (i := 5) scShort.nd rfl (.inr rfl)) (fun _ _ _ _ _ => pts_nil)
            (fun _ _ _ _ _ => show PE _ _ (tLc (iSeq K _) _ _ _ _) from pe_lc (own := [("literal", 4)]) (g := gName 4) rfl scShort.nd (pi_seq (pv 1)) (blk_in (sc := scLeft) (blkOk_by (N := nShort) (sc := scLeft) (by decide +kernel)))
                (fun _ _ _ _ _ => pg_name (i := 4) scShort.nd rfl (.inl rfl)) (fun _ _ _ _ _ => pts_one (pt_cmpR op_ne (pv 4) (pv 5) (nomark _))) (fun _ _ _ _ _ => pv 4)))
      (pss_one (ps_ret (pe_not (pe_callB (cr_any rfl) (by rfl) any (by decide +kernel) (pa_cons (pe_lc (own := [("part", 6)]) (g := gName 6) (tt := tYes) rfl scShort.nd (pi_list (pv 3)) (blkOk_by (N := nShort) (sc := defScope sIsShortest) (by decide +kernel))
          (fun _ _ _ _ _ => pg_name (i := 6) scShort.nd rfl (.inl rfl)) (fun _ _ _ _ _ => pts_nil) (fun _ _ _ _ _ => pe_call GC hr (by rfl) mC kC bC .nil pass0 (pa_cons (pv 0) (pa_cons (pv 6) (pa_cons (pv 2) pa_nil))))) pa_nil))))), ?_⟩
    refine ⟨_, rfl, false, A, _, rfl, Sq.tup hA, fun D hD => lc_it walk_sq (fun i H2 => Same H H2 ∧ ∃ ws, H2 D = some (.lst (ws.map V.ref)) ∧ Paired (fun a (p : QL) => a ≠ D ∧ H2 a = some (.lst ((p.map lit).map V.str))) ws ((c.take i).map (without c))) ⟨same_new hD, [], upd_same, .nil⟩ (fun i H2 _ hh => Sq.tup (hh.1 _ _ hA)) ?_ ?_⟩
    · rintro i v H2 H3 hi ⟨sm, ws, hD2, rw2⟩ ⟨rfl, hv⟩
      obtain ⟨l0, hl0, rfl⟩ := get_map hv
      obtain ⟨l, hl, rfl⟩ := get_map hl0
      have er : c.take (i + 1) = c.take i ++ [l] := by rw [List.take_succ, hl]; rfl
      have gl := good _ (sub l (List.mem_of_getElem? hl))
      have lws : ws.length ≤ 60 := by
        have z1 := Paired.length rw2
        rw [List.length_map, List.length_take] at z1
        omega
      refine ⟨rfl, _, rfl, false, A, _, rfl, Sq.tup (sm _ _ hA), fun L hL => lc_it walk_sq (fun j H4 => Same H3 H4 ∧ H4 L = some (.lst (((without (c.take j) l).map lit).map V.str))) ⟨same_new hL, upd_same⟩ (fun j H4 _ hh => Sq.tup (hh.1 _ _ (sm _ _ hA))) ?_ ?_⟩
      · rintro j v2 H4 H5 hj ⟨sm4, hL4⟩ ⟨rfl, hv2⟩
        obtain ⟨z0, hz0, rfl⟩ := get_map hv2
        obtain ⟨q, hq, rfl⟩ := get_map hz0
        have gq := good _ (sub q (List.mem_of_getElem? hq))
        have er2 : c.take (j + 1) = c.take j ++ [q] := by rw [List.take_succ, hq]; rfl
        have lw : (without (c.take j) l).length ≤ 60 := by
          have z1 : (without (c.take j) l).length ≤ (c.take j).length := List.length_filter_le _ _
          have z2 := List.length_take_le' j c
          omega
        refine ⟨rfl, _, rfl, _, rfl, rfl, _, rfl, ?_⟩
        by_cases e : q = l
        · have e2 : (!decide (V.str (lit q) = V.str (lit l))) = false := by rw [decide_eq_true (by rw [e])]; rfl
          rw [e2]
          refine iteF ⟨sm4, ?_⟩
          rw [er2, without_snoc, if_pos e, List.append_nil]
          exact hL4
        · have e2 : (!decide (V.str (lit q) = V.str (lit l))) = true := by rw [decide_eq_false fun h => e (lit_inj gq gl (by injection h))]; rfl
          rw [e2]
          refine iteT ⟨_, rfl, _, hL4, by rw [List.length_map, List.length_map, sizeLine_eq]; omega, fun b o h => (upd_ne (ne_of_none h hL)).trans (sm4 b o h), ?_⟩
          rw [upd_same, er2, without_snoc, if_neg e, List.map_append, List.map_append]
          rfl
      · rintro H4 ⟨sm4, hL4⟩
        have e : c.take ((c.map lit).map V.str).length = c := List.take_of_length_le (by rw [List.length_map, List.length_map]; exact Nat.le_refl _)
        rw [e] at hL4
        have ne3 : L ≠ D := (ne_of_none hD2 hL).symm
        refine ⟨_, sm4 _ _ hD2, by rw [List.length_map, sizeLine_eq]; omega, fun b o h => (upd_ne (ne_of_none h hD)).trans (sm4 _ _ (sm b o h)), ws ++ [L], by rw [upd_same, List.map_append]; rfl, ?_⟩
        rw [er, List.map_append]
        exact Paired.snoc (Paired.mapP rw2 fun b z y => ⟨y.1, (upd_ne y.1).trans (sm4 _ _ y.2)⟩) ⟨ne3, (upd_ne ne3).trans hL4⟩
    · rintro H2 ⟨sm, ws, hD2, rw2⟩
      have e : c.take ((c.map lit).map V.str).length = c := List.take_of_length_le (by rw [List.length_map, List.length_map]; exact Nat.le_refl _)
      rw [e] at rw2
      have lws : ws.length = c.length := by
        have z1 := Paired.length rw2
        rwa [List.length_map] at z1
      refine ⟨_, rfl, D, rfl, ⟨_, SqL.of hD2⟩, fun L1 hL1 => lc_it (walk_list (xs := ws.map V.ref)) (fun i H3 => Same H2 H3 ∧ H3 L1 = some (.lst (((c.take i).map fun l => consB rs (without c l)).map V.bl))) ⟨same_new hL1, upd_same⟩ (fun i H3 _ hh => SqL.of (hh.1 _ _ hD2)) ?_ ?_⟩
      · rintro i v H3 H4 hi ⟨sm3, hL3⟩ ⟨rfl, hv⟩
        obtain ⟨a, ha, rfl⟩ := get_map hv
        obtain ⟨p, hp, _, hap⟩ := paired_get rw2 i a ha
        rw [List.getElem?_map] at hp
        obtain ⟨l, hl, rfl⟩ := Option.map_eq_some_iff.mp hp
        have er : c.take (i + 1) = c.take i ++ [l] := by rw [List.take_succ, hl]; rfl
        have lt2 := List.length_take_le' i c
        refine ⟨rfl, _, rfl, _, rfl, _, rfl, M, a, R, true, ns, rs, without c l, ts, rfl, sm3 _ _ (sm _ _ hM), SqL.of (sm3 _ _ hap), (fun q hq => sub q (List.mem_filter.mp hq).1), SqL.of (sm3 _ _ (sm _ _ hR)), lt, r64, ?_⟩
        refine ⟨_, hL3, by rw [List.length_map, List.length_map, sizeLine_eq]; omega, fun b o h => (upd_ne (ne_of_none h hL1)).trans (sm3 b o h), ?_⟩
        rw [upd_same, er, List.map_append, List.map_append]
        rfl
      · rintro H3 ⟨sm3, hL3⟩
        rw [List.length_map, lws, List.take_length] at hL3
        refine ⟨L1, _, rfl, SqL.of hL3, _, rfl, ?_⟩
        have e2 : (!(c.map fun l => consB rs (without c l)).any id) = c.all fun l => !consB rs (without c l) := by
          rw [List.any_map, List.not_any_eq_all_not]
          rfl
        rw [e2]
        exact k H3 (sm.trans sm3)
end
end K6
namespace K6
open PySem PySem.Spec PyProof.Rows L2 LamX NdefX EV
/-! ### how many there are -/
abbrev ctx (c : QL) : List Str := c.map lit
theorem pairs_len : ∀ ns : List Str, (pairs ns).length = 2 * ns.length
  | [] => rfl
  | n :: r => by
    show ((false, n) :: (true, n) :: pairs r).length = 2 * (r.length + 1)
    rw [List.length_cons, List.length_cons, pairs_len r]
    omega
theorem nexts_len {ns : List Str} (n6 : ns.length ≤ 6) (c : QL) : (nexts ns c).length ≤ 12 := by
  unfold nexts
  split
  · rw [pairs_len]; omega
  · rw [pairs_len]
    have := (behN_sub ns (by assumption : Bool × Str).2).length_le
    omega
theorem flat_len {α β : Type} {f : α → List β} {m : Nat} : ∀ l : List α, (∀ a ∈ l, (f a).length ≤ m) → (l.flatMap f).length ≤ m * l.length
  | [], _ => Nat.zero_le _
  | a :: l, h => by
    have ih := flat_len l fun b hb => h b (List.mem_cons_of_mem _ hb)
    have z := h a List.mem_cons_self
    rw [List.flatMap_cons, List.length_append, List.length_cons, Nat.mul_succ]
    omega
theorem level_len {ns : List Str} (n6 : ns.length ≤ 6) : ∀ k : Nat, (level ns k).length ≤ 12 ^ k
  | 0 => Nat.le_refl _
  | k + 1 => by
    have ih := level_len n6 k
    rw [level_succ, Nat.pow_succ]
    have z := flat_len (f := ext1 ns) (m := 12) (level ns k) fun c _ => by
      unfold ext1
      rw [List.length_map]
      exact nexts_len n6 c
    have := Nat.mul_le_mul_left 12 ih
    omega
theorem parts_len {ns : List Str} (n6 : ns.length ≤ 6) (nd : ns.Nodup) (rs : List (List Str)) (k : Nat) : (parts ns rs k).length ≤ 2985984 := by
  rw [parts_eq]
  have z := List.length_filter_le (noPre rs) (level ns k)
  by_cases h : k ≤ 6
  · have y := level_len n6 k
    have x : 12 ^ k ≤ 12 ^ 6 := Nat.pow_le_pow_right (by decide) h
    have : 12 ^ 6 = 2985984 := by decide
    omega
  · rw [level_end nd (by omega)]
    exact Nat.zero_le _
theorem upTo_len {ns : List Str} (n6 : ns.length ≤ 6) (rs : List (List Str)) : ∀ k : Nat, (upTo ns rs k).length ≤ 12 ^ k
  | 0 => Nat.zero_le _
  | k + 1 => by
    have ih := upTo_len n6 rs k
    have e : upTo ns rs (k + 1) = upTo ns rs k ++ (level ns k).filter (primeB rs) := by
      unfold upTo
      rw [List.range_succ, List.flatMap_append]
      simp
    rw [e, List.length_append, Nat.pow_succ]
    have z := List.length_filter_le (primeB rs) (level ns k)
    have y := level_len n6 k
    have : 1 ≤ 12 ^ k := Nat.one_le_pow _ _ (by decide)
    omega
/-- what the loop has grown behind j clauses -/
def grown (ns : List Str) (rs : List (List Str)) (ps : List QL) : List QL := (ps.filter fun c => !consB rs c).flatMap (ext1 ns)
theorem grown_app (ns : List Str) (rs : List (List Str)) (a b : List QL) : grown ns rs (a ++ b) = grown ns rs a ++ grown ns rs b := by
  unfold grown
  rw [List.filter_append, List.flatMap_append]
theorem grown_take (ns : List Str) (rs : List (List Str)) (ps : List QL) (j : Nat) : (grown ns rs (ps.take j)).length ≤ (grown ns rs ps).length := by
  have e := grown_app ns rs (ps.take j) (ps.drop j)
  rw [List.take_append_drop] at e
  rw [e, List.length_append]
  omega
theorem parts_grown (ns : List Str) (rs : List (List Str)) (k : Nat) : parts ns rs (k + 1) = grown ns rs (parts ns rs k) := rfl
theorem parts_some {ns : List Str} (nd : ns.Nodup) {rs : List (List Str)} {k : Nat} (h : parts ns rs k ≠ []) : k ≤ ns.length := by
  refine Nat.le_of_not_lt fun lt => h ?_
  rw [parts_eq, level_end nd lt]
  rfl
theorem rows_map_len {H : Hp} {us : List Addr} {cs : List QL} (h : RowsAt H us (cs.map ctx)) : us.length = cs.length := by
  have z := Paired.length h
  rwa [List.length_map] at z
def spShortC (K : PySem.W.Frag) : Sp := fun vs H Q _ => ∃ (T R : Addr) (b : Bool) (ns : List Str) (rs : List (List Str)) (ts : List Addr), vs = [.ref T, .ref R] ∧ (∀ H', Same H H' → Sq K b H' T (ns.map V.str)) ∧ ns.length ≤ 6 ∧ ns.Nodup ∧ (∀ z ∈ ns, Name1 z) ∧ H R = some (.lst (ts.map V.ref)) ∧ RowsAt H ts rs ∧ rs.length ≤ 64 ∧
  ∀ p us H', Same H H' → H p = none → H' p = some (.lst (us.map V.ref)) → RowsAt H' us ((primes ns rs).map ctx) → Q (.ref p) H'
def ShW (T R LT PL M F : Addr) (H0 : Hp) (ns : List Str) (rs : List (List Str)) : Nat → L2.St → Hp → Prop := fun m σ H => ∃ (k : Nat) (p : Addr) (ps uf : List Addr) (o7 o8 : Option V), m = ns.length + 1 - k ∧ k ≤ ns.length + 1 ∧ σ = [some (.ref T), some (.ref R), some (.ref LT), some (.ref PL), some (.ref M), some (.ref F), some (.ref p), o7, o8, none] ∧ Same H0 H ∧ F ≠ p ∧ H p = some (.lst (ps.map V.ref)) ∧ RowsAt H ps ((parts ns rs k).map ctx) ∧ H F = some (.lst (uf.map V.ref)) ∧ RowsAt H uf ((upTo ns rs k).map ctx)
structure ShI (H0 : Hp) (F p D : Addr) (ps : List Addr) (ns : List Str) (rs : List (List Str)) (k j : Nat) (H : Hp) : Prop where
  sm : Same H0 H
  hp : H p = some (.lst (ps.map V.ref))
  rp : RowsAt H ps ((parts ns rs k).map ctx)
  hF : ∃ uf : List Addr, H F = some (.lst (uf.map V.ref)) ∧ RowsAt H uf ((upTo ns rs k ++ ((parts ns rs k).take j).filter (primeB rs)).map ctx)
  hD : ∃ ud : List Addr, H D = some (.lst (ud.map V.ref)) ∧ RowsAt H ud ((grown ns rs ((parts ns rs k).take j)).map ctx)
section
variable {P : Program} {w : World} {K : PySem.W.Frag} {mg : Str → Option Value} {base : Heap} {f fL fP fM fC fS fB : Addr} {fd fdL fdP fdM fdC fdS fdB : FuncData}
abbrev nShortC : List Str := ["names", "rows", "literals", "places", "marks", "found", "parts", "longer", "clause", "literal"]
theorem scShortC : FnScope nShortC ["names", "rows"] (defScope sShortestP) := ⟨rfl, rfl, rfl, by decide +kernel, rfl, by decide +kernel, by decide +kernel⟩
theorem ok_shortC (F : Fun K "shortest_clauses" "shortest_clauses" sShortestP f fd)
    (GL : FnOk P w K mg base CX0 1 fL fdL ["names"] (spLits K)) (mL : mg "literals_of" = some (.ref fL)) (kL : PySem.W.keepIn K (.ref fL) = true) (bL : L2.Binds K fdL ["names"] [])
    (GP : FnOk P w K mg base CX0 2 fP fdP ["names"] (spPlaces K)) (mP : mg "places_of" = some (.ref fP)) (kP : PySem.W.keepIn K (.ref fP) = true) (bP : L2.Binds K fdP ["names"] [])
    (GM : FnOk P w K mg base CX0 1 fM fdM ["literals", "rows"] (spMarks K)) (mM : mg "row_marks" = some (.ref fM)) (kM : PySem.W.keepIn K (.ref fM) = true) (bM : L2.Binds K fdM ["literals", "rows"] [])
    (GC : FnOk P w K mg base CX0 1 fC fdC ["marks", "clause", "rows"] (spCons K)) (mC : mg "is_consequence" = some (.ref fC)) (kC : PySem.W.keepIn K (.ref fC) = true) (bC : L2.Binds K fdC ["marks", "clause", "rows"] [])
    (GS : FnOk P w K mg base CX0 2 fS fdS ["marks", "clause", "rows"] (spShort K)) (mS : mg "is_shortest" = some (.ref fS)) (kS : PySem.W.keepIn K (.ref fS) = true) (bS : L2.Binds K fdS ["marks", "clause", "rows"] [])
    (GB : FnOk P w K mg base CX0 1 fB fdB ["literals", "places", "row"] spBehind) (mB : mg "literals_behind" = some (.ref fB)) (kB : PySem.W.keepIn K (.ref fB) = true) (bB : L2.Binds K fdB ["literals", "places", "row"] []) :
    FnOk P w K mg base CX0 3 f fd ["names", "rows"] (spShortC K) := by
  refine F.ok scShortC (fun vs H Q E h => ?_) (fun cdv A' outer s H vs Q E hr h => ?_)
  · obtain ⟨T, R, b, ns, rs, ts, rfl, _⟩ := h
    rfl
  · obtain ⟨T, R, b, ns, rs, ts, rfl, hT, n6, nd, good, hR, rows, r64, k⟩ := h
    have hu := hu_of hr
    have hr1 : Room 1 _ := hr.mono (by decide)
    have hr2 : Room 2 _ := hr.mono (by decide)
    refine ⟨_, pss_cons (ps_set (i := 2) scShortC.nd rfl (.inl rfl) (pe_call GL hr1 (by rfl) mL kL bL .nil pass0 (pa_cons (pv 0) pa_nil)))
      (pss_cons (ps_set (i := 3) scShortC.nd rfl (.inl rfl) (pe_call GP hr2 (by rfl) mP kP bP .nil pass0 (pa_cons (pv 0) pa_nil)))
      (pss_cons (ps_set (i := 4) scShortC.nd rfl (.inl rfl) (pe_call GM hr1 (by rfl) mM kM bM .nil pass0 (pa_cons (pv 2) (pa_cons (pv 1) pa_nil))))
      (pss_cons (ps_set (i := 5) scShortC.nd rfl (.inl rfl) (pe_lst pa_nil))
      (pss_cons (ps_set (i := 6) scShortC.nd rfl (.inl rfl) (pe_lst (pa_cons (pe_tup pa_nil) pa_nil)))
      (pss_cons (ps_while PassesOwn.never (pt_truth (pv 6) (fun _ => rfl))
        (pss_cons (ps_set (i := 7) scShortC.nd rfl (.inl rfl) (pe_lst pa_nil))
        (pss_cons (ps_for PassesOwn.never rfl (pi_list (pv 6)) (pg_name (i := 8) scShortC.nd rfl (.inr rfl))
          (pss_one (ps_if (pt_not (pt_val (pe_call GC hr1 (by rfl) mC kC bC .nil pass0 (pa_cons (pv 4) (pa_cons (pv 8) (pa_cons (pv 1) pa_nil))))))
            (pss_one (ps_expr (pe_bm PySem.F.plainAttrs_list PySem.F.slot_list_extend PySem.F.type_list_extend mt_extend (pv 7) (pa_cons
              (pe_lc (own := [("literal", 9)]) (g := gName 9) (tt := tYes) rfl scShortC.nd (pi_list (pe_call GB hr1 (by rfl) mB kB bB .nil pass0 (pa_cons (pv 2) (pa_cons (pv 3) (pa_cons (pv 8) pa_nil))))) (blkOk_by (N := nShortC) (sc := defScope sShortestP) (by decide +kernel))
                (fun _ _ _ _ _ => pg_name (i := 9) scShortC.nd rfl (.inl rfl)) (fun _ _ _ _ _ => pts_nil) (fun _ _ _ _ _ => pe_tup (show PA _ _ (StX.tStar K _ _) from StX.pa_star (pv 8) (pa_cons (pv 9) pa_nil)))) pa_nil))))
            (pss_one (ps_if (pt_val (pe_call GS hr2 (by rfl) mS kS bS .nil pass0 (pa_cons (pv 4) (pa_cons (pv 8) (pa_cons (pv 1) pa_nil)))))
              (pss_one (ps_expr (pe_bm PySem.F.plainAttrs_list PySem.F.slot_list_append PySem.F.type_list_append mt_append (pv 5) (pa_cons (pv 8) pa_nil)))) pss_nil)))))
        (pss_one (ps_set (i := 6) scShortC.nd rfl (.inl rfl) (pv 7))))))
      (pss_one (ps_ret (pv 5)))))))), ?_⟩
    have g8 : ∀ z ∈ ns, z.length ≤ 8 := fun z hz => (good z hz).2.1
    have lt : ts.length = rs.length := Paired.length rows
    refine ⟨_, rfl, T, b, ns, rfl, hT H (Same.refl H), hT, by omega, g8, fun LT H1 hLT hLT1 sm1 => ?_⟩
    refine ⟨_, rfl, T, b, ns, rfl, hT H1 sm1, (fun H' s' => hT H' (sm1.trans s')), by omega, nd, good, fun PL H2 hPL hPL2 sm2 => ?_⟩
    have sm02 := sm1.trans sm2
    refine ⟨_, rfl, _, rfl, LT, R, lits ns, rs, ts, rfl, sm2 _ _ hLT1, lits_nodup ns nd good, by rw [lits_len]; omega, sm02 _ _ hR, rows.same sm02, r64, fun M H3 sm3 hM2 hM3 => ?_⟩
    have sm03 := sm02.trans sm3
    refine ⟨Nat.zero_le _, fun Fo hFo => ?_⟩
    refine ⟨Nat.zero_le _, fun t0 ht0 => ⟨(by show 1 ≤ sizeLine; decide), fun p0 hp0 => ?_⟩⟩
    have sF : Same H3 _ := same_new (o := .lst []) hFo
    have st : Same (upd H3 Fo (.lst [])) _ := same_new (o := .tup []) ht0
    have sp : Same (upd (upd H3 Fo (.lst [])) t0 (.tup [])) _ := same_new (o := .lst [.ref t0]) hp0
    have hFo1 := sp _ _ (st _ _ (upd_same (H := H3) (a := Fo) (o := .lst [])))
    have hFoH : H Fo = none := sm03.free hFo
    refine ⟨ShW T R LT PL M Fo H3 ns rs, ⟨ns.length + 1, 0, p0, [t0], [], none, none, rfl, Nat.zero_le _, rfl, sF.trans (st.trans sp), ?_, upd_same, .cons (sp _ _ upd_same) .nil, hFo1, .nil⟩, ?_⟩
    · exact ne_of_none (st _ _ (upd_same (H := H3) (a := Fo) (o := .lst []))) hp0
    rintro m σ H4 ⟨j, p, ps, uf, o7, o8, rfl, hj, rfl, sm4, neF, hp4, rp4, hF4, rf4⟩
    have lps := rows_map_len rp4
    refine ⟨_, rfl, _, .inl ⟨_, SqL.of hp4, rfl⟩, ?_⟩
    cases ps with
    | nil =>
      have e : parts ns rs j = [] := List.eq_nil_of_length_eq_zero lps.symm
      rw [upTo_all nd e] at rf4
      rw [if_neg (by decide)]
      exact ⟨_, rfl, k Fo uf H4 (sm03.trans sm4) hFoH hF4 rf4⟩
    | cons a0 ps' =>
      generalize eps : a0 :: ps' = ps at hp4 rp4 lps ⊢
      have le : j ≤ ns.length := parts_some nd (rs := rs) fun e => by rw [e, ← eps] at lps; simp at lps
      rw [show (!(ps.map V.ref).isEmpty) = true from by rw [← eps]; rfl, if_pos rfl]
      refine ⟨ShW T R LT PL M Fo H3 ns rs (ns.length + 1 - (j + 1)), fun σ' H' h => ⟨_, by omega, h⟩, ?_⟩
      refine ⟨Nat.zero_le _, fun D hD => ?_⟩
      have hD3 : H3 D = none := sm4.free hD
      have neFD : Fo ≠ D := ne_of_none hF4 hD
      have nepD : p ≠ D := ne_of_none hp4 hD
      have sD : Same H4 _ := same_new (o := .lst []) hD
      have p12 := parts_len n6 nd rs (j + 1)
      rw [parts_grown] at p12
      have p11 := parts_len n6 nd rs j
      have u12 : (upTo ns rs j).length ≤ 2985984 := by
        have z := upTo_len n6 rs j
        have y : 12 ^ j ≤ 12 ^ 6 := Nat.pow_le_pow_right (by decide) (by omega)
        have : 12 ^ 6 = 2985984 := by decide
        omega
      refine ⟨_, rfl, p, rfl, ⟨_, SqL.of (sD _ _ hp4)⟩, for_list (K := K) (a := p) (xs := ps.map V.ref) (fun i σ H5 => ∃ o8, σ = [some (.ref T), some (.ref R), some (.ref LT), some (.ref PL), some (.ref M), some (.ref Fo), some (.ref p), some (.ref D), o8, none] ∧ ShI H3 Fo p D ps ns rs j i H5) ⟨_, rfl, ⟨sm4.trans sD, sD _ _ hp4, rp4.same sD, ⟨uf, sD _ _ hF4, ?_⟩, [], upd_same, .nil⟩⟩ (fun i σ H5 _ ⟨_, _, I⟩ => SqL.of I.hp) ?_ ?_⟩
      · rw [List.take_zero, List.filter_nil, List.append_nil]
        exact rf4.same sD
      · rintro i v σ H5 hv ⟨o8', rfl, I⟩
        obtain ⟨sm5, hp5, rp5, ⟨uf5, hF5, rF5⟩, ⟨ud5, hD5, rD5⟩⟩ := I
        obtain ⟨t, ht, rfl⟩ := get_map hv
        obtain ⟨row, hrow, hrt⟩ := RowsAt.get rp5 i t ht
        rw [List.getElem?_map] at hrow
        obtain ⟨c, hc, rfl⟩ := Option.map_eq_some_iff.mp hrow
        have er : (parts ns rs j).take (i + 1) = (parts ns rs j).take i ++ [c] := by rw [List.take_succ, hc]; rfl
        have hh : Half ns c := by
          have z := List.mem_of_getElem? hc
          rw [parts_eq] at z
          exact ((mem_level nd j c).mp (List.mem_filter.mp z).1).2
        have sub : ∀ q ∈ c, q.2 ∈ ns := fun q hq => hh.subset (List.mem_map_of_mem (f := Prod.snd) hq)
        have cl : c.length ≤ 6 := by
          have z := hh.length_le
          rw [List.length_map] at z
          omega
        have hrt : H5 t = some (.tup ((c.map lit).map V.str)) := hrt
        have hM5 := sm5 _ _ hM3
        have hR5 := (sm03.trans sm5) _ _ hR
        refine ⟨_, rfl, _, rfl, _, rfl, M, t, R, false, ns, rs, c, ts.map V.ref, rfl, hM5, Sq.tup hrt, sub, SqL.of hR5, by rw [List.length_map]; exact lt, r64, _, rfl, ?_⟩
        have lg := grown_take ns rs (parts ns rs j) (i + 1)
        rw [er] at lg
        cases ec : consB rs c with
        | false =>
          have eg : grown ns rs ((parts ns rs j).take i ++ [c]) = grown ns rs ((parts ns rs j).take i) ++ ext1 ns c := by
            rw [grown_app]
            unfold grown
            rw [List.filter_cons_of_pos (by rw [ec]; rfl)]
            simp
          rw [eg, List.length_append] at lg
          have le1 : (ext1 ns c).length = (nexts ns c).length := by
            unfold ext1
            rw [List.length_map]
          have lud := rows_map_len rD5
          refine iteT ⟨_, rfl, .inl ⟨rfl, _, SqL.of hD5⟩, _, rfl, _, rfl, _, rfl, LT, PL, t, ns, c, rfl, (sm2.trans (sm3.trans sm5)) _ _ hLT1, (sm3.trans sm5) _ _ hPL2, hrt, hh, nd, good, by omega, fun B H6 sm6 hB6 => ?_⟩
          have hrt6 := sm6 _ _ hrt
          refine ⟨B, rfl, ⟨_, SqL.of hB6⟩, fun Eo hE => lc_it (walk_list (xs := ((nexts ns c).map lit).map V.str)) (fun m H7 => Same H6 H7 ∧ ∃ vs, H7 Eo = some (.lst (vs.map V.ref)) ∧ RowsAt H7 vs ((((nexts ns c).take m).map fun q => c ++ [q]).map ctx)) ⟨same_new hE, [], upd_same, .nil⟩ (fun m H7 _ hh => SqL.of (hh.1 _ _ hB6)) ?_ ?_⟩
          · rintro m z H7 H8 hm ⟨sm7, vs, hE7, rv⟩ ⟨rfl, hz⟩
            obtain ⟨l0, hl0, rfl⟩ := get_map hz
            obtain ⟨q, hq, rfl⟩ := get_map hl0
            have er2 : (nexts ns c).take (m + 1) = (nexts ns c).take m ++ [q] := by rw [List.take_succ, hq]; rfl
            have hrt7 := sm7 _ _ hrt6
            have lv : vs.length ≤ 12 := by
              have z1 := rows_map_len rv
              rw [List.length_map, List.length_take] at z1
              have z2 := nexts_len n6 c
              omega
            refine ⟨rfl, _, rfl, t, _, rfl, .inl (SqT.of hrt7), _, rfl, by rw [List.length_append, List.length_map, List.length_map, sizeLine_eq]; show _ + 1 ≤ _; omega, fun g hg => ?_⟩
            have sg : Same H8 _ := same_new (o := .tup ((c.map lit).map V.str ++ [.str (lit q)])) hg
            refine ⟨_, sg _ _ hE7, by rw [List.length_map, sizeLine_eq]; omega, fun b' o h => (upd_ne (ne_of_none h hE)).trans (sg _ _ (sm7 b' o h)), vs ++ [g], ?_, ?_⟩
            · rw [upd_same, List.map_append]
              rfl
            · rw [er2, List.map_append, List.map_append]
              refine RowsAt.put (sg _ _ hE7) (rows_snoc (rv.same sg) ?_)
              show upd _ _ _ _ = _
              rw [upd_same]
              show _ = some (HO.tup (((c ++ [q]).map lit).map V.str))
              rw [List.map_append, List.map_append]
              rfl
          · rintro H7 ⟨sm7, vs, hE7, rv⟩
            rw [List.length_map, List.length_map, List.take_length] at rv
            have rv : RowsAt H7 vs ((ext1 ns c).map ctx) := rv
            have lv := rows_map_len rv
            have s57 := sm6.trans sm7
            have hD7 := s57 _ _ hD5
            refine ⟨D, Eo, _, _, rfl, rfl, hD7, hE7, by rw [List.length_map, List.length_map, sizeLine_eq]; omega, _, rfl, ⟨fun b' o h => (upd_ne (ne_of_none h hD3)).trans (s57 _ _ (sm5 b' o h)), (upd_ne nepD).trans (s57 _ _ hp5), RowsAt.put hD7 (rp5.same s57), ⟨uf5, (upd_ne neFD).trans (s57 _ _ hF5), RowsAt.put hD7 ?_⟩, ud5 ++ vs, ?_, RowsAt.put hD7 ?_⟩⟩
            · rw [er, List.filter_append, List.filter_cons_of_neg (by unfold primeB; rw [ec]; exact Bool.false_ne_true), List.filter_nil, List.append_nil]
              exact rF5.same s57
            · rw [upd_same, List.map_append]
            · rw [er, eg, List.map_append]
              exact paired_app (rD5.same s57) rv
        | true =>
          have eg : grown ns rs ((parts ns rs j).take i ++ [c]) = grown ns rs ((parts ns rs j).take i) := by
            rw [grown_app]
            unfold grown
            rw [List.filter_cons_of_neg (l := []) (by rw [ec]; decide)]
            simp
          refine iteF ⟨_, rfl, _, rfl, _, rfl, M, t, R, ns, rs, c, ts.map V.ref, rfl, hM5, hrt, sub, good, by omega, hR5, by rw [List.length_map]; exact lt, r64, fun H6 sm6 => ⟨_, rfl, ?_⟩⟩
          have luf := rows_map_len rF5
          have lfi := List.length_filter_le (primeB rs) ((parts ns rs j).take i)
          have lti := List.length_take_le' i (parts ns rs j)
          rw [List.length_append] at luf
          cases es : (c.all fun l => !consB rs (without c l)) with
          | true =>
            have pr : primeB rs c = true := by unfold primeB; rw [ec, es]; rfl
            have hF6 := sm6 _ _ hF5
            refine iteT ⟨_, rfl, .inl ⟨rfl, _, SqL.of hF6⟩, _, rfl, Fo, _, _, rfl, rfl, hF6, by rw [List.length_map, sizeLine_eq]; omega, _, rfl, ⟨fun b' o h => (upd_ne (ne_of_none h hFo)).trans (sm6 _ _ (sm5 b' o h)), (upd_ne neF.symm).trans (sm6 _ _ hp5), RowsAt.put hF6 (rp5.same sm6), ⟨uf5 ++ [t], ?_, RowsAt.put hF6 ?_⟩, ud5, (upd_ne neFD.symm).trans (sm6 _ _ hD5), RowsAt.put hF6 ?_⟩⟩
            · rw [upd_same, List.map_append]
              rfl
            · rw [er, List.filter_append, List.filter_cons_of_pos pr, ← List.append_assoc, List.map_append]
              exact rows_snoc (rF5.same sm6) (sm6 _ _ hrt)
            · rw [er, eg]
              exact rD5.same sm6
          | false =>
            have pr : ¬ primeB rs c = true := by unfold primeB; rw [ec, es]; decide
            refine iteF ⟨_, rfl, ⟨sm5.trans sm6, sm6 _ _ hp5, rp5.same sm6, ⟨uf5, sm6 _ _ hF5, ?_⟩, ud5, sm6 _ _ hD5, ?_⟩⟩
            · rw [er, List.filter_append, List.filter_cons_of_neg pr, List.filter_nil, List.append_nil]
              exact rF5.same sm6
            · rw [er, eg]
              exact rD5.same sm6
      · rintro σ H5 ⟨o8', rfl, I⟩
        obtain ⟨sm5, hp5, rp5, ⟨uf5, hF5, rF5⟩, ⟨ud5, hD5, rD5⟩⟩ := I
        rw [List.length_map, lps, List.take_length] at rF5 rD5
        rw [← upTo_succ nd] at rF5
        exact ⟨_, rfl, j + 1, D, ud5, uf5, _, _, rfl, by omega, rfl, sm5, neFD, hD5, rD5, hF5, rF5⟩
end
end K6
namespace K6
open PySem PySem.Spec PyProof.Rows L2 LamX NdefX EV
/-! ### a half-filled setting handed over -/
/-- a list or a tuple that stands in the heap -/
def HS (H : Hp) (A : Addr) (b : Bool) (xs : List V) : Prop := H A = some (if b = true then .lst xs else .tup xs)
theorem HS.same {H H' : Hp} {A : Addr} {b : Bool} {xs : List V} (h : HS H A b xs) (sm : Same H H') : HS H' A b xs := sm _ _ h
theorem HS.sq {K : PySem.W.Frag} {H : Hp} {A : Addr} {b : Bool} {xs : List V} (h : HS H A b xs) : Sq K b H A xs := by
  cases b
  · exact Sq.tup h
  · exact Sq.lst h
theorem HS.at2 {K : PySem.W.Frag} {H : Hp} {A : Addr} {b : Bool} {xs : List V} (h : HS H A b xs) : SqL K H A xs ∨ SqT K H A xs := by
  cases b
  · exact .inr (SqT.of h)
  · exact .inl (SqL.of h)
theorem HS.ty {K : PySem.W.Frag} {H : Hp} {A : Addr} {b : Bool} {xs : List V} (h : HS H A b xs) : TyX K H (.ref A) (.type (if b = true then "list" else "tuple")) := by
  cases b
  · exact .base (.tup h)
  · exact .base (.lst h)
theorem HS.ne {H : Hp} {A d : Addr} {b : Bool} {xs : List V} {ws : List (List Key × V)} (h : HS H A b xs) (hd : H d = some (.dT ws)) : A ≠ d := by
  cases b
  · exact ne_of h hd fun z => nomatch z
  · exact ne_of h hd fun z => nomatch z
theorem HS.ask {K : PySem.W.Frag} {H : Hp} {ns : List Str} {A : Addr} {b : Bool} {h : QL} (a : HS H A b ((h.map lit).map V.str)) (hq : Lits ns h) : Ask K H ns true (.ref A) :=
  .seq _ (fun _ s' => (a.same s').ty) (kit_seq b) (fun _ s' => (a.same s').sq) fun _ _ => .ok hq
def spShortest (K : PySem.W.Frag) (C : Addr) : Sp := fun vs H Q _ => ∃ (x r : Addr) (sg : List Str) (rs : List (List Str)), vs = [.ref x] ∧ RuleR K C H x sg rs r ∧ sg.length ≤ 6 ∧ sg.Nodup ∧ (∀ z ∈ sg, Name1 z) ∧ rs.length ≤ 64 ∧
  ∀ p us H', Same H H' → H p = none → H' p = some (.lst (us.map V.ref)) → RowsAt H' us ((primes sg rs).map ctx) → Q (.ref p) H'
def spChkSet (K : PySem.W.Frag) : Sp := fun vs H Q _ => ∃ (PL : Addr) (x : V) (ns : List Str), vs = [.ref PL, x] ∧ H PL = some (.dK (plc ns)) ∧ ns.length ≤ 60 ∧ ns.Nodup ∧ (∀ z ∈ ns, Name1 z) ∧ Ask K H ns true x ∧ ∀ H', Same H H' → Q .non H'
def forcedQ (H : Hp) (Q : VK) : Option (List Str) → Prop
  | none => ∀ H', Same H H' → Q .non H'
  | some fs => ∀ p H', Same H H' → H p = none → H' p = some (.lst (fs.map V.str)) → Q (.ref p) H'
def spForced (K : PySem.W.Frag) (C : Addr) : Sp := fun vs H Q _ => ∃ (x r A : Addr) (b : Bool) (sg : List Str) (rs : List (List Str)) (h : QL), vs = [.ref x, .ref A] ∧ RuleR K C H x sg rs r ∧ sg.length ≤ 6 ∧ sg.Nodup ∧ (∀ z ∈ sg, Name1 z) ∧ rs.length ≤ 64 ∧ (∀ q ∈ rs, q.length ≤ 60) ∧ HS H A b ((h.map lit).map V.str) ∧ Lits sg h ∧ forcedQ H Q (forcedOf rs h)
abbrev sForced : Stmt := inClass (top 27) 3
abbrev sShortest : Stmt := inClass (top 27) 4
section
variable {P : Program} {w : World} {K : PySem.W.Frag} {mg : Str → Option Value} {base : Heap} {f fC fL fW fI C : Addr} {fd fdC fdL fdW fdI : FuncData}
theorem scShortest : FnScope ["self"] ["self"] (defScope sShortest) := ⟨rfl, rfl, rfl, by decide +kernel, rfl, by decide +kernel, by decide +kernel⟩
theorem ok_shortest (F : Fun K "shortest" "Rule.shortest" sShortest f fd) (T : RTxt K mg C)
    (GC : FnOk P w K mg base CX0 3 fC fdC ["names", "rows"] (spShortC K)) (mC : mg "shortest_clauses" = some (.ref fC)) (kC : PySem.W.keepIn K (.ref fC) = true) (bC : L2.Binds K fdC ["names", "rows"] []) :
    FnOk P w K mg base CX0 4 f fd ["self"] (spShortest K C) := by
  refine F.ok scShortest (fun vs H Q E h => ?_) (fun cdv A' outer s H vs Q E hr h => ?_)
  · obtain ⟨x, r, sg, rs, rfl, _⟩ := h
    rfl
  · obtain ⟨x, r, sg, rs, rfl, ⟨dx, a, pl, hx, ha, _, hr4⟩, n6, nd, good, few, k⟩ := h
    refine ⟨_, pss_one (ps_ret (pe_call GC hr (by rfl) mC kC bC .nil pass0 (pa_cons (pe_fld (pv 0) rfl) (pa_cons (pe_callTy (call_list_dT rfl) (by rfl) T.list (by decide +kernel) (pa_cons (pe_fld (pv 0) rfl) pa_nil)) pa_nil)))), ?_⟩
    refine ⟨_, rfl, x, C, dx, _, _, rfl, hx, T.cl, T.n1, fl1 .., _, rfl, x, C, dx, _, _, rfl, hx, T.cl, T.n3, fl3 .., r, _, rfl, .inl hr4, fun p bs hp hk => ?_⟩
    have sm := same_new (o := .lst (bs.map V.ref)) hp
    refine ⟨a, p, false, sg, rs, bs, rfl, (fun H' s' => ha H' (sm.trans s')), n6, nd, good, upd_same, (keys_rows rs bs hk).same sm, few, fun q us H' s' hq hq' rows => k q us H' (sm.trans s') ?_ hq' rows⟩
    cases e : H q with
    | none => rfl
    | some o => rw [sm _ _ e] at hq; cases hq
theorem scChkSet : FnScope ["places", "setting", "wrong"] ["places", "setting"] (defScope sChkSetting) := ⟨rfl, rfl, rfl, by decide +kernel, rfl, by decide +kernel, by decide +kernel⟩
theorem ok_chkSet (F : Fun K "check_setting" "check_setting" sChkSetting f fd) (GL : FnOk P w K mg base CX0 1 fL fdL ["thing"] (spIsList K)) (mL : mg "is_list" = some (.ref fL)) (kL : PySem.W.keepIn K (.ref fL) = true) (bL : L2.Binds K fdL ["thing"] [])
    (GW : FnOk P w K mg base CX0 2 fW fdW ["places", "things"] (spWrong K)) (mW : mg "first_wrong" = some (.ref fW)) (kW : PySem.W.keepIn K (.ref fW) = true) (bW : L2.Binds K fdW ["places", "things"] []) :
    FnOk P w K mg base CX0 3 f fd ["places", "setting"] (spChkSet K) := by
  refine F.ok scChkSet (fun vs H Q E h => ?_) (fun cdv A' outer s H vs Q E hr h => ?_)
  · obtain ⟨PL, x, ns, rfl, _⟩ := h
    rfl
  · obtain ⟨PL, x, ns, rfl, hPL, n60, nd, good, ask, k⟩ := h
    have hr1 : Room 1 _ := hr.mono (by decide)
    refine ⟨_, pss_cons (ps_if (pt_not (pt_val (pe_call GL hr1 (by rfl) mL kL bL .nil pass0 (pa_cons (pv 1) pa_nil)))) (pss_one ps_none) pss_nil)
      (pss_cons (ps_set (i := 2) scChkSet.nd rfl (.inl rfl) (pe_call GW hr (by rfl) mW kW bW .nil pass0 (pa_cons (pv 0) (pa_cons (pv 1) pa_nil))))
      (pss_one (ps_if (pt_cmpR op_notN (pv 2) pe_non rfl) (pss_one ps_none) pss_nil))), ?_⟩
    generalize er : true = r at ask
    cases ask with
    | @seq b A xs _ t ty kit sq see =>
      subst er
      refine ⟨_, rfl, .ref A, t, true, rfl, ty, kit, fun H1 sm1 => ⟨_, rfl, iteF ⟨_, rfl, _, rfl, PL, A, b, ns, xs, true, rfl, sm1 _ _ hPL, sq H1 sm1, (fun H2 s2 => sq H2 (sm1.trans s2)), n60, nd, good, see H1 sm1, fun H2 sm2 => ?_⟩⟩⟩
      rw [if_pos rfl]
      exact ⟨_, rfl, rfl, _, rfl, iteF (k H2 (sm1.trans sm2))⟩
    | odd t ty kit => cases er
end
end K6
namespace K6
open PySem PySem.Spec PyProof.Rows L2 LamX NdefX EV
/-- a step of a filter, seen from the front -/
theorem filt_step {α : Type} {f : α → Bool} {xs : List α} {i : Nat} {x : α} (h : xs[i]? = some x) : (xs.take (i + 1)).filter f = (xs.take i).filter f ++ if f x = true then [x] else [] := by
  rw [List.take_succ, h, List.filter_append]
  congr 1
  cases e : f x with
  | true => exact List.filter_cons_of_pos e
  | false => exact List.filter_cons_of_neg (by rw [e]; decide)
theorem filt_len {α : Type} {f : α → Bool} {xs : List α} {i : Nat} : ((xs.take i).filter f).length ≤ xs.length := by
  have z1 := List.length_filter_le f (xs.take i)
  have z2 := List.length_take_le' i xs
  omega
theorem strs_app (a : List Str) (x : Str) : (a.map V.str) ++ [V.str x] = (a ++ [x]).map V.str := by rw [List.map_append]; rfl
section
variable {P : Program} {w : World} {K : PySem.W.Frag} {mg : Str → Option Value} {base : Heap} {f fI C : Addr} {fd fdI : FuncData}
abbrev nForced : List Str := ["self", "setting", "fitting", "common", "row", "literal"]
theorem scForced : FnScope nForced ["self", "setting"] (defScope sForced) := ⟨rfl, rfl, rfl, by decide +kernel, rfl, by decide +kernel, by decide +kernel⟩
abbrev scF1 : Scope := { kind := .function, names := [(".0", .local), ("row", .cell), ("all", .globalImplicit), ("setting", .free)], isGenerator := false, isCoroutine := false }
abbrev scF2 : Scope := { kind := .function, names := [(".0", .local), ("literal", .cell), ("all", .globalImplicit), ("fitting", .free)], isGenerator := false, isCoroutine := false }
theorem ok_forced (F : Fun K "forced" "Rule.forced" sForced f fd) (T : RTxt K mg C) (ma : mg "all" = none)
    (GI : FnOk P w K mg base CX0 3 fI fdI ["places", "setting"] (spChkSet K)) (mI : mg "check_setting" = some (.ref fI)) (kI : PySem.W.keepIn K (.ref fI) = true) (bI : L2.Binds K fdI ["places", "setting"] []) :
    FnOk P w K mg base CX0 4 f fd ["self", "setting"] (spForced K C) := by
  refine F.ok scForced (fun vs H Q E h => ?_) (fun cdv A' outer s H vs Q E hr h => ?_)
  · obtain ⟨x, r, A, b, sg, rs, h, rfl, _⟩ := h
    rfl
  · obtain ⟨x, r, A, b, sg, rs, h, rfl, cx, n6, nd, good, few, short, hA, hq, k⟩ := h
    obtain ⟨dx, a, pl, hx, ha, hpl, hr4⟩ := cx.at_
    refine ⟨_, pss_cons (ps_expr (pe_call GI hr (by rfl) mI kI bI .nil pass0 (pa_cons (pe_fld (pv 0) rfl) (pa_cons (pv 1) pa_nil))))
      (pss_cons (ps_set (i := 2) scForced.nd rfl (.inr rfl) (pe_lock (pe_lc (own := [("row", 4)]) (g := gName 4) rfl scForced.nd (pi_keys (pe_fld (pv 0) rfl)) (blkOk_by (N := nForced) (sc := defScope sForced) (by decide +kernel))
          (fun _ _ _ _ _ => pg_name (i := 4) scForced.nd rfl (.inr rfl))
          (fun _ _ _ _ _ => pts_one (show PT _ _ (tB (tCB (rAll K) (tCons (tLc (iSeq K _) _ _ (tOp (rIn K false) _ _) _) tNil))) from pt_val (pe_callB (cr_all rfl) (by rfl) ma (by decide +kernel) (pa_cons (pe_lc (own := [("literal", 5)]) (g := gName 5) (tt := tYes) rfl scForced.nd (pi_seq (pv 1)) (blk_in (sc := scF1) (blkOk_by (N := nForced) (sc := scF1) (by decide +kernel)))
              (fun _ _ _ _ _ => pg_name (i := 5) scForced.nd rfl (.inl rfl)) (fun _ _ _ _ _ => pts_nil) (fun _ _ _ _ _ => show PE _ _ (tOp (rIn K false) _ _) from pe_cmpR op_in_seq (pv 5) (pv 4) rfl)) pa_nil)))) (fun _ _ _ _ _ => pv 4))))
      (pss_cons (ps_if (pt_not (pt_truth (pv 2) (fun _ => rfl))) (pss_one (ps_ret pe_non)) pss_nil)
      (pss_cons (ps_setLc (i := 3) (own := [("literal", 5)]) (g := gName 5) (by rfl) scForced.nd rfl rfl (sw_true rfl rfl rfl (by decide +kernel)) (pi_seq (pe_ix ix_list (pv 2) pe_int (fun _ _ => rfl))) (blkOk_by (N := nForced) (sc := defScope sForced) (by decide +kernel))
          (fun _ _ _ _ _ => pg_name (i := 5) scForced.nd rfl (.inr rfl))
          (fun _ _ _ _ _ => pts_one (show PT _ _ (tB (tCB (rAll K) (tCons (tLc (iList K _) _ _ (tOp (rIn K false) _ _) _) tNil))) from pt_val (pe_callB (cr_all rfl) (by rfl) ma (by decide +kernel) (pa_cons (pe_lc (own := [("row", 4)]) (g := gName 4) (tt := tYes) rfl scForced.nd (pi_list (pv 2)) (blk_in (sc := scF2) (blkOk_by (N := nForced) (sc := scF2) (by decide +kernel)))
              (fun _ _ _ _ _ => pg_name (i := 4) scForced.nd rfl (.inl rfl)) (fun _ _ _ _ _ => pts_nil) (fun _ _ _ _ _ => show PE _ _ (tOp (rIn K false) _ _) from pe_cmpR op_in_seq (pv 5) (pv 4) rfl)) pa_nil)))) (fun _ _ _ _ _ => pv 5))
      (pss_one (ps_ret (pe_lc (own := [("literal", 5)]) (g := gName 5) rfl scForced.nd (pi_list (pv 3)) (blkOk_by (N := nForced) (sc := defScope sForced) (by decide +kernel))
          (fun _ _ _ _ _ => pg_name (i := 5) scForced.nd rfl (.inl rfl)) (fun _ _ _ _ _ => pts_one (show PT _ _ (tTest (tOp (rIn K true) _ _)) from pt_cmpR op_notIn_seq (pv 5) (pv 1) rfl)) (fun _ _ _ _ _ => pv 5))))))), ?_⟩
    have lh : h.length ≤ 6 := by
      have z := nodup_le (h.map Prod.snd) sg hq.nd fun n hn => by
        obtain ⟨q, hq', rfl⟩ := List.mem_map.mp hn
        exact hq.sub q hq'
      rw [List.length_map] at z
      omega
    refine ⟨_, rfl, x, C, dx, _, _, rfl, hx, T.cl, T.n2, fl2 .., _, rfl, pl, .ref A, sg, rfl, hpl, by omega, nd, good, hA.ask hq, fun H1 sm1 => ?_⟩
    have hd1 := sm1 _ _ hr4
    have hx1 := sm1 _ _ hx
    have hA1 := hA.same sm1
    have nxr : x ≠ r := ne_of hx1 hd1 fun z => nomatch z
    have nAr : A ≠ r := hA1.ne hd1
    refine ⟨r, _, hd1, trivial, fun od => ?_⟩
    have g0 : Grow r H1 (upd H1 r (.frz od (.dT (rs.map rowKv)))) := Grow.put
    refine ⟨_, rfl, x, C, dx, _, _, rfl, (upd_ne nxr).trans hx1, T.cl, T.n3, fl3 .., r, od, rfl, .inr ⟨_, upd_same, fun L hL => lc_it walk_keysT (fun i H2 => H2 r = some (.frz od (.dT (rs.map rowKv))) ∧ (∃ us, H2 L = some (.lst (us.map V.ref)) ∧ RowsAt H2 us ((rs.take i).filter (fitB h))) ∧ Grow r H1 H2) ?_ (fun i H2 _ hh => hh.1) ?_ ?_⟩⟩
    · have nrL : r ≠ L := ne_of_none (show upd H1 r (.frz od (.dT (rs.map rowKv))) r = some _ from upd_same) hL
      exact ⟨(upd_ne nrL).trans upd_same, ⟨[], upd_same, .nil⟩, fun c o nc e => (upd_ne (ne_of_none (g0 c o nc e) hL)).trans (g0 c o nc e)⟩
    · rintro i v H2 H3 hi ⟨hr2, ⟨us, hL2, ru⟩, g2⟩ ⟨rfl, kk, vv, q, hkv, rfl, hq2⟩
      obtain ⟨row, hrow, ekv⟩ := get_map hkv
      injection ekv with ek ev
      rw [ek, kV_strs] at hq2
      have hA2 : HS _ A b _ := g2 _ _ nAr hA1
      have lus : us.length ≤ 64 := by
        have z1 := Paired.length ru
        have z2 := filt_len (f := fitB h) (xs := rs) (i := i)
        omega
      have lr := short row (List.mem_of_getElem? hrow)
      refine ⟨rfl, _, rfl, b, A, _, rfl, hA2.sq, fun Lb hLb => lc_it walk_sq (fun j H4 => Same _ H4 ∧ H4 Lb = some (.lst (((h.take j).map fun q => decide (lit q ∈ row)).map V.bl))) ⟨same_new hLb, upd_same⟩ (fun j H4 _ hh => (hA2.same hh.1).sq) ?_ ?_⟩
      · rintro j v2 H4 H5 hj ⟨sm4, hL4⟩ ⟨rfl, hv2⟩
        obtain ⟨l0, hl0, rfl⟩ := get_map hv2
        obtain ⟨l, hl, rfl⟩ := get_map hl0
        have er2 : h.take (j + 1) = h.take j ++ [l] := by rw [List.take_succ, hl]; rfl
        have lt2 := List.length_take_le' j h
        refine ⟨rfl, _, rfl, _, rfl, q, _, rfl, .inr (SqT.of (sm4 _ _ hq2)), rfl, flat_str _, ?_⟩
        rw [if_neg (by decide), inV_str]
        refine ⟨_, hL4, by rw [List.length_map, List.length_map, sizeLine_eq]; omega, fun c o e => (upd_ne (ne_of_none e hLb)).trans (sm4 c o e), ?_⟩
        rw [upd_same, er2, List.map_append, List.map_append]
        rfl
      · rintro H4 ⟨sm4, hL4⟩
        rw [List.length_map, List.length_map, List.take_length] at hL4
        refine ⟨Lb, _, rfl, SqL.of hL4, _, rfl, ?_⟩
        have e2 : (h.map fun q => decide (lit q ∈ row)).all id = fitB h row := by
          unfold fitB
          rw [List.all_map]
          rfl
        rw [e2]
        have st := filt_step (f := fitB h) hrow
        have nrL : r ≠ L := ne_of hr2 hL2 fun z => nomatch z
        cases ef : fitB h row with
        | false =>
          rw [ef, if_neg (by decide), List.append_nil] at st
          refine iteF ⟨sm4 _ _ hr2, ⟨us, sm4 _ _ hL2, ?_⟩, fun c o nc e => sm4 _ _ (g2 c o nc e)⟩
          rw [st]
          exact ru.same sm4
        | true =>
          rw [ef, if_pos rfl] at st
          refine iteT ⟨_, rfl, _, sm4 _ _ hL2, by rw [List.length_map, sizeLine_eq]; omega, (upd_ne nrL).trans (sm4 _ _ hr2), ⟨us ++ [q], by rw [upd_same, List.map_append]; rfl, ?_⟩, fun c o nc e => ?_⟩
          · rw [st]
            exact RowsAt.put (sm4 _ _ hL2) (rows_snoc (ru.same sm4) (sm4 _ _ hq2))
          · have hL1 : H1 L = none := by
              have y := hL
              rwa [upd_ne (ne_of_none (show upd H1 r (.frz od (.dT (rs.map rowKv))) r = some _ from upd_same) hL).symm] at y
            exact (upd_ne (ne_of_none e hL1)).trans (sm4 _ _ (g2 c o nc e))
    rintro H2 ⟨hr2, ⟨us, hL2, ru⟩, g2⟩
    rw [List.length_map, List.take_length] at ru
    have ru : RowsAt H2 us (fits rs h) := ru
    have nLr : L ≠ r := ne_of hL2 hr2 fun z => nomatch z
    have smU : Same H1 (upd H2 r (.dT (rs.map rowKv))) := fun c o e => by
      by_cases q : c = r
      · rw [q, hd1] at e
        rw [q, upd_same, e]
      · exact (upd_ne q).trans (g2 c o q e)
    have ruU : RowsAt (upd H2 r (.dT (rs.map rowKv))) us (fits rs h) := Paired.mapP ru fun b q z => (upd_ne (ne_of z hr2 fun z => nomatch z)).trans z
    have hLU : upd H2 r (.dT (rs.map rowKv)) L = some (.lst (us.map V.ref)) := (upd_ne nLr).trans hL2
    have hL1 : H1 L = none := by
      have y := hL
      rwa [upd_ne (ne_of_none (show upd H1 r (.frz od (.dT (rs.map rowKv))) r = some _ from upd_same) hL).symm] at y
    refine ⟨hr2, ?_⟩
    generalize upd H2 r (.dT (rs.map rowKv)) = H3 at smU ruU hLU ⊢
    have sm3 := sm1.trans smU
    have hA3 := hA.same sm3
    have lfu : us.length = (fits rs h).length := Paired.length ruU
    have lf64 : (fits rs h).length ≤ 64 := Nat.le_trans (List.length_filter_le _ _) few
    refine ⟨_, rfl, _, .inl ⟨_, SqL.of hLU, rfl⟩, ?_⟩
    cases ef : fits rs h with
    | nil =>
      rw [ef] at lfu
      obtain rfl : us = [] := List.eq_nil_of_length_eq_zero lfu
      have e : forcedOf rs h = none := by
        unfold forcedOf
        rw [ef]
      rw [e] at k
      exact iteT (k H3 sm3)
    | cons r0 rest =>
      have e : forcedOf rs h = some (r0.filter fun l => !decide (l ∈ h.map lit) && (r0 :: rest).all fun r => decide (l ∈ r)) := by
        unfold forcedOf
        rw [ef]
      rw [e] at k
      rw [ef] at lfu lf64 ruU
      cases us with
      | nil => cases lfu
      | cons t0 us =>
      have lr0 : r0.length ≤ 60 := short r0 (List.mem_filter.mp (show r0 ∈ fits rs h by rw [ef]; exact List.mem_cons_self)).1
      obtain ⟨r0', e0, ht0⟩ := RowsAt.get ruU 0 t0 rfl
      obtain rfl : r0 = r0' := by simpa using e0
      have ht0 : H3 t0 = some (.tup (r0.map V.str)) := ht0
      refine iteF ⟨_, rfl, L, _, 0, .ref t0, rfl, rfl, SqL.of hLU, atI_nat (j := 0) rfl, false, t0, _, rfl, Sq.tup ht0, fun D hD => lc_it walk_sq (fun i H4 => Same H3 H4 ∧ H4 D = some (.lst (((r0.take i).filter fun l => (r0 :: rest).all fun r => decide (l ∈ r)).map V.str))) ⟨same_new hD, upd_same⟩ (fun i H4 _ hh => Sq.tup (hh.1 _ _ ht0)) ?_ ?_⟩
      · rintro i v H4 H5 hi ⟨sm4, hD4⟩ ⟨rfl, hv⟩
        obtain ⟨l, hl, rfl⟩ := get_map hv
        refine ⟨rfl, _, rfl, L, rfl, ⟨_, SqL.of (sm4 _ _ hLU)⟩, fun Lb hLb => lc_it (walk_list (xs := (t0 :: us).map V.ref)) (fun j H6 => Same _ H6 ∧ H6 Lb = some (.lst ((((r0 :: rest).take j).map fun r => decide (l ∈ r)).map V.bl))) ⟨same_new hLb, upd_same⟩ (fun j H6 _ hh => SqL.of (hh.1 _ _ (sm4 _ _ hLU))) ?_ ?_⟩
        · rintro j v2 H6 H7 hj ⟨sm6, hL6⟩ ⟨rfl, hv2⟩
          obtain ⟨t, ht, rfl⟩ := get_map hv2
          obtain ⟨row, hrow, hrt⟩ := RowsAt.get ruU j t ht
          have er2 : (r0 :: rest).take (j + 1) = (r0 :: rest).take j ++ [row] := by rw [List.take_succ, hrow]; rfl
          have lt2 := List.length_take_le' j (r0 :: rest)
          have hrt : H3 t = some (.tup (row.map V.str)) := hrt
          refine ⟨rfl, _, rfl, _, rfl, t, _, rfl, .inr (SqT.of (sm6 _ _ (sm4 _ _ hrt))), rfl, flat_str _, ?_⟩
          rw [if_neg (by decide), inV_str]
          refine ⟨_, hL6, by rw [List.length_map, List.length_map, sizeLine_eq]; omega, fun c o e => (upd_ne (ne_of_none e hLb)).trans (sm6 c o e), ?_⟩
          rw [upd_same, er2, List.map_append, List.map_append]
          rfl
        · rintro H6 ⟨sm6, hL6⟩
          rw [List.length_map, lfu, List.take_length] at hL6
          refine ⟨Lb, _, rfl, SqL.of hL6, _, rfl, ?_⟩
          have e2 : ((r0 :: rest).map fun r => decide (l ∈ r)).all id = (r0 :: rest).all fun r => decide (l ∈ r) := by
            rw [List.all_map]
            rfl
          rw [e2]
          have st := filt_step (f := fun l => (r0 :: rest).all fun r => decide (l ∈ r)) hl
          have sl := filt_len (f := fun l => (r0 :: rest).all fun r => decide (l ∈ r)) (xs := r0) (i := i)
          cases ea : ((r0 :: rest).all fun r => decide (l ∈ r)) with
          | false =>
            rw [ea, if_neg (by decide), List.append_nil] at st
            refine iteF ⟨sm4.trans sm6, ?_⟩
            rw [st]
            exact sm6 _ _ hD4
          | true =>
            rw [ea, if_pos rfl] at st
            refine iteT ⟨_, rfl, _, sm6 _ _ hD4, by rw [List.length_map, sizeLine_eq]; omega, fun c o e => (upd_ne (ne_of_none e hD)).trans (sm6 _ _ (sm4 c o e)), ?_⟩
            rw [upd_same, st, strs_app]
      rintro H4 ⟨sm4, hD4⟩
      rw [List.length_map, List.take_length] at hD4
      have hA4 := hA3.same sm4
      generalize eC : r0.filter (fun l => (r0 :: rest).all fun r => decide (l ∈ r)) = cm at hD4
      have lcm : cm.length ≤ 60 := by
        rw [← eC]
        exact Nat.le_trans (List.length_filter_le _ _) lr0
      refine ⟨_, rfl, D, rfl, ⟨_, SqL.of hD4⟩, fun R hR => lc_it (walk_list (xs := cm.map V.str)) (fun i H5 => Same H4 H5 ∧ H5 R = some (.lst (((cm.take i).filter fun l => !decide (l ∈ h.map lit)).map V.str))) ⟨same_new hR, upd_same⟩ (fun i H5 _ hh => SqL.of (hh.1 _ _ hD4)) ?_ ?_⟩
      · rintro i v H5 H6 hi ⟨sm5, hR5⟩ ⟨rfl, hv⟩
        obtain ⟨l, hl, rfl⟩ := get_map hv
        have st := filt_step (f := fun l => !decide (l ∈ h.map lit)) hl
        have sl := filt_len (f := fun l => !decide (l ∈ h.map lit)) (xs := cm) (i := i)
        refine ⟨rfl, _, rfl, _, rfl, A, _, rfl, (hA4.same sm5).at2, rfl, flat_str _, _, rfl, ?_⟩
        rw [if_pos rfl, inV_str]
        cases en : (!decide (l ∈ h.map lit)) with
        | false =>
          rw [en, if_neg (by decide), List.append_nil] at st
          refine iteF ⟨sm5, ?_⟩
          rw [st]
          exact hR5
        | true =>
          rw [en, if_pos rfl] at st
          refine iteT ⟨_, rfl, _, hR5, by rw [List.length_map, sizeLine_eq]; omega, fun c o e => (upd_ne (ne_of_none e hR)).trans (sm5 c o e), ?_⟩
          rw [upd_same, st, strs_app]
      · rintro H5 ⟨sm5, hR5⟩
        rw [List.length_map, List.take_length, ← eC, List.filter_filter] at hR5
        exact k R H5 (sm3.trans (sm4.trans sm5)) ((sm3.trans sm4).free hR) hR5
end
end K6
namespace K6
open PySem PySem.Spec PyProof.Rows L2 LamX NdefX EV
/-! ### the law's own small defs -/
theorem cut_first {q : Bool × Str} (g : Name1 q.2) : (cutS (lit q) none (some 1) = Str.ofString "-" ↔ q.1 = true) := by
  have e1 : ∀ z : Str, 1 ≤ z.length → cutS z none (some 1) = Str.mk ((z.cps.toList.take 1).toArray) := fun z hz => by
    unfold cutS
    rw [HT.sIx_none, show HT.sIx z.length z.length (some 1) = min 1 z.length from HT.sIx_nat _ _ 1, Nat.min_eq_left hz, List.drop_zero]
  obtain ⟨b, n⟩ := q
  obtain ⟨g1, g2, g3⟩ := g
  replace g1 : 1 ≤ n.length := g1
  replace g3 : ∀ ch ∈ n.cps.toList, 97 ≤ ch ∧ ch ≤ 122 := g3
  cases b
  · have z : cutS (lit (false, n)) none (some 1) = Str.mk ((n.cps.toList.take 1).toArray) := e1 n g1
    rw [z]
    refine ⟨fun h => ?_, fun h => nomatch h⟩
    cases e : n.cps.toList with
    | nil =>
      have y : n.length = n.cps.toList.length := (Array.length_toList).symm
      rw [e] at y
      simp at y
      omega
    | cons c t =>
      rw [e] at h
      have h2 := congrArg (fun s : Str => s.cps.toList) h
      replace h2 : [c] = [45] := h2
      have c45 : c = 45 := by injection h2
      have := (g3 c (by rw [e]; exact List.mem_cons_self)).1
      omega
  · have z : cutS (lit (true, n)) none (some 1) = Str.mk (((neg n).cps.toList.take 1).toArray) := e1 (neg n) (by rw [neg_len]; omega)
    rw [z, neg_list]
    exact ⟨fun _ => rfl, fun _ => rfl⟩
def spOpp : Sp := fun vs H Q _ => ∃ q : Bool × Str, vs = [.str (lit q)] ∧ Name1 q.2 ∧ Q (.str (lit (opp q))) H
def spBare : Sp := fun vs H Q _ => ∃ q : Bool × Str, vs = [.str (lit q)] ∧ Name1 q.2 ∧ Q (.str q.2) H
section
variable {P : Program} {w : World} {K : PySem.W.Frag} {mg : Str → Option Value} {base : Heap} {f fS C : Addr} {fd fdS : FuncData}
theorem scNeg : FnScope ["_law_one"] ["_law_one"] (defScope sNeg) := ⟨rfl, rfl, rfl, by decide +kernel, rfl, by decide +kernel, by decide +kernel⟩
theorem ok_neg (F : Fun K "_law_neg" "_law_neg" sNeg f fd) : FnOk P w K mg base CX0 1 f fd ["_law_one"] spOpp := by
  refine F.ok scNeg (fun vs H Q E h => ?_) (fun cdv A outer s H vs Q E hr h => ?_)
  · obtain ⟨q, rfl, _⟩ := h
    rfl
  · obtain ⟨q, rfl, good, k⟩ := h
    have n8 := good.2.1
    refine ⟨_, pss_one (ps_ret (pe_ifExp (pt_cmpR op_eq (pe_slice sl_str (pv 0) po_none (po_some pe_int)) pe_str (nomark _)) (pe_slice sl_str (pv 0) (po_some pe_int) po_none) (pe_op op_add_str pe_str (pv 0)))), ?_⟩
    have ll : (lit q).length ≤ sizeLine := by
      obtain ⟨b, n⟩ := q
      replace n8 : n.length ≤ 8 := n8
      cases b
      · show n.length ≤ _
        rw [sizeLine_eq]; omega
      · show (neg n).length ≤ _
        rw [neg_len, sizeLine_eq]; omega
    refine ⟨_, rfl, _, rfl, lit q, rfl, ll, rfl, _, rfl, ?_⟩
    obtain ⟨b, n⟩ := q
    replace n8 : n.length ≤ 8 := n8
    cases b
    · have e : decide (V.str (cutS (lit (false, n)) none (some 1)) = V.str (Str.ofString "-")) = false := decide_eq_false fun h => by
        injection h with h
        exact Bool.noConfusion ((cut_first good).mp h)
      rw [e]
      refine iteF ⟨_, rfl, _, _, rfl, rfl, ?_, k⟩
      show 1 + n.length ≤ sizeLine
      rw [sizeLine_eq]; omega
    · have e : decide (V.str (cutS (lit (true, n)) none (some 1)) = V.str (Str.ofString "-")) = true := decide_eq_true (by rw [(cut_first (q := (true, n)) good).mpr rfl])
      rw [e]
      refine iteT ⟨_, rfl, _, rfl, lit (true, n), rfl, ll, ?_⟩
      rw [show cutS (lit (true, n)) (some 1) none = n from cut_neg n]
      exact k
theorem scBare : FnScope ["_law_one"] ["_law_one"] (defScope sBare) := ⟨rfl, rfl, rfl, by decide +kernel, rfl, by decide +kernel, by decide +kernel⟩
theorem ok_bare (F : Fun K "_law_bare" "_law_bare" sBare f fd) : FnOk P w K mg base CX0 1 f fd ["_law_one"] spBare := by
  refine F.ok scBare (fun vs H Q E h => ?_) (fun cdv A outer s H vs Q E hr h => ?_)
  · obtain ⟨q, rfl, _⟩ := h
    rfl
  · obtain ⟨q, rfl, good, k⟩ := h
    have n8 := good.2.1
    refine ⟨_, pss_one (ps_ret (pe_ifExp (pt_cmpR op_eq (pe_slice sl_str (pv 0) po_none (po_some pe_int)) pe_str (nomark _)) (pe_slice sl_str (pv 0) (po_some pe_int) po_none) (pv 0))), ?_⟩
    have ll : (lit q).length ≤ sizeLine := by
      obtain ⟨b, n⟩ := q
      replace n8 : n.length ≤ 8 := n8
      cases b
      · show n.length ≤ _
        rw [sizeLine_eq]; omega
      · show (neg n).length ≤ _
        rw [neg_len, sizeLine_eq]; omega
    refine ⟨_, rfl, _, rfl, lit q, rfl, ll, rfl, _, rfl, ?_⟩
    obtain ⟨b, n⟩ := q
    cases b
    · have e : decide (V.str (cutS (lit (false, n)) none (some 1)) = V.str (Str.ofString "-")) = false := decide_eq_false fun h => by
        injection h with h
        exact Bool.noConfusion ((cut_first good).mp h)
      rw [e]
      exact iteF ⟨_, rfl, k⟩
    · have e : decide (V.str (cutS (lit (true, n)) none (some 1)) = V.str (Str.ofString "-")) = true := decide_eq_true (by rw [(cut_first (q := (true, n)) good).mpr rfl])
      rw [e]
      refine iteT ⟨_, rfl, _, rfl, lit (true, n), rfl, ll, ?_⟩
      rw [show cutS (lit (true, n)) (some 1) none = n from cut_neg n]
      exact k
end
theorem sub_filter : ∀ {s l : List (List Str)}, s.Sublist l → l.Nodup → l.filter (fun r => decide (r ∈ s)) = s := by
  intro s l h
  induction h with
  | slnil => intro _; rfl
  | @cons s l a h ih =>
    intro nd
    obtain ⟨h1, h2⟩ := List.nodup_cons.mp nd
    have na : a ∉ s := fun q => h1 (h.subset q)
    rw [List.filter_cons_of_neg (by rw [decide_eq_false na]; decide)]
    exact ih h2
  | @cons_cons s l a h ih =>
    intro nd
    obtain ⟨h1, h2⟩ := List.nodup_cons.mp nd
    rw [List.filter_cons_of_pos (p := fun r => decide (r ∈ a :: s)) (decide_eq_true List.mem_cons_self)]
    have e : l.filter (fun r => decide (r ∈ a :: s)) = l.filter (fun r => decide (r ∈ s)) := List.filter_congr fun r hr => decide_eq_decide.mpr ⟨fun q => (List.mem_cons.mp q).resolve_left fun e => h1 (e ▸ hr), fun q => List.mem_cons_of_mem _ q⟩
    rw [e, ih h2]
/-- a drawn rule -/
structure Draw2 (sg : List Str) (rs : List (List Str)) : Prop where
  n6 : sg.length ≤ 6
  nd : sg.Nodup
  good : ∀ z ∈ sg, Name1 z
  sub : rs.Sublist (fulls sg)
theorem Draw2.few {sg : List Str} {rs : List (List Str)} (D : Draw2 sg rs) : rs.length ≤ 64 := Nat.le_trans D.sub.length_le (fulls_few D.n6)
theorem full_of {sg r : List Str} (nd : sg.Nodup) (h : r ∈ fulls sg) : FullOf sg r := by
  obtain ⟨qs, e, rfl⟩ := fulls_mem.mp h
  refine ⟨qs, ⟨by rw [e]; exact nd, fun q hq => by rw [← e]; exact List.mem_map_of_mem hq⟩, ?_, rfl⟩
  rw [← e, List.length_map]
theorem Draw2.full {sg : List Str} {rs : List (List Str)} (D : Draw2 sg rs) : ∀ r ∈ rs, FullOf sg r := fun r hr => full_of D.nd (D.sub.subset hr)
theorem Draw2.rnd {sg : List Str} {rs : List (List Str)} (D : Draw2 sg rs) : rs.Nodup := D.sub.nodup (fulls_nodup sg)
def spDrawn : Sp := fun vs H Q _ => ∃ (S L : Addr) (m c : Nat), vs = [.ref S, .int (m : Int)] ∧ m ≤ 6 ∧ c ≤ 70000 ∧ StreamAt H S L c ∧
  ∀ (p ps pr : Addr) (sg : List Str) (ts : List Addr) (rs : List (List Str)) (c' : Nat) (H' : Hp), Draw2 sg rs → sg.length ≤ m → H p = none → H ps = none → H pr = none → H' p = some (.tup [.ref ps, .ref pr]) → H' ps = some (.lst (sg.map V.str)) → H' pr = some (.lst (ts.map V.ref)) → RowsAt H' ts rs → c' ≤ c + 200 → StreamAt H' S L c' → Kept S L H H' → Q (.ref p) H'
section
variable {P : Program} {w : World} {K : PySem.W.Frag} {mg : Str → Option Value} {base : Heap} {f fD fN fF : Addr} {fd fdD fdN fdF : FuncData}
abbrev nDrawn : List Str := ["_law_stream", "_law_most", "_law_signs", "_law_share", "_law_one"]
theorem scDrawn : FnScope nDrawn ["_law_stream", "_law_most"] (defScope sDrawn) := ⟨rfl, rfl, rfl, by decide +kernel, rfl, by decide +kernel, by decide +kernel⟩
theorem ok_drawn (F : Fun K "_law_drawn_rule" "_law_drawn_rule" sDrawn f fd) (GD : FnOk P w K mg base CX0 1 fD fdD ["_law_stream", "_law_many"] spDraw) (mD : mg "_law_draw" = some (.ref fD)) (kD : PySem.W.keepIn K (.ref fD) = true) (bD : L2.Binds K fdD ["_law_stream", "_law_many"] [])
    (GN : FnOk P w K mg base CX0 4 fN fdN ["_law_stream", "_law_many"] spNames) (mN : mg "_law_names" = some (.ref fN)) (kN : PySem.W.keepIn K (.ref fN) = true) (bN : L2.Binds K fdN ["_law_stream", "_law_many"] [])
    (GF : FnOk P w K mg base CX0 1 fF fdF ["_law_names_here"] (spFulls K)) (mF : mg "_law_fulls" = some (.ref fF)) (kF : PySem.W.keepIn K (.ref fF) = true) (bF : L2.Binds K fdF ["_law_names_here"] []) :
    FnOk P w K mg base CX0 5 f fd ["_law_stream", "_law_most"] spDrawn := by
  refine F.ok scDrawn (fun vs H Q E h => ?_) (fun cdv A outer s H vs Q E hr h => ?_)
  · obtain ⟨S, L, m, c, rfl, _⟩ := h
    rfl
  · obtain ⟨S, L, m, c, rfl, m6, hc, hS, k⟩ := h
    have hr1 : Room 1 _ := hr.mono (by decide)
    have hr4 : Room 4 _ := hr.mono (by decide)
    refine ⟨_, pss_cons (ps_asg (pe_tup (pa_cons (pe_call GN hr4 (by rfl) mN kN bN .nil pass0 (pa_cons (pv 0) (pa_cons (pe_call GD hr1 (by rfl) mD kD bD .nil pass0 (pa_cons (pv 0) (pa_cons (pe_op op_add (pv 1) pe_int) pa_nil))) pa_nil))) (pa_cons (pe_op op_add pe_int (pe_call GD hr1 (by rfl) mD kD bD .nil pass0 (pa_cons (pv 0) (pa_cons pe_int pa_nil)))) pa_nil))) (pg_tup rfl (pgs_cons (pg_name (i := 2) scDrawn.nd rfl (.inl rfl)) (pgs_cons (pg_name (i := 3) scDrawn.nd rfl (.inr rfl)) pgs_nil))))
      (pss_one (ps_ret (pe_tup (pa_cons (pv 2) (pa_cons (pe_lc (own := [("_law_one", 4)]) (g := gName 4) rfl scDrawn.nd (pi_list (pe_call GF hr1 (by rfl) mF kF bF .nil pass0 (pa_cons (pv 2) pa_nil))) (blkOk_by (N := nDrawn) (sc := defScope sDrawn) (by decide +kernel))
          (fun _ _ _ _ _ => pg_name (i := 4) scDrawn.nd rfl (.inl rfl)) (fun _ _ _ _ _ => pts_one (pt_cmpR op_lt (pe_call GD hr1 (by rfl) mD kD bD .nil pass0 (pa_cons (pv 0) (pa_cons pe_int pa_nil))) (pv 3) (nomark _))) (fun _ _ _ _ _ => pv 4)) pa_nil))))), ?_⟩
    refine ⟨_, rfl, _, rfl, _, rfl, _, _, rfl, rfl, S, L, _, c, rfl, by omega, by omega, by omega, hS, fun r0 H1 r00 r01 hS1 hk1 => ⟨S, L, r0.toNat, _, by rw [Int.toNat_of_nonneg r00]; rfl, by omega, by omega, hS1, fun sg ps c2 H2 lsg nd good hps0 hps2 hc2 hS2 hk2 => ?_⟩⟩
    have offs := hS1.off hps0
    refine ⟨_, rfl, S, L, 4, c2, rfl, by decide, by decide, by omega, hS2, fun r1 H3 r10 r11 hS3 hk3 => ⟨_, _, rfl, rfl, by show 2 ≤ sizeLine; decide, fun t ht => ⟨t, _, rfl, SqT.of upd_same, rfl, _, _, rfl, _, _, rfl, rfl, ?_⟩⟩⟩
    have st := same_new (H := H3) (o := .tup [.ref ps, .int (1 + r1)]) ht
    have hS3' := hS3.new (o := .tup [.ref ps, .int (1 + r1)]) ht
    have hk03 : Kept S L H (upd H3 t (.tup [.ref ps, .int (1 + r1)])) := ((hk1.trans hk2).trans hk3).trans fun b o e _ _ => st b o e
    have hps3 := st _ _ (hk3 _ _ hps2 offs.1 offs.2)
    have hps00 : H ps = none := hk1.none hps0 offs.1 offs.2
    generalize upd H3 t (.tup [.ref ps, .int (1 + r1)]) = H4 at st hS3' hk03 hps3 ⊢
    refine ⟨_, rfl, _, rfl, ps, sg, rfl, (fun H' s' => SqL.of (s' _ _ hps3)), by omega, (fun z hz => (good z hz).2.1), fun pf tf H5 hpf0 hpf5 rowf sm5 => ⟨pf, rfl, ⟨_, SqL.of hpf5⟩, fun D hD => lc_it (walk_list (xs := tf.map V.ref)) (fun i H6 => ∃ us rs', H6 D = some (.lst (us.map V.ref)) ∧ RowsAt H6 us rs' ∧ rs'.Sublist ((fulls sg).take i) ∧ StreamAt H6 S L (c2 + 1 + i) ∧ Kept S L H5 H6) ?_ ?_ ?_ ?_⟩⟩
    · have hS5 := hS3'.same sm5
      exact ⟨[], [], upd_same, .nil, List.nil_sublist _, hS5.new hD, (Kept.refl H5).new hD⟩
    · rintro i H6 hi ⟨us, rs', _, _, _, _, hk6⟩
      have offf := hS3'.off hpf0
      exact SqL.of (hk6 _ _ hpf5 offf.1 offf.2)
    · rintro i v H6 H7 hi ⟨us, rs', hD7, ru, sub, hS7, hk7⟩ ⟨rfl, hv⟩
      have hS5 := hS3'.same sm5
      have offD := hS5.off hD
      have l64 := fulls_few (ns := sg) (by omega)
      obtain ⟨q, hq, rfl⟩ := get_map hv
      obtain ⟨r, hr', hrq⟩ := RowsAt.get rowf i q hq
      have ilt : i < (fulls sg).length := (List.getElem?_eq_some_iff.mp hr').1
      have er : (fulls sg).take (i + 1) = (fulls sg).take i ++ [r] := by rw [List.take_succ, hr']; rfl
      have lus : us.length ≤ 64 := by
        have z1 := Paired.length ru
        have z2 := sub.length_le
        rw [List.length_take] at z2
        omega
      obtain ⟨⟨_, e1⟩, ⟨_, e2⟩⟩ := hS5.two
      refine ⟨rfl, _, rfl, S, L, 5, _, rfl, by decide, by decide, by omega, hS7, fun r2 H8 r20 r21 hS8 hk8 => ?_⟩
      have hD8 := hk8 _ _ hD7 offD.1 offD.2
      have ru8 := RowsAt.kept ru hS7.two hk8
      refine ⟨_, rfl, _, _, rfl, rfl, _, rfl, ?_⟩
      refine ite2 (fun _ => ?_) (fun _ => ?_)
      · refine ⟨_, rfl, _, hD8, by rw [List.length_map, sizeLine_eq]; omega, us ++ [q], rs' ++ [r], ?_, RowsAt.put hD8 (rows_snoc ru8 ?_), ?_, ?_, ?_⟩
        · rw [upd_same, List.map_append]
          rfl
        · exact (hk7.trans hk8) _ _ hrq (ne_of hrq e1 fun z => nomatch z) (ne_of hrq e2 fun z => nomatch z)
        · rw [er]
          exact List.Sublist.append sub (List.Sublist.refl _)
        · have z := hS8.put (o := .lst (us.map V.ref ++ [.ref q])) offD.1 offD.2
          exact z
        · exact kept_upd (hk7.trans hk8) hD
      · refine ⟨us, rs', hD8, ru8, ?_, hS8, hk7.trans hk8⟩
        rw [er]
        exact sub.trans (List.sublist_append_left _ _)
    · rintro H6 ⟨us, rs', hD6, ru, sub, hS6, hk6⟩
      have hS5 := hS3'.same sm5
      have hk05 : Kept S L H H5 := hk03.trans fun b o e _ _ => sm5 b o e
      have offD := hS5.off hD
      have lf : tf.length = (fulls sg).length := Paired.length rowf
      have l64 := fulls_few (ns := sg) (by omega)
      have hD0 : H D = none := hk05.none hD offD.1 offD.2
      have offp5 := hS3'.off hpf0
      rw [List.length_map, lf] at hS6
      rw [List.length_map, lf, List.take_length] at sub
      refine ⟨by show 2 ≤ sizeLine; decide, fun p hp => ?_⟩
      have offps : ps ≠ S ∧ ps ≠ L := offs
      have sp : Same H6 _ := same_new (o := .tup [.ref ps, .ref D]) hp
      have offp := hS6.off hp
      exact k p ps D sg us rs' _ _ ⟨by omega, nd, good, sub⟩ (by omega) ((hk05.trans hk6).none hp offp.1 offp.2) hps00 hD0 upd_same (sp _ _ (hk6 _ _ (sm5 _ _ hps3) offps.1 offps.2)) (sp _ _ hD6) (ru.same sp) (by omega) (hS6.same sp) ((hk05.trans hk6).trans fun b o e _ _ => sp b o e)
end
def rEqR (x y : V) (H : Hp) (Q : VK) : Prop := ∃ (a b : Addr) (r q : List Str), x = .ref a ∧ H a = some (.tup (r.map V.str)) ∧ y = .ref b ∧ H b = some (.tup (q.map V.str)) ∧ Q (.bl (decide (r = q))) H
theorem op_eqRows {X : Cx} (hu : X.A.units + 1 < cLine) : OpR X (compareOp .Eq) rEqR := by
  intro pins s σ H x y v u Q I rx ry h
  obtain ⟨a, b, r, q, rfl, ha, rfl, hb, k⟩ := h
  cases rx
  cases ry
  obtain ⟨its, r1, ⟨o, ho, hc, n, hd⟩, _⟩ := I.tuple (SqT.of ha)
  obtain ⟨its2, r2, ⟨o2, ho2, hc2, n2, hd2⟩, _⟩ := I.tuple (SqT.of hb)
  have a1 : IsTupleKey (mixKind X.prog X.w) s.heap (r.map (Sum.inr : Str → Key)) a := ⟨o, _, n, ho, hc, hd, by rw [List.toList_toArray]; exact items_are (by rw [kV_strs]; exact r1)⟩
  have a2 : IsTupleKey (mixKind X.prog X.w) s.heap (q.map (Sum.inr : Str → Key)) b := ⟨o2, _, n2, ho2, hc2, hd2, by rw [List.toList_toArray]; exact items_are (by rw [kV_strs]; exact r2)⟩
  have e : decide (r.map (Sum.inr : Str → Key) = q.map Sum.inr) = decide (r = q) := decide_eq_decide.mpr ⟨inr_inj, fun z => by rw [z]⟩
  show wpAny (model X.prog X.w) X.A (richCompare .Eq (.ref a) (.ref b)) (EP X pins σ Q) X.xe s
  refine wpAny_richCompare_same_room (op := .Eq) a1.typeIs a2.typeIs F.slot_tuple_eq (wpAny_call_entry F.slot_tuple_eq a1.typeIs F.entry_tuple_eq (tuple_eq_tree a1 a2 ⟨_, rfl, (fun e => nomatch e), ⟨.bl _, H, I, rfl, ?_⟩⟩) (F.args_tuple_eq_2 _ _)) (by omega)
  rw [e]
  exact k
end K6
namespace K6
open PySem PySem.Spec PyProof.Rows L2 LamX NdefX EV
/-! ### the law's halves -/
/-- the names that may follow -/
def tailN (ns : List Str) (c : QL) : List Str := match c.getLast? with
  | none => ns
  | some q => behN ns q.2
theorem nexts_tail (ns : List Str) (c : QL) : nexts ns c = pairs (tailN ns c) := by
  unfold nexts tailN
  cases c.getLast? <;> rfl
theorem tail_sub (ns : List Str) (c : QL) : ∀ n ∈ tailN ns c, n ∈ ns := fun n h => by
  unfold tailN at h
  split at h
  · exact h
  · exact (behN_sub _ _).subset h
theorem tail_len (ns : List Str) (c : QL) : (tailN ns c).length ≤ ns.length := by
  unfold tailN
  split
  · exact Nat.le_refl _
  · exact (behN_sub _ _).length_le
theorem pairs_snoc (a : List Str) (n : Str) : pairs (a ++ [n]) = pairs a ++ [(false, n), (true, n)] := by
  unfold pairs
  rw [List.flatMap_append]
  rfl
def hv (ns : List Str) (k : Nat) : List QL := (List.range k).flatMap (level ns)
theorem hv_succ (ns : List Str) (k : Nat) : hv ns (k + 1) = hv ns k ++ level ns k := by
  unfold hv
  rw [List.range_succ, List.flatMap_append]
  simp
theorem hv_len {ns : List Str} (n6 : ns.length ≤ 6) : ∀ k : Nat, (hv ns k).length ≤ 12 ^ k
  | 0 => Nat.zero_le _
  | k + 1 => by
    have ih := hv_len n6 k
    rw [hv_succ, List.length_append, Nat.pow_succ]
    have y := level_len n6 k
    have : 1 ≤ 12 ^ k := Nat.one_le_pow _ _ (by decide)
    omega
theorem flat_take {α β : Type} (f : α → List β) (l : List α) (j : Nat) : ((l.take j).flatMap f).length ≤ (l.flatMap f).length := by
  have e := List.flatMap_append (f := f) (xs := l.take j) (ys := l.drop j)
  rw [List.take_append_drop] at e
  rw [e, List.length_append]
  omega
theorem pow12 {k : Nat} (h : k ≤ 6) : 12 ^ k ≤ 2985984 := by
  have x : 12 ^ k ≤ 12 ^ 6 := Nat.pow_le_pow_right (by decide) h
  have : 12 ^ 6 = 2985984 := by decide
  omega
def spHalves : Sp := fun vs H Q _ => ∃ (T : Addr) (ns : List Str), vs = [.ref T] ∧ H T = some (.lst (ns.map V.str)) ∧ ns.length ≤ 6 ∧ ns.Nodup ∧ (∀ z ∈ ns, Name1 z) ∧
  ∀ p us H', Same H H' → H p = none → H' p = some (.lst (us.map V.ref)) → RowsAt H' us ((halves ns).map ctx) → Q (.ref p) H'
section
variable {P : Program} {w : World} {K : PySem.W.Frag} {mg : Str → Option Value} {base : Heap} {f fB : Addr} {fd fdB : FuncData}
abbrev nHalves : List Str := ["_law_names_here", "_law_found", "_law_level", "_law_size", "_law_longer", "_law_one", "_law_start", "_law_name"]
theorem scHalves : FnScope nHalves ["_law_names_here"] (defScope sHalves) := ⟨rfl, rfl, rfl, by decide +kernel, rfl, by decide +kernel, by decide +kernel⟩
theorem ok_halves (F : Fun K "_law_halves" "_law_halves" sHalves f fd) (ml : mg "len" = none) (mr : mg "range" = none) (GB : FnOk P w K mg base CX0 1 fB fdB ["_law_one"] spBare) (mB : mg "_law_bare" = some (.ref fB)) (kB : PySem.W.keepIn K (.ref fB) = true) (bB : L2.Binds K fdB ["_law_one"] []) :
    FnOk P w K mg base CX0 2 f fd ["_law_names_here"] spHalves := by
  refine F.ok scHalves (fun vs H Q E h => ?_) (fun cdv A' outer s H vs Q E hr h => ?_)
  · obtain ⟨T, ns, rfl, _⟩ := h
    rfl
  · obtain ⟨T, ns, rfl, hT, n6, nd, good, k⟩ := h
    have hu := hu_of hr
    have hr1 : Room 1 _ := hr.mono (by decide)
    refine ⟨_, pss_cons (ps_par (i := 1) (j := 2) rfl scHalves.nd rfl rfl (by decide) rfl rfl (pa_cons (pe_lst (pa_cons (pe_tup pa_nil) pa_nil)) (pa_cons (pe_lst (pa_cons (pe_tup pa_nil) pa_nil)) pa_nil)) rfl)
      (pss_cons (ps_for PassesOwn.never rfl (pi_range1 (by rfl) mr (pa_cons (pe_callB call_len (by rfl) ml PySem.boot_len (pa_cons (pv 0) pa_nil)) pa_nil)) (pg_name (i := 3) scHalves.nd rfl (.inl rfl))
        (pss_cons (ps_set (i := 4) scHalves.nd rfl (.inl rfl) (pe_lst pa_nil))
        (pss_cons (ps_for PassesOwn.never rfl (pi_list (pv 2)) (pg_name (i := 5) scHalves.nd rfl (.inl rfl))
          (pss_cons (ps_set (i := 6) scHalves.nd rfl (.inl rfl) (pe_ifExp (pt_cmpR (op_eqRows hu) (pv 5) (pe_tup pa_nil) (nomark _)) pe_int
            (pe_op op_add (pe_bm PySem.F.plainAttrs_list PySem.F.slot_list_index PySem.F.type_list_index mt_index (pv 0) (pa_cons (pe_call GB hr1 (by rfl) mB kB bB .nil pass0 (pa_cons (pe_ix (show IxR _ (rIxT K) from ix_tup) (pv 5) (pe_un un_neg pe_int) (fun _ _ => rfl)) pa_nil)) pa_nil)) pe_int)))
          (pss_one (ps_for PassesOwn.never rfl (pi_list (pe_slice sl_list (pv 0) (po_some (pv 6)) po_none)) (pg_name (i := 7) scHalves.nd rfl (.inl rfl))
            (pss_one (ps_expr (pe_bm PySem.F.plainAttrs_list PySem.F.slot_list_extend PySem.F.type_list_extend mt_extend (pv 4) (pa_cons (pe_lst (pa_cons (pe_op op_catA (pv 5) (pe_tup (pa_cons (pv 7) pa_nil))) (pa_cons (pe_op op_catA (pv 5) (pe_tup (pa_cons (pe_op op_add_str pe_str (pv 7)) pa_nil))) pa_nil))) pa_nil))))))))
        (pss_one (ps_par (i := 1) (j := 2) rfl scHalves.nd rfl rfl (by decide) rfl rfl (pa_cons (pe_op op_cat (pv 1) (pv 4)) (pa_cons (pv 4) pa_nil)) rfl)))))
      (pss_one (ps_ret (pv 1)))), ?_⟩
    have g8 : ∀ z ∈ ns, z.length ≤ 8 := fun z hz => (good z hz).2.1
    refine ⟨Nat.zero_le _, fun t0 ht0 => ⟨(by show 1 ≤ sizeLine; decide), fun p0 hp0 => ⟨Nat.zero_le _, fun t1 ht1 => ⟨(by show 1 ≤ sizeLine; decide), fun p1 hp1 => ⟨_, _, rfl, ?_⟩⟩⟩⟩⟩
    have a1 := same_new (o := .tup []) ht0
    have a2 := same_new (o := .lst [.ref t0]) hp0
    have a3 := same_new (o := .tup []) ht1
    have a4 := same_new (o := .lst [.ref t1]) hp1
    have f1 := a4 _ _ (a3 _ _ (upd_same (H := upd H t0 (.tup [])) (a := p0) (o := .lst [.ref t0])))
    have f2 := a4 _ _ (a3 _ _ (a2 _ _ (upd_same (H := H) (a := t0) (o := .tup []))))
    have f3 := upd_same (H := upd (upd (upd H t0 (.tup [])) p0 (.lst [.ref t0])) t1 (.tup [])) (a := p1) (o := .lst [.ref t1])
    have f4 := a4 _ _ (upd_same (H := upd (upd H t0 (.tup [])) p0 (.lst [.ref t0])) (a := t1) (o := .tup []))
    have s0 := a1.trans (a2.trans (a3.trans a4))
    have hp00 : H p0 = none := a1.free hp0
    refine ⟨_, rfl, _, ns.length, rfl, .inl ⟨_, SqL.of (s0 _ _ hT), by rw [List.length_map]⟩, _, rfl, by omega, by omega, for_range (lo := 0) (n := ns.length) (fun i σ H2 => ∃ F Lv uf ul o3 o4 o5 o6 o7, σ = [some (.ref T), some (.ref F), some (.ref Lv), o3, o4, o5, o6, o7] ∧ Same H H2 ∧ H F = none ∧ H2 F = some (.lst (uf.map V.ref)) ∧ RowsAt H2 uf ((hv ns (i + 1)).map ctx) ∧ H2 Lv = some (.lst (ul.map V.ref)) ∧ RowsAt H2 ul ((level ns i).map ctx)) ⟨p0, p1, [t0], [t1], _, _, _, _, _, rfl, s0, hp00, f1, .cons f2 .nil, f3, .cons f4 .nil⟩ ?_ ?_⟩
    · rintro i σ H2 hi ⟨F, Lv, uf, ul, o3, o4, o5, o6, o7, rfl, sm, hF0, hF, rF, hL, rL⟩
      have lul := rows_map_len rL
      have l1 := level_len n6 (i + 1)
      have p1 := pow12 (k := i + 1) (by omega)
      refine ⟨Nat.zero_le _, fun D hD => ?_⟩
      refine ⟨_, rfl, Lv, rfl, ⟨_, SqL.of ((same_new hD) _ _ hL)⟩, for_list (K := K) (a := Lv) (xs := ul.map V.ref) (fun j σ H4 => ∃ o5 o6 o7 ud, σ = [some (.ref T), some (.ref F), some (.ref Lv), some (.int (0 + (i : Int))), some (.ref D), o5, o6, o7] ∧ Same H2 H4 ∧ H4 D = some (.lst (ud.map V.ref)) ∧ RowsAt H4 ud ((((level ns i).take j).flatMap (ext1 ns)).map ctx)) ⟨_, _, _, [], rfl, same_new hD, upd_same, .nil⟩ (fun j σ H4 _ ⟨_, _, _, _, _, hh, _⟩ => SqL.of (hh _ _ hL)) ?_ ?_⟩
      · rintro j y σ H4 hy ⟨o5, o6, o7, ud, rfl, sm4, hD4, rD4⟩
        obtain ⟨t, ht, rfl⟩ := get_map hy
        obtain ⟨row, hrow, hrt⟩ := RowsAt.get rL j t ht
        rw [List.getElem?_map] at hrow
        obtain ⟨c, hc, rfl⟩ := Option.map_eq_some_iff.mp hrow
        have er : (level ns i).take (j + 1) = (level ns i).take j ++ [c] := by rw [List.take_succ, hc]; rfl
        have hh : Half ns c := ((mem_level nd i c).mp (List.mem_of_getElem? hc)).2
        have cl : c.length ≤ 6 := by
          have z := hh.length_le
          rw [List.length_map] at z
          omega
        have hrt : H2 t = some (.tup ((c.map lit).map V.str)) := hrt
        have lud := rows_map_len rD4
        have lft := flat_take (ext1 ns) (level ns i) j
        rw [← level_succ] at lft
        have hrt4 := sm4 _ _ hrt
        have hT4 := (sm.trans sm4) _ _ hT
        refine ⟨_, rfl, Nat.zero_le _, fun te hte => ⟨t, te, ctx c, [], rfl, (same_new hte) _ _ hrt4, rfl, upd_same, _, rfl, ?_⟩⟩
        have sm5 : Same H4 _ := same_new (o := .tup []) hte
        generalize upd H4 te (.tup []) = H5 at sm5 ⊢
        have hT5 := sm5 _ _ hT4
        have hD5 := sm5 _ _ hD4
        rcases List.eq_nil_or_concat c with ec | ⟨ps, q, ec⟩
        · rw [show decide (ctx c = []) = true from decide_eq_true (by rw [ec]; rfl)]
          have ecut : cutV (ns.map V.str) (some 0) none = (tailN ns c).map V.str := by
            rw [show (0 : Int) = ((0 : Nat) : Int) from rfl, cutV_drop, ec]
            rfl
          refine iteT ?_
          refine ⟨_, rfl, _, rfl, _, rfl, T, _, rfl, SqL.of hT5, fun Sl hSl => ⟨Sl, rfl, ⟨_, SqL.of upd_same⟩, ?_⟩⟩
          rw [ecut]
          have sS : Same H5 (upd H5 Sl (.lst ((tailN ns c).map V.str))) := same_new hSl
          have neSD : Sl ≠ D := (ne_of_none hD5 hSl).symm
          refine for_list (K := K) (a := Sl) (xs := (tailN ns c).map V.str) (fun m σ H6 => ∃ o7 vs, σ = [some (.ref T), some (.ref F), some (.ref Lv), some (.int (0 + (i : Int))), some (.ref D), some (.ref t), some (.int 0), o7] ∧ Same H2 H6 ∧ H6 Sl = some (.lst ((tailN ns c).map V.str)) ∧ H6 D = some (.lst ((ud ++ vs).map V.ref)) ∧ RowsAt H6 (ud ++ vs) ((((level ns i).take j).flatMap (ext1 ns) ++ (pairs ((tailN ns c).take m)).map fun q => c ++ [q]).map ctx)) ⟨_, [], rfl, sm4.trans (sm5.trans sS), upd_same, ?_, ?_⟩ (fun m σ H6 _ ⟨_, _, _, _, h6, _⟩ => SqL.of h6) ?_ ?_
          · rw [List.append_nil]
            exact sS _ _ hD5
          · rw [List.append_nil, List.take_zero, show pairs [] = [] from rfl, List.map_nil, List.append_nil]
            exact rD4.same (sm5.trans sS)
          · rintro m z σ H6 hz ⟨o7, vs, rfl, sm6, hS6, hD6, rD6⟩
            obtain ⟨n, hn, rfl⟩ := get_map hz
            have n8 := g8 n (tail_sub ns c n (List.mem_of_getElem? hn))
            have ltv := rows_map_len rD6
            rw [List.length_append (as := List.flatMap _ _), List.length_map, pairs_len, List.length_take] at ltv
            have ltn := tail_len ns c
            have lc : (ctx c).length ≤ 6 := by rw [List.length_map]; exact cl
            have hrt6 := sm6 _ _ hrt
            refine ⟨_, rfl, .inl ⟨rfl, _, SqL.of hD6⟩, _, rfl, _, rfl, by show 1 ≤ sizeLine; decide, fun q1 hq1 => ?_⟩
            have a1 : Same H6 _ := same_new (o := .tup [.str n]) hq1
            refine cat_one (r := ctx c) (a1 _ _ hrt6) upd_same (by omega) fun v1 H7 hv1 s7 => ?_
            have sm7 := a1.trans s7
            refine ⟨_, rfl, _, rfl, _, _, rfl, rfl, by show 1 + n.length ≤ sizeLine; rw [sizeLine_eq]; omega, by show 1 ≤ sizeLine; decide, fun q2 hq2 => ?_⟩
            have a2 : Same H7 _ := same_new (o := .tup [.str (neg n)]) hq2
            refine cat_one (r := ctx c) (a2 _ _ (sm7 _ _ hrt6)) upd_same (by omega) fun v2 H8 hv2 s8 => ⟨by show 2 ≤ sizeLine; decide, fun mm hm => ?_⟩
            have a3 : Same H8 _ := same_new (o := .lst [.ref v1, .ref v2]) hm
            have s68 : Same H6 (upd H8 mm (.lst [.ref v1, .ref v2])) := (sm7.trans (a2.trans s8)).trans a3
            refine ⟨D, mm, _, _, rfl, rfl, s68 _ _ hD6, upd_same, by rw [List.length_map, sizeLine_eq]; show _ + 2 ≤ _; omega, _, vs ++ [v1, v2], rfl, fun b o h => (upd_ne (ne_of_none h hD)).trans (s68 _ _ (sm6 _ _ h)), (upd_ne neSD).trans (s68 _ _ hS6), ?_, ?_⟩
            · rw [upd_same, ← List.append_assoc, List.map_append (l₁ := ud ++ vs)]
              rfl
            · rw [← List.append_assoc]
              refine RowsAt.put (s68 _ _ hD6) ?_
              have e3 : (((level ns i).take j).flatMap (ext1 ns) ++ (pairs ((tailN ns c).take (m + 1))).map fun q => c ++ [q]).map ctx = (((level ns i).take j).flatMap (ext1 ns) ++ (pairs ((tailN ns c).take m)).map fun q => c ++ [q]).map ctx ++ [ctx c ++ [n], ctx c ++ [neg n]] := by
                rw [List.take_succ, hn, show (some n).toList = [n] from rfl, pairs_snoc, List.map_append (l₁ := pairs _), ← List.append_assoc, List.map_append (l₂ := List.map _ [(false, n), (true, n)])]
                congr 1
                show [ctx (c ++ [(false, n)]), ctx (c ++ [(true, n)])] = _
                rw [show ctx (c ++ [(false, n)]) = ctx c ++ [n] from List.map_append, show ctx (c ++ [(true, n)]) = ctx c ++ [neg n] from List.map_append]
              rw [e3]
              refine paired_app (rD6.same s68) ?_
              exact .cons (a3 _ _ (s8 _ _ (a2 _ _ hv1))) (.cons (a3 _ _ hv2) .nil)
          · rintro σ H6 ⟨o7, vs, rfl, sm6, hS6, hD6, rD6⟩
            rw [List.length_map, List.take_length, ← nexts_tail] at rD6
            refine ⟨_, _, _, ud ++ vs, rfl, sm6, hD6, ?_⟩
            rw [er, List.flatMap_append, List.flatMap_cons, List.flatMap_nil, List.append_nil]
            exact rD6
        · rw [List.concat_eq_append] at ec
          rw [show decide (ctx c = []) = false from decide_eq_false (by rw [ec]; simp)]
          have hq : q.2 ∈ ns := hh.subset (List.mem_map_of_mem (f := Prod.snd) (by rw [ec]; exact List.mem_append_right _ (List.mem_singleton.mpr rfl)))
          obtain ⟨x, hx⟩ := List.getElem?_of_mem hq
          have tl : tailN ns c = ns.drop (x + 1) := by
            unfold tailN
            rw [ec, List.getLast?_append]
            exact behN_drop ns x q.2 nd hx
          have ecut : cutV (ns.map V.str) (some (((x : Nat) : Int) + 1)) none = (tailN ns c).map V.str := by
            rw [show ((x : Nat) : Int) + 1 = ((x + 1 : Nat) : Int) from rfl, cutV_drop, tl, List.map_drop]
          have et : (c.map lit).map V.str = (ps.map lit).map V.str ++ [.str (lit q)] := by rw [ec, List.map_append, List.map_append]; rfl
          have hrt5 := sm5 _ _ hrt4
          rw [et] at hrt5
          refine iteF ⟨_, rfl, .inl ⟨rfl, _, SqL.of hT5⟩, _, rfl, _, rfl, t, _, -1, _, rfl, rfl, SqT.of hrt5, atI_last _ _, q, rfl, good _ hq, T, _, .str q.2, x, .str q.2, rfl, rfl, SqL.of hT5, rfl, flat_str ns, by rw [List.getElem?_map, hx]; rfl, beq_self_eq_true _, (fun m' z' lt hz' => ?_), _, _, rfl, rfl, ?_⟩
          · obtain ⟨n', hn', rfl⟩ := get_map hz'
            show (n' == q.2) = false
            refine beq_eq_false_iff_ne.mpr fun e => ?_
            subst e
            obtain ⟨l1', e1⟩ := List.getElem?_eq_some_iff.mp hn'
            obtain ⟨l2', e2⟩ := List.getElem?_eq_some_iff.mp hx
            have := (List.getElem_inj (h₀ := l1') (h₁ := l2') nd).mp (e1.trans e2.symm)
            omega
          refine ⟨_, rfl, _, rfl, _, rfl, T, _, rfl, SqL.of hT5, fun Sl hSl => ⟨Sl, rfl, ⟨_, SqL.of upd_same⟩, ?_⟩⟩
          rw [ecut]
          have sS : Same H5 (upd H5 Sl (.lst ((tailN ns c).map V.str))) := same_new hSl
          have neSD : Sl ≠ D := (ne_of_none hD5 hSl).symm
          refine for_list (K := K) (a := Sl) (xs := (tailN ns c).map V.str) (fun m σ H6 => ∃ o7 vs, σ = [some (.ref T), some (.ref F), some (.ref Lv), some (.int (0 + (i : Int))), some (.ref D), some (.ref t), some (.int (((x : Nat) : Int) + 1)), o7] ∧ Same H2 H6 ∧ H6 Sl = some (.lst ((tailN ns c).map V.str)) ∧ H6 D = some (.lst ((ud ++ vs).map V.ref)) ∧ RowsAt H6 (ud ++ vs) ((((level ns i).take j).flatMap (ext1 ns) ++ (pairs ((tailN ns c).take m)).map fun q => c ++ [q]).map ctx)) ⟨_, [], rfl, sm4.trans (sm5.trans sS), upd_same, ?_, ?_⟩ (fun m σ H6 _ ⟨_, _, _, _, h6, _⟩ => SqL.of h6) ?_ ?_
          · rw [List.append_nil]
            exact sS _ _ hD5
          · rw [List.append_nil, List.take_zero, show pairs [] = [] from rfl, List.map_nil, List.append_nil]
            exact rD4.same (sm5.trans sS)
          · rintro m z σ H6 hz ⟨o7, vs, rfl, sm6, hS6, hD6, rD6⟩
            obtain ⟨n, hn, rfl⟩ := get_map hz
            have n8 := g8 n (tail_sub ns c n (List.mem_of_getElem? hn))
            have ltv := rows_map_len rD6
            rw [List.length_append (as := List.flatMap _ _), List.length_map, pairs_len, List.length_take] at ltv
            have ltn := tail_len ns c
            have lc : (ctx c).length ≤ 6 := by rw [List.length_map]; exact cl
            have hrt6 := sm6 _ _ hrt
            refine ⟨_, rfl, .inl ⟨rfl, _, SqL.of hD6⟩, _, rfl, _, rfl, by show 1 ≤ sizeLine; decide, fun q1 hq1 => ?_⟩
            have a1 : Same H6 _ := same_new (o := .tup [.str n]) hq1
            refine cat_one (r := ctx c) (a1 _ _ hrt6) upd_same (by omega) fun v1 H7 hv1 s7 => ?_
            have sm7 := a1.trans s7
            refine ⟨_, rfl, _, rfl, _, _, rfl, rfl, by show 1 + n.length ≤ sizeLine; rw [sizeLine_eq]; omega, by show 1 ≤ sizeLine; decide, fun q2 hq2 => ?_⟩
            have a2 : Same H7 _ := same_new (o := .tup [.str (neg n)]) hq2
            refine cat_one (r := ctx c) (a2 _ _ (sm7 _ _ hrt6)) upd_same (by omega) fun v2 H8 hv2 s8 => ⟨by show 2 ≤ sizeLine; decide, fun mm hm => ?_⟩
            have a3 : Same H8 _ := same_new (o := .lst [.ref v1, .ref v2]) hm
            have s68 : Same H6 (upd H8 mm (.lst [.ref v1, .ref v2])) := (sm7.trans (a2.trans s8)).trans a3
            refine ⟨D, mm, _, _, rfl, rfl, s68 _ _ hD6, upd_same, by rw [List.length_map, sizeLine_eq]; show _ + 2 ≤ _; omega, _, vs ++ [v1, v2], rfl, fun b o h => (upd_ne (ne_of_none h hD)).trans (s68 _ _ (sm6 _ _ h)), (upd_ne neSD).trans (s68 _ _ hS6), ?_, ?_⟩
            · rw [upd_same, ← List.append_assoc, List.map_append (l₁ := ud ++ vs)]
              rfl
            · rw [← List.append_assoc]
              refine RowsAt.put (s68 _ _ hD6) ?_
              have e3 : (((level ns i).take j).flatMap (ext1 ns) ++ (pairs ((tailN ns c).take (m + 1))).map fun q => c ++ [q]).map ctx = (((level ns i).take j).flatMap (ext1 ns) ++ (pairs ((tailN ns c).take m)).map fun q => c ++ [q]).map ctx ++ [ctx c ++ [n], ctx c ++ [neg n]] := by
                rw [List.take_succ, hn, show (some n).toList = [n] from rfl, pairs_snoc, List.map_append (l₁ := pairs _), ← List.append_assoc, List.map_append (l₂ := List.map _ [(false, n), (true, n)])]
                congr 1
                show [ctx (c ++ [(false, n)]), ctx (c ++ [(true, n)])] = _
                rw [show ctx (c ++ [(false, n)]) = ctx c ++ [n] from List.map_append, show ctx (c ++ [(true, n)]) = ctx c ++ [neg n] from List.map_append]
              rw [e3]
              refine paired_app (rD6.same s68) ?_
              exact .cons (a3 _ _ (s8 _ _ (a2 _ _ hv1))) (.cons (a3 _ _ hv2) .nil)
          · rintro σ H6 ⟨o7, vs, rfl, sm6, hS6, hD6, rD6⟩
            rw [List.length_map, List.take_length, ← nexts_tail] at rD6
            refine ⟨_, _, _, ud ++ vs, rfl, sm6, hD6, ?_⟩
            rw [er, List.flatMap_append, List.flatMap_cons, List.flatMap_nil, List.append_nil]
            exact rD6
      · rintro σ H4 ⟨o5, o6, o7, ud, rfl, sm4, hD4, rD4⟩
        rw [List.length_map, lul, List.take_length, ← level_succ] at rD4
        have lud := rows_map_len rD4
        have luf := rows_map_len rF
        have lhv := hv_len n6 (i + 1)
        refine ⟨_, rfl, _, rfl, F, D, _, _, rfl, rfl, sm4 _ _ hF, hD4, by rw [List.length_map, List.length_map, sizeLine_eq]; omega, fun F2 hF2 => ⟨_, rfl, _, _, rfl, ?_⟩⟩
        have b1 := same_new (o := .lst (uf.map V.ref ++ ud.map V.ref)) hF2
        refine ⟨F2, D, uf ++ ud, ud, _, _, _, _, _, rfl, sm.trans (sm4.trans b1), (sm.trans sm4).free hF2, ?_, ?_, b1 _ _ hD4, rD4.same b1⟩
        · rw [upd_same, List.map_append]
        · rw [hv_succ, List.map_append]
          exact paired_app (rF.same (sm4.trans b1)) (rD4.same b1)
    · rintro σ H2 ⟨F, Lv, uf, ul, o3, o4, o5, o6, o7, rfl, sm, hF0, hF, rF, hL, rL⟩
      exact ⟨_, rfl, k F uf H2 sm hF0 hF rF⟩
end
end K6
namespace K6
open PySem PySem.Spec PyProof.Rows L2 LamX NdefX EV
/-! ### the law's meets, within, forced -/
def spMeets : Sp := fun vs H Q _ => ∃ (A B : Addr) (c : QL) (row : List Str), vs = [.ref A, .ref B] ∧ H A = some (.tup ((c.map lit).map V.str)) ∧ H B = some (.tup (row.map V.str)) ∧ c.length ≤ 60 ∧ ∀ H', Same H H' → Q (.bl (c.any fun q => decide (lit q ∈ row))) H'
def spWithin : Sp := fun vs H Q _ => ∃ (A B : Addr) (b : Bool) (p d : QL), vs = [.ref A, .ref B] ∧ H A = some (.tup ((p.map lit).map V.str)) ∧ HS H B b ((d.map lit).map V.str) ∧ p.length ≤ 60 ∧ (∀ q ∈ p, Name1 q.2) ∧ (∀ q ∈ d, Name1 q.2) ∧ ∀ H', Same H H' → Q (.bl (inB p d)) H'
def spForcedL : Sp := fun vs H Q _ => ∃ (R A : Addr) (b : Bool) (ts : List Addr) (rs : List (List Str)) (h : QL), vs = [.ref R, .ref A] ∧ H R = some (.lst (ts.map V.ref)) ∧ RowsAt H ts rs ∧ rs.length ≤ 64 ∧ (∀ q ∈ rs, q.length ≤ 60) ∧ (∀ q ∈ rs, ∀ z ∈ q, Fit z) ∧ HS H A b ((h.map lit).map V.str) ∧ h.length ≤ 60 ∧ forcedQ H Q (forcedOf rs h)
theorem lit_in {q : Bool × Str} {d : QL} (g : Name1 q.2) (gd : ∀ z ∈ d, Name1 z.2) : lit q ∈ d.map lit ↔ q ∈ d := ⟨fun h => by
  obtain ⟨p, hp, e⟩ := List.mem_map.mp h
  exact lit_inj (gd p hp) g e ▸ hp, List.mem_map_of_mem⟩
section
variable {P : Program} {w : World} {K : PySem.W.Frag} {mg : Str → Option Value} {base : Heap} {f : Addr} {fd : FuncData}
abbrev nMeets : List Str := ["_law_clause", "_law_some", "_law_one"]
theorem scMeets : FnScope nMeets ["_law_clause", "_law_some"] (defScope sMeets) := ⟨rfl, rfl, rfl, by decide +kernel, rfl, by decide +kernel, by decide +kernel⟩
theorem ok_meets (F : Fun K "_law_meets" "_law_meets" sMeets f fd) (any : mg "any" = none) : FnOk P w K mg base CX0 1 f fd ["_law_clause", "_law_some"] spMeets := by
  refine F.ok scMeets (fun vs H Q E h => ?_) (fun cdv A' outer s H vs Q E hr h => ?_)
  · obtain ⟨A, B, c, row, rfl, _⟩ := h
    rfl
  · obtain ⟨A, B, c, row, rfl, hA, hB, c60, k⟩ := h
    refine ⟨_, pss_one (ps_ret (pe_callB (cr_any rfl) (by rfl) any (by decide +kernel) (pa_cons (pe_lc (own := [("_law_one", 2)]) (g := gName 2) (tt := tYes) rfl scMeets.nd (pi_seq (pv 0)) (blkOk_by (N := nMeets) (sc := defScope sMeets) (by decide +kernel))
        (fun _ _ _ _ _ => pg_name (i := 2) scMeets.nd rfl (.inl rfl)) (fun _ _ _ _ _ => pts_nil) (fun _ _ _ _ _ => show PE _ _ (tOp (rIn K false) _ _) from pe_cmpR op_in_seq (pv 2) (pv 1) rfl)) pa_nil))), ?_⟩
    refine ⟨_, rfl, false, A, _, rfl, Sq.tup hA, fun L hL => lc_it walk_sq (fun j H4 => Same H H4 ∧ H4 L = some (.lst (((c.take j).map fun q => decide (lit q ∈ row)).map V.bl))) ⟨same_new hL, upd_same⟩ (fun j H4 _ hh => Sq.tup (hh.1 _ _ hA)) ?_ ?_⟩
    · rintro j v H4 H5 hj ⟨sm4, hL4⟩ ⟨rfl, hv⟩
      obtain ⟨l0, hl0, rfl⟩ := get_map hv
      obtain ⟨l, hl, rfl⟩ := get_map hl0
      have er2 : c.take (j + 1) = c.take j ++ [l] := by rw [List.take_succ, hl]; rfl
      have lt2 := List.length_take_le' j c
      refine ⟨rfl, _, rfl, _, rfl, B, _, rfl, .inr (SqT.of (sm4 _ _ hB)), rfl, flat_str _, ?_⟩
      rw [if_neg (by decide), inV_str]
      refine ⟨_, hL4, by rw [List.length_map, List.length_map, sizeLine_eq]; omega, fun c o e => (upd_ne (ne_of_none e hL)).trans (sm4 c o e), ?_⟩
      rw [upd_same, er2, List.map_append, List.map_append]
      rfl
    · rintro H4 ⟨sm4, hL4⟩
      rw [List.length_map, List.length_map, List.take_length] at hL4
      refine ⟨L, _, rfl, SqL.of hL4, ?_⟩
      have e2 : (c.map fun q => decide (lit q ∈ row)).any id = c.any fun q => decide (lit q ∈ row) := by
        rw [List.any_map]
        rfl
      rw [e2]
      exact k H4 sm4
abbrev nWithin : List Str := ["_law_part", "_law_clause", "_law_one"]
theorem scWithin : FnScope nWithin ["_law_part", "_law_clause"] (defScope sWithin) := ⟨rfl, rfl, rfl, by decide +kernel, rfl, by decide +kernel, by decide +kernel⟩
theorem ok_within (F : Fun K "_law_within" "_law_within" sWithin f fd) (all : mg "all" = none) : FnOk P w K mg base CX0 1 f fd ["_law_part", "_law_clause"] spWithin := by
  refine F.ok scWithin (fun vs H Q E h => ?_) (fun cdv A' outer s H vs Q E hr h => ?_)
  · obtain ⟨A, B, b, c, row, rfl, _⟩ := h
    rfl
  · obtain ⟨A, B, b, c, d, rfl, hA, hB, c60, gc, gd, k⟩ := h
    refine ⟨_, pss_one (ps_ret (pe_callB (cr_all rfl) (by rfl) all (by decide +kernel) (pa_cons (pe_lc (own := [("_law_one", 2)]) (g := gName 2) (tt := tYes) rfl scWithin.nd (pi_seq (pv 0)) (blkOk_by (N := nWithin) (sc := defScope sWithin) (by decide +kernel))
        (fun _ _ _ _ _ => pg_name (i := 2) scWithin.nd rfl (.inl rfl)) (fun _ _ _ _ _ => pts_nil) (fun _ _ _ _ _ => show PE _ _ (tOp (rIn K false) _ _) from pe_cmpR op_in_seq (pv 2) (pv 1) rfl)) pa_nil))), ?_⟩
    refine ⟨_, rfl, false, A, _, rfl, Sq.tup hA, fun L hL => lc_it walk_sq (fun j H4 => Same H H4 ∧ H4 L = some (.lst (((c.take j).map fun q => decide (q ∈ d)).map V.bl))) ⟨same_new hL, upd_same⟩ (fun j H4 _ hh => Sq.tup (hh.1 _ _ hA)) ?_ ?_⟩
    · rintro j v H4 H5 hj ⟨sm4, hL4⟩ ⟨rfl, hv⟩
      obtain ⟨l0, hl0, rfl⟩ := get_map hv
      obtain ⟨l, hl, rfl⟩ := get_map hl0
      have er2 : c.take (j + 1) = c.take j ++ [l] := by rw [List.take_succ, hl]; rfl
      have lt2 := List.length_take_le' j c
      refine ⟨rfl, _, rfl, _, rfl, B, _, rfl, (hB.same sm4).at2, rfl, flat_str _, ?_⟩
      rw [if_neg (by decide), inV_str, decide_eq_decide.mpr (lit_in (gc l (List.mem_of_getElem? hl)) gd)]
      refine ⟨_, hL4, by rw [List.length_map, List.length_map, sizeLine_eq]; omega, fun c o e => (upd_ne (ne_of_none e hL)).trans (sm4 c o e), ?_⟩
      rw [upd_same, er2, List.map_append, List.map_append]
      rfl
    · rintro H4 ⟨sm4, hL4⟩
      rw [List.length_map, List.length_map, List.take_length] at hL4
      refine ⟨L, _, rfl, SqL.of hL4, ?_⟩
      have e2 : (c.map fun q => decide (q ∈ d)).all id = inB c d := by
        unfold inB
        rw [List.all_map]
        rfl
      rw [e2]
      exact k H4 sm4
abbrev nForcedL : List Str := ["_law_settings", "_law_half", "_law_some", "_law_part", "_law_one"]
theorem scForcedL : FnScope nForcedL ["_law_settings", "_law_half"] (defScope sForcedL) := ⟨rfl, rfl, rfl, by decide +kernel, rfl, by decide +kernel, by decide +kernel⟩
abbrev scL1 : Scope := { kind := .function, names := [(".0", .local), ("_law_one", .cell), ("all", .globalImplicit), ("_law_half", .free)], isGenerator := false, isCoroutine := false }
abbrev scL2 : Scope := { kind := .function, names := [(".0", .local), ("_law_part", .cell), ("all", .globalImplicit), ("_law_half", .free), ("_law_some", .free)], isGenerator := false, isCoroutine := false }
theorem ok_forcedL (F : Fun K "_law_forced" "_law_forced" sForcedL f fd) (ma : mg "all" = none) : FnOk P w K mg base CX0 1 f fd ["_law_settings", "_law_half"] spForcedL := by
  refine F.ok scForcedL (fun vs H Q E h => ?_) (fun cdv A' outer s H vs Q E hr h => ?_)
  · obtain ⟨R, A, b, ts, rs, h, rfl, _⟩ := h
    rfl
  · obtain ⟨R, A, b, ts, rs, h, rfl, hR, rows, few, short, fit, hA, lh, k⟩ := h
    refine ⟨_, pss_cons (ps_set (i := 2) scForcedL.nd rfl (.inr rfl) (pe_lc (own := [("_law_one", 4)]) (g := gName 4) rfl scForcedL.nd (pi_list (pv 0)) (blkOk_by (N := nForcedL) (sc := defScope sForcedL) (by decide +kernel))
          (fun _ _ _ _ _ => pg_name (i := 4) scForcedL.nd rfl (.inr rfl))
          (fun _ _ _ _ _ => pts_one (show PT _ _ (tB (tCB (rAll K) (tCons (tLc (iSeq K _) _ _ (tOp (rIn K false) _ _) _) tNil))) from pt_val (pe_callB (cr_all rfl) (by rfl) ma (by decide +kernel) (pa_cons (pe_lc (own := [("_law_part", 3)]) (g := gName 3) (tt := tYes) rfl scForcedL.nd (pi_seq (pv 1)) (blk_in (sc := scL1) (blkOk_by (N := nForcedL) (sc := scL1) (by decide +kernel)))
              (fun _ _ _ _ _ => pg_name (i := 3) scForcedL.nd rfl (.inl rfl)) (fun _ _ _ _ _ => pts_nil) (fun _ _ _ _ _ => show PE _ _ (tOp (rIn K false) _ _) from pe_cmpR op_in_seq (pv 3) (pv 4) rfl)) pa_nil)))) (fun _ _ _ _ _ => pv 4)))
      (pss_cons (ps_if (pt_cmpR (op_eqD hr.units) (pv 2) (pe_lst pa_nil) (nomark _)) (pss_one (ps_ret pe_non)) pss_nil)
      (pss_one (ps_ret (pe_lc (own := [("_law_part", 3)]) (g := gName 3) rfl scForcedL.nd (pi_seq (pe_ix ix_list (pv 2) pe_int (fun _ _ => rfl))) (blkOk_by (N := nForcedL) (sc := defScope sForcedL) (by decide +kernel))
          (fun _ _ _ _ _ => pg_name (i := 3) scForcedL.nd rfl (.inr rfl))
          (fun _ _ _ _ _ => pts_one (PW.pt (pw_and (show PT _ _ (tTest (tOp (rIn K true) _ _)) from pt_cmpR op_notIn_seq (pv 3) (pv 1) rfl) (pw_and1 (show PT _ _ (tB (tCB (rAll K) (tCons (tLc (iList K _) _ _ (tOp (rIn K false) _ _) _) tNil))) from pt_val (pe_callB (cr_all rfl) (by rfl) ma (by decide +kernel) (pa_cons (pe_lc (own := [("_law_one", 4)]) (g := gName 4) (tt := tYes) rfl scForcedL.nd (pi_list (pv 2)) (blk_in (sc := scL2) (blkOk_by (N := nForcedL) (sc := scL2) (by decide +kernel)))
              (fun _ _ _ _ _ => pg_name (i := 4) scForcedL.nd rfl (.inl rfl)) (fun _ _ _ _ _ => pts_nil) (fun _ _ _ _ _ => show PE _ _ (tOp (rIn K false) _ _) from pe_cmpR op_in_seq (pv 3) (pv 4) rfl)) pa_nil))))))) (fun _ _ _ _ _ => pv 3))))), ?_⟩
    refine ⟨_, rfl, R, rfl, ⟨_, SqL.of hR⟩, fun L hL => lc_it (walk_list (xs := ts.map V.ref)) (fun i H2 => Same H H2 ∧ ∃ us, H2 L = some (.lst (us.map V.ref)) ∧ RowsAt H2 us ((rs.take i).filter (fitB h))) ⟨same_new hL, [], upd_same, .nil⟩ (fun i H2 _ hh => SqL.of (hh.1 _ _ hR)) ?_ ?_⟩
    · rintro i v H2 H3 hi ⟨sm2, us, hL2, ru⟩ ⟨rfl, hv⟩
      obtain ⟨q, ht, rfl⟩ := get_map hv
      obtain ⟨row, hrow, hrt⟩ := RowsAt.get rows i q ht
      have hq2 : _ = some (HO.tup (row.map V.str)) := sm2 _ _ hrt
      have hA2 := hA.same sm2
      have lus : us.length ≤ 64 := by
        have z1 := Paired.length ru
        have z2 := filt_len (f := fitB h) (xs := rs) (i := i)
        omega
      refine ⟨rfl, _, rfl, b, A, _, rfl, hA2.sq, fun Lb hLb => lc_it walk_sq (fun j H4 => Same _ H4 ∧ H4 Lb = some (.lst (((h.take j).map fun q => decide (lit q ∈ row)).map V.bl))) ⟨same_new hLb, upd_same⟩ (fun j H4 _ hh => (hA2.same hh.1).sq) ?_ ?_⟩
      · rintro j v2 H4 H5 hj ⟨sm4, hL4⟩ ⟨rfl, hv2⟩
        obtain ⟨l0, hl0, rfl⟩ := get_map hv2
        obtain ⟨l, hl, rfl⟩ := get_map hl0
        have er2 : h.take (j + 1) = h.take j ++ [l] := by rw [List.take_succ, hl]; rfl
        have lt2 := List.length_take_le' j h
        refine ⟨rfl, _, rfl, _, rfl, q, _, rfl, .inr (SqT.of (sm4 _ _ hq2)), rfl, flat_str _, ?_⟩
        rw [if_neg (by decide), inV_str]
        refine ⟨_, hL4, by rw [List.length_map, List.length_map, sizeLine_eq]; omega, fun c o e => (upd_ne (ne_of_none e hLb)).trans (sm4 c o e), ?_⟩
        rw [upd_same, er2, List.map_append, List.map_append]
        rfl
      · rintro H4 ⟨sm4, hL4⟩
        rw [List.length_map, List.length_map, List.take_length] at hL4
        refine ⟨Lb, _, rfl, SqL.of hL4, _, rfl, ?_⟩
        have e2 : (h.map fun q => decide (lit q ∈ row)).all id = fitB h row := by
          unfold fitB
          rw [List.all_map]
          rfl
        rw [e2]
        have st := filt_step (f := fitB h) hrow
        cases ef : fitB h row with
        | false =>
          rw [ef, if_neg (by decide), List.append_nil] at st
          refine iteF ⟨sm2.trans sm4, us, sm4 _ _ hL2, ?_⟩
          rw [st]
          exact ru.same sm4
        | true =>
          rw [ef, if_pos rfl] at st
          refine iteT ⟨_, rfl, _, sm4 _ _ hL2, by rw [List.length_map, sizeLine_eq]; omega, fun c o e => (upd_ne (ne_of_none e hL)).trans (sm4 _ _ (sm2 c o e)), us ++ [q], by rw [upd_same, List.map_append]; rfl, ?_⟩
          rw [st]
          exact RowsAt.put (sm4 _ _ hL2) (rows_snoc (ru.same sm4) (sm4 _ _ hq2))
    rintro H2 ⟨sm2, us, hL2, ru⟩
    rw [List.length_map, Paired.length rows, List.take_length] at ru
    have ruU : RowsAt H2 us (fits rs h) := ru
    have lfu : us.length = (fits rs h).length := Paired.length ruU
    have lf64 : (fits rs h).length ≤ 64 := Nat.le_trans (List.length_filter_le _ _) few
    have fitF : ∀ q ∈ fits rs h, ∀ z ∈ q, Fit z := fun q hq => fit q (List.mem_filter.mp hq).1
    refine ⟨_, rfl, Nat.zero_le _, fun e0 he0 => ⟨_, _, .lst (SqL.of ((same_new he0) _ _ hL2)) (RowsAt.lift (ruU.same (same_new he0))), .lst (SqL.of upd_same) .nil, shaped_rows _ fitF, rfl, _, rfl, ?_⟩⟩
    rw [eqv_nilR]
    have sm3 : Same H _ := sm2.trans (same_new (o := .lst []) he0)
    have ruU := ruU.same (same_new (o := .lst []) he0)
    have hLU := (same_new (o := .lst []) he0) _ _ hL2
    generalize upd H2 e0 (.lst []) = H3 at sm3 ruU hLU ⊢
    have hA3 := hA.same sm3
    cases ef : fits rs h with
    | nil =>
      have e : forcedOf rs h = none := by
        unfold forcedOf
        rw [ef]
      rw [e] at k
      exact iteT (k H3 sm3)
    | cons r0 rest =>
      have e : forcedOf rs h = some (r0.filter fun l => !decide (l ∈ h.map lit) && (r0 :: rest).all fun r => decide (l ∈ r)) := by
        unfold forcedOf
        rw [ef]
      rw [e] at k
      rw [ef] at lfu lf64 ruU
      cases us with
      | nil => cases lfu
      | cons t0 us =>
      have lr0 : r0.length ≤ 60 := short r0 (List.mem_filter.mp (show r0 ∈ fits rs h by rw [ef]; exact List.mem_cons_self)).1
      obtain ⟨r0', e0, ht0⟩ := RowsAt.get ruU 0 t0 rfl
      obtain rfl : r0 = r0' := by simpa using e0
      have ht0 : H3 t0 = some (.tup (r0.map V.str)) := ht0
      refine iteF ⟨_, rfl, L, _, 0, .ref t0, rfl, rfl, SqL.of hLU, atI_nat (j := 0) rfl, false, t0, _, rfl, Sq.tup ht0, fun D hD => lc_it walk_sq (fun i H4 => Same H3 H4 ∧ H4 D = some (.lst (((r0.take i).filter fun l => !decide (l ∈ h.map lit) && (r0 :: rest).all fun r => decide (l ∈ r)).map V.str))) ⟨same_new hD, upd_same⟩ (fun i H4 _ hh => Sq.tup (hh.1 _ _ ht0)) ?_ ?_⟩
      · rintro i v H4 H5 hi ⟨sm4, hD4⟩ ⟨rfl, hv⟩
        obtain ⟨l, hl, rfl⟩ := get_map hv
        have st := filt_step (f := fun l => !decide (l ∈ h.map lit) && (r0 :: rest).all fun r => decide (l ∈ r)) hl
        have sl := filt_len (f := fun l => !decide (l ∈ h.map lit) && (r0 :: rest).all fun r => decide (l ∈ r)) (xs := r0) (i := i)
        have hA4 := hA3.same sm4
        refine ⟨rfl, _, rfl, _, rfl, A, _, rfl, hA4.at2, rfl, flat_str _, _, rfl, ?_⟩
        rw [if_pos rfl, inV_str]
        cases en : (!decide (l ∈ h.map lit)) with
        | false =>
          rw [en, Bool.false_and, if_neg (by decide), List.append_nil] at st
          refine iteF (iteF ⟨sm4, ?_⟩)
          rw [st]
          exact hD4
        | true =>
          rw [en, Bool.true_and] at st
          refine iteT ⟨_, rfl, L, rfl, ⟨_, SqL.of (sm4 _ _ hLU)⟩, fun Lb hLb => lc_it (walk_list (xs := (t0 :: us).map V.ref)) (fun j H6 => Same _ H6 ∧ H6 Lb = some (.lst ((((r0 :: rest).take j).map fun r => decide (l ∈ r)).map V.bl))) ⟨same_new hLb, upd_same⟩ (fun j H6 _ hh => SqL.of (hh.1 _ _ (sm4 _ _ hLU))) ?_ ?_⟩
          · rintro j v2 H6 H7 hj ⟨sm6, hL6⟩ ⟨rfl, hv2⟩
            obtain ⟨t, ht, rfl⟩ := get_map hv2
            obtain ⟨row, hrow, hrt⟩ := RowsAt.get ruU j t ht
            have er2 : (r0 :: rest).take (j + 1) = (r0 :: rest).take j ++ [row] := by rw [List.take_succ, hrow]; rfl
            have lt2 := List.length_take_le' j (r0 :: rest)
            have hrt : H3 t = some (.tup (row.map V.str)) := hrt
            refine ⟨rfl, _, rfl, _, rfl, t, _, rfl, .inr (SqT.of (sm6 _ _ (sm4 _ _ hrt))), rfl, flat_str _, ?_⟩
            rw [if_neg (by decide), inV_str]
            refine ⟨_, hL6, by rw [List.length_map, List.length_map, sizeLine_eq]; omega, fun c o e => (upd_ne (ne_of_none e hLb)).trans (sm6 c o e), ?_⟩
            rw [upd_same, er2, List.map_append, List.map_append]
            rfl
          · rintro H6 ⟨sm6, hL6⟩
            rw [List.length_map, lfu, List.take_length] at hL6
            refine ⟨Lb, _, rfl, SqL.of hL6, _, rfl, ?_⟩
            have e2 : ((r0 :: rest).map fun r => decide (l ∈ r)).all id = (r0 :: rest).all fun r => decide (l ∈ r) := by
              rw [List.all_map]
              rfl
            rw [e2]
            cases ea : ((r0 :: rest).all fun r => decide (l ∈ r)) with
            | false =>
              rw [ea, if_neg (by decide), List.append_nil] at st
              refine iteF ⟨sm4.trans sm6, ?_⟩
              rw [st]
              exact sm6 _ _ hD4
            | true =>
              rw [ea, if_pos rfl] at st
              refine iteT ⟨_, rfl, _, sm6 _ _ hD4, by rw [List.length_map, sizeLine_eq]; omega, fun c o e => (upd_ne (ne_of_none e hD)).trans (sm6 _ _ (sm4 c o e)), ?_⟩
              rw [upd_same, st, strs_app]
      · rintro H5 ⟨sm5, hR5⟩
        rw [List.length_map, List.take_length] at hR5
        exact k D H5 (sm3.trans sm5) (sm3.free hD) hR5
end
end K6
namespace K6
open PySem PySem.Spec PyProof.Rows L2 LamX NdefX EV
/-! ### the law's shortest consequences -/
theorem halves_hv (ns : List Str) : halves ns = hv ns (ns.length + 1) := rfl
theorem halves_len {ns : List Str} (n6 : ns.length ≤ 6) : (halves ns).length ≤ 6000000 := by
  rw [halves_hv, hv_succ, List.length_append]
  have z1 := hv_len n6 ns.length
  have z2 := level_len n6 ns.length
  have z3 := pow12 n6
  omega
theorem found_at {ns : List Str} {rs : List (List Str)} (nd : ns.Nodup) {i : Nat} {c : QL} (h : (halves ns)[i]? = some c) : ((halves ns).take (i + 1)).filter (primeB rs) = lStep rs (((halves ns).take i).filter (primeB rs)) c := by
  have er : (halves ns).take (i + 1) = (halves ns).take i ++ [c] := by rw [List.take_succ, h]; rfl
  have e : halves ns = (halves ns).take i ++ c :: (halves ns).drop (i + 1) := by
    obtain ⟨lt, e⟩ := List.getElem?_eq_some_iff.mp h
    have z := List.take_append_drop i (halves ns)
    rw [List.drop_eq_getElem_cons lt, e] at z
    exact z.symm
  rw [er]
  exact (law_step nd e).symm
def spShortestL : Sp := fun vs H Q _ => ∃ (T R : Addr) (ns : List Str) (ts : List Addr) (rs : List (List Str)), vs = [.ref T, .ref R] ∧ H T = some (.lst (ns.map V.str)) ∧ H R = some (.lst (ts.map V.ref)) ∧ RowsAt H ts rs ∧ ns.length ≤ 6 ∧ ns.Nodup ∧ (∀ z ∈ ns, Name1 z) ∧ rs.length ≤ 64 ∧
  ∀ p us H', Same H H' → H p = none → H' p = some (.lst (us.map V.ref)) → RowsAt H' us ((primes ns rs).map ctx) → Q (.ref p) H'
def spIsDrawn : Sp := fun vs H Q _ => ∃ (S A : Addr) (b : Bool) (us : List Addr) (ps : List QL) (h : QL) (q : Bool × Str), vs = [.ref S, .ref A, .str (lit q)] ∧ H S = some (.lst (us.map V.ref)) ∧ RowsAt H us (ps.map ctx) ∧ HS H A b ((h.map lit).map V.str) ∧ h.length ≤ 60 ∧ (∀ z ∈ h, Name1 z.2) ∧ Name1 q.2 ∧ (∀ p ∈ ps, p.length ≤ 60 ∧ ∀ z ∈ p, Name1 z.2) ∧ ps.length ≤ 6000000 ∧
  ∀ H', Same H H' → Q (.bl (ps.any fun p => inB p (h.map opp ++ [q]))) H'
section
variable {P : Program} {w : World} {K : PySem.W.Frag} {mg : Str → Option Value} {base : Heap} {f fH fW fM fN : Addr} {fd fdH fdW fdM fdN : FuncData}
abbrev nShL : List Str := ["_law_names_here", "_law_settings", "_law_found", "_law_clause", "_law_part", "_law_one"]
theorem scShL : FnScope nShL ["_law_names_here", "_law_settings"] (defScope sShortestL) := ⟨rfl, rfl, rfl, by decide +kernel, rfl, by decide +kernel, by decide +kernel⟩
theorem ok_shortestL (F : Fun K "_law_shortest" "_law_shortest" sShortestL f fd) (any : mg "any" = none) (all : mg "all" = none)
    (GH : FnOk P w K mg base CX0 2 fH fdH ["_law_names_here"] spHalves) (mH : mg "_law_halves" = some (.ref fH)) (kH : PySem.W.keepIn K (.ref fH) = true) (bH : L2.Binds K fdH ["_law_names_here"] [])
    (GW : FnOk P w K mg base CX0 1 fW fdW ["_law_part", "_law_clause"] spWithin) (mW : mg "_law_within" = some (.ref fW)) (kW : PySem.W.keepIn K (.ref fW) = true) (bW : L2.Binds K fdW ["_law_part", "_law_clause"] [])
    (GM : FnOk P w K mg base CX0 1 fM fdM ["_law_clause", "_law_some"] spMeets) (mM : mg "_law_meets" = some (.ref fM)) (kM : PySem.W.keepIn K (.ref fM) = true) (bM : L2.Binds K fdM ["_law_clause", "_law_some"] []) :
    FnOk P w K mg base CX0 3 f fd ["_law_names_here", "_law_settings"] spShortestL := by
  refine F.ok scShL (fun vs H Q E h => ?_) (fun cdv A' outer s H vs Q E hr h => ?_)
  · obtain ⟨T, R, ns, ts, rs, rfl, _⟩ := h
    rfl
  · obtain ⟨T, R, ns, ts, rs, rfl, hT, hR, rows, n6, nd, good, few, k⟩ := h
    have hr1 : Room 1 _ := hr.mono (by decide)
    refine ⟨_, pss_cons (ps_set (i := 2) scShL.nd rfl (.inl rfl) (pe_lst pa_nil))
      (pss_cons (ps_for PassesOwn.never rfl (pi_list (pe_call GH hr (by rfl) mH kH bH .nil pass0 (pa_cons (pv 0) pa_nil))) (pg_name (i := 3) scShL.nd rfl (.inr rfl))
        (pss_one (ps_if (pt_not (pt_val (pe_callB (cr_any rfl) (by rfl) any (by decide +kernel) (pa_cons (pe_lc (own := [("_law_part", 4)]) (g := gName 4) (tt := tYes) rfl scShL.nd (pi_list (pv 2)) (blkOk_by (N := nShL) (sc := defScope sShortestL) (by decide +kernel))
              (fun _ _ _ _ _ => pg_name (i := 4) scShL.nd rfl (.inl rfl)) (fun _ _ _ _ _ => pts_nil) (fun _ _ _ _ _ => pe_call GW hr1 (by rfl) mW kW bW .nil pass0 (pa_cons (pv 4) (pa_cons (pv 3) pa_nil)))) pa_nil))))
          (pss_one (ps_if (pt_val (pe_callB (cr_all rfl) (by rfl) all (by decide +kernel) (pa_cons (pe_lc (own := [("_law_one", 5)]) (g := gName 5) (tt := tYes) rfl scShL.nd (pi_list (pv 1)) (blkOk_by (N := nShL) (sc := defScope sShortestL) (by decide +kernel))
              (fun _ _ _ _ _ => pg_name (i := 5) scShL.nd rfl (.inl rfl)) (fun _ _ _ _ _ => pts_nil) (fun _ _ _ _ _ => pe_call GM hr1 (by rfl) mM kM bM .nil pass0 (pa_cons (pv 3) (pa_cons (pv 5) pa_nil)))) pa_nil)))
            (pss_one (ps_expr (pe_bm PySem.F.plainAttrs_list PySem.F.slot_list_append PySem.F.type_list_append mt_append (pv 2) (pa_cons (pv 3) pa_nil)))) pss_nil)) pss_nil)))
      (pss_one (ps_ret (pv 2)))), ?_⟩
    refine ⟨Nat.zero_le _, fun Fo hFo => ?_⟩
    have sF := same_new (o := .lst []) hFo
    refine ⟨_, rfl, T, ns, rfl, sF _ _ hT, n6, nd, good, fun Hv hs H1 sm1 hHv0 hHv rH => ?_⟩
    have hF1 := sm1 _ _ (upd_same (H := H) (a := Fo) (o := .lst []))
    have nHF : Hv ≠ Fo := fun e => by rw [e, upd_same] at hHv0; cases hHv0
    have lhs := rows_map_len rH
    have hlen := halves_len n6
    refine ⟨Hv, rfl, ⟨_, SqL.of hHv⟩, for_list (K := K) (a := Hv) (xs := hs.map V.ref) (fun i σ H4 => ∃ o3 us, σ = [some (.ref T), some (.ref R), some (.ref Fo), o3, none, none] ∧ Same H H4 ∧ Grow Fo H1 H4 ∧ H4 Fo = some (.lst (us.map V.ref)) ∧ RowsAt H4 us ((((halves ns).take i).filter (primeB rs)).map ctx)) ⟨_, [], rfl, sF.trans sm1, .of (Same.refl _), hF1, .nil⟩ (fun i σ H4 _ ⟨_, _, _, _, g, _⟩ => SqL.of (g _ _ nHF hHv)) ?_ ?_⟩
    · rintro i v σ H4 hv ⟨o3, us, rfl, sm4, g4, hF4, rF4⟩
      obtain ⟨t, ht, rfl⟩ := get_map hv
      obtain ⟨row, hrow, hrt⟩ := RowsAt.get rH i t ht
      rw [List.getElem?_map] at hrow
      obtain ⟨c, hc, rfl⟩ := Option.map_eq_some_iff.mp hrow
      have hh : Half ns c := (halves_mem nd).mp (List.mem_of_getElem? hc)
      have gH : ∀ {d : QL}, Half ns d → d.length ≤ 60 ∧ ∀ q ∈ d, Name1 q.2 := fun {d} hd => by
        have z := hd.length_le
        rw [List.length_map] at z
        exact ⟨by omega, fun q hq => good _ (hd.subset (List.mem_map_of_mem (f := Prod.snd) hq))⟩
      obtain ⟨c60, gc⟩ := gH hh
      have ntF : t ≠ Fo := ne_of hrt hF1 fun z => nomatch z
      have hrt4 : H4 t = some (.tup ((c.map lit).map V.str)) := g4 _ _ ntF hrt
      have lus := rows_map_len rF4
      have lfl : (((halves ns).take i).filter (primeB rs)).length ≤ 6000000 := Nat.le_trans filt_len hlen
      have fa := found_at (rs := rs) nd hc
      generalize eF : ((halves ns).take i).filter (primeB rs) = fs at rF4 lus lfl fa
      have gF : ∀ p ∈ fs, Half ns p := fun p hp => by
        rw [← eF] at hp
        exact (halves_mem nd).mp (List.mem_of_mem_take (List.mem_filter.mp hp).1)
      refine ⟨_, rfl, Fo, rfl, ⟨_, SqL.of hF4⟩, fun L hL => lc_it (walk_list (xs := us.map V.ref)) (fun j H5 => Same H4 H5 ∧ H5 L = some (.lst (((fs.take j).map fun p => inB p c).map V.bl))) ⟨same_new hL, upd_same⟩ (fun j H5 _ hh => SqL.of (hh.1 _ _ hF4)) ?_ ?_⟩
      · rintro j v2 H5 H6 hj ⟨sm5, hL5⟩ ⟨rfl, hv2⟩
        obtain ⟨a, ha, rfl⟩ := get_map hv2
        obtain ⟨row, hrow, har⟩ := RowsAt.get rF4 j a ha
        rw [List.getElem?_map] at hrow
        obtain ⟨p, hp, rfl⟩ := Option.map_eq_some_iff.mp hrow
        obtain ⟨p60, gp⟩ := gH (gF p (List.mem_of_getElem? hp))
        have har : H4 a = some (.tup ((p.map lit).map V.str)) := har
        have er2 : fs.take (j + 1) = fs.take j ++ [p] := by rw [List.take_succ, hp]; rfl
        have lt2 := List.length_take_le' j fs
        refine ⟨rfl, _, rfl, _, rfl, a, t, false, p, c, rfl, sm5 _ _ har, sm5 _ _ hrt4, p60, gp, gc, fun H7 sm7 => ?_⟩
        refine ⟨_, sm7 _ _ hL5, by rw [List.length_map, List.length_map, sizeLine_eq]; omega, fun b o e => (upd_ne (ne_of_none e hL)).trans (sm7 _ _ (sm5 b o e)), ?_⟩
        rw [upd_same, er2, List.map_append, List.map_append]
        rfl
      rintro H5 ⟨sm5, hL5⟩
      rw [List.length_map, lus, List.take_length] at hL5
      refine ⟨L, _, rfl, SqL.of hL5, _, rfl, ?_⟩
      have e1 : (fs.map fun p => inB p c).any id = fs.any fun p => inB p c := by
        rw [List.any_map]
        rfl
      rw [e1]
      have sm45 := sm4.trans sm5
      have g45 : Grow Fo H1 H5 := g4.trans (.of sm5)
      unfold lStep at fa
      cases eA : (fs.any fun p => inB p c) with
      | true =>
        rw [eA, if_neg (by simp)] at fa
        refine iteF ⟨_, us, rfl, sm45, g45, sm5 _ _ hF4, ?_⟩
        rw [fa]
        exact rF4.same sm5
      | false =>
        rw [eA] at fa
        refine iteT ⟨_, rfl, R, rfl, ⟨_, SqL.of (sm45 _ _ hR)⟩, fun L2 hL2 => lc_it (walk_list (xs := ts.map V.ref)) (fun j H6 => Same H5 H6 ∧ H6 L2 = some (.lst (((rs.take j).map fun r => c.any fun q => decide (lit q ∈ r)).map V.bl))) ⟨same_new hL2, upd_same⟩ (fun j H6 _ hh => SqL.of (hh.1 _ _ (sm45 _ _ hR))) ?_ ?_⟩
        · rintro j v2 H6 H7 hj ⟨sm6, hL6⟩ ⟨rfl, hv2⟩
          obtain ⟨a, ha, rfl⟩ := get_map hv2
          obtain ⟨row, hrow, har⟩ := RowsAt.get rows j a ha
          have er2 : rs.take (j + 1) = rs.take j ++ [row] := by rw [List.take_succ, hrow]; rfl
          have lt2 := List.length_take_le' j rs
          have s6 := sm45.trans sm6
          have har : H a = some (.tup (row.map V.str)) := har
          refine ⟨rfl, _, rfl, _, rfl, t, a, c, row, rfl, sm6 _ _ (sm5 _ _ hrt4), s6 _ _ har, c60, fun H8 sm8 => ?_⟩
          refine ⟨_, sm8 _ _ hL6, by rw [List.length_map, List.length_map, sizeLine_eq]; omega, fun b o e => (upd_ne (ne_of_none e hL2)).trans (sm8 _ _ (sm6 b o e)), ?_⟩
          rw [upd_same, er2, List.map_append, List.map_append]
          rfl
        rintro H6 ⟨sm6, hL6⟩
        rw [List.length_map, Paired.length rows, List.take_length] at hL6
        refine ⟨L2, _, rfl, SqL.of hL6, _, rfl, ?_⟩
        have e2 : (rs.map fun r => c.any fun q => decide (lit q ∈ r)).all id = consB rs c := by
          unfold consB
          rw [List.all_map]
          rfl
        rw [e2]
        have s6 := sm45.trans sm6
        have g6 : Grow Fo H1 H6 := g45.trans (.of sm6)
        have hF6 := sm6 _ _ (sm5 _ _ hF4)
        have rF6 := rF4.same (sm5.trans sm6)
        cases eC : consB rs c with
        | false =>
          rw [eC, if_neg (by simp)] at fa
          refine iteF ⟨_, us, rfl, s6, g6, hF6, ?_⟩
          rw [fa]
          exact rF6
        | true =>
          rw [eC, if_pos (by simp)] at fa
          refine iteT ⟨_, rfl, .inl ⟨rfl, _, SqL.of hF6⟩, _, rfl, Fo, _, _, rfl, rfl, hF6, by rw [List.length_map, sizeLine_eq]; omega, _, us ++ [t], rfl, fun b' o h => (upd_ne (ne_of_none h hFo)).trans (s6 b' o h), g6.trans .put, ?_, RowsAt.put hF6 ?_⟩
          · rw [upd_same, List.map_append]
            rfl
          · rw [fa, List.map_append]
            exact rows_snoc rF6 (sm6 _ _ (sm5 _ _ hrt4))
    · rintro σ H4 ⟨o3, us, rfl, sm4, g4, hF4, rF4⟩
      rw [List.length_map, lhs, List.take_length] at rF4
      exact ⟨_, rfl, k Fo us H4 sm4 hFo hF4 rF4⟩
abbrev nIsD : List Str := ["_law_shortest_here", "_law_half", "_law_literal", "_law_some", "_law_one", "_law_clause"]
theorem scIsD : FnScope nIsD ["_law_shortest_here", "_law_half", "_law_literal"] (defScope sIsDrawn) := ⟨rfl, rfl, rfl, by decide +kernel, rfl, by decide +kernel, by decide +kernel⟩
theorem ok_isDrawn (F : Fun K "_law_is_drawn" "_law_is_drawn" sIsDrawn f fd) (any : mg "any" = none)
    (GN : FnOk P w K mg base CX0 1 fN fdN ["_law_one"] spOpp) (mN : mg "_law_neg" = some (.ref fN)) (kN : PySem.W.keepIn K (.ref fN) = true) (bN : L2.Binds K fdN ["_law_one"] [])
    (GW : FnOk P w K mg base CX0 1 fW fdW ["_law_part", "_law_clause"] spWithin) (mW : mg "_law_within" = some (.ref fW)) (kW : PySem.W.keepIn K (.ref fW) = true) (bW : L2.Binds K fdW ["_law_part", "_law_clause"] []) :
    FnOk P w K mg base CX0 2 f fd ["_law_shortest_here", "_law_half", "_law_literal"] spIsDrawn := by
  refine F.ok scIsD (fun vs H Q E h => ?_) (fun cdv A' outer s H vs Q E hr h => ?_)
  · obtain ⟨S, A, b, us, ps, h, q, rfl, _⟩ := h
    rfl
  · obtain ⟨S, A, b, us, ps, h, q, rfl, hS, rS, hA, h60, gh, gq, gp, few, k⟩ := h
    refine ⟨_, pss_cons (ps_set (i := 3) scIsD.nd rfl (.inr rfl) (pe_op op_cat (pe_lc (own := [("_law_one", 4)]) (g := gName 4) (tt := tYes) rfl scIsD.nd (pi_seq (pv 1)) (blkOk_by (N := nIsD) (sc := defScope sIsDrawn) (by decide +kernel))
          (fun _ _ _ _ _ => pg_name (i := 4) scIsD.nd rfl (.inl rfl)) (fun _ _ _ _ _ => pts_nil) (fun _ _ _ _ _ => pe_call GN hr (by rfl) mN kN bN .nil pass0 (pa_cons (pv 4) pa_nil))) (pe_lst (pa_cons (pv 2) pa_nil))))
      (pss_one (ps_ret (pe_callB (cr_any rfl) (by rfl) any (by decide +kernel) (pa_cons (pe_lc (own := [("_law_clause", 5)]) (g := gName 5) (tt := tYes) rfl scIsD.nd (pi_list (pv 0)) (blkOk_by (N := nIsD) (sc := defScope sIsDrawn) (by decide +kernel))
          (fun _ _ _ _ _ => pg_name (i := 5) scIsD.nd rfl (.inl rfl)) (fun _ _ _ _ _ => pts_nil) (fun _ _ _ _ _ => pe_call GW hr (by rfl) mW kW bW .nil pass0 (pa_cons (pv 5) (pa_cons (pv 3) pa_nil)))) pa_nil)))), ?_⟩
    refine ⟨_, rfl, b, A, _, rfl, hA.sq, fun L hL => lc_it walk_sq (fun j H4 => Same H H4 ∧ H4 L = some (.lst ((((h.take j).map opp).map lit).map V.str))) ⟨same_new hL, upd_same⟩ (fun j H4 _ hh => (hA.same hh.1).sq) ?_ ?_⟩
    · rintro j v H4 H5 hj ⟨sm4, hL4⟩ ⟨rfl, hv⟩
      obtain ⟨l0, hl0, rfl⟩ := get_map hv
      obtain ⟨l, hl, rfl⟩ := get_map hl0
      have er2 : h.take (j + 1) = h.take j ++ [l] := by rw [List.take_succ, hl]; rfl
      have lt2 := List.length_take_le' j h
      refine ⟨rfl, _, rfl, l, rfl, gh l (List.mem_of_getElem? hl), ?_⟩
      refine ⟨_, hL4, by rw [List.length_map, List.length_map, List.length_map, sizeLine_eq]; omega, fun c o e => (upd_ne (ne_of_none e hL)).trans (sm4 c o e), ?_⟩
      rw [upd_same, er2, List.map_append, List.map_append, List.map_append]
      rfl
    rintro H4 ⟨sm4, hL4⟩
    rw [List.length_map, List.length_map, List.take_length] at hL4
    refine ⟨_, rfl, by show 1 ≤ sizeLine; decide, fun e0 he0 => ⟨L, e0, _, _, rfl, rfl, (same_new he0) _ _ hL4, upd_same, by rw [List.length_map, List.length_map, List.length_map, sizeLine_eq]; show _ + 1 ≤ _; omega, fun So hSo => ?_⟩⟩
    have sm5 : Same H _ := (sm4.trans (same_new (o := .lst [.str (lit q)]) he0)).trans (same_new (o := .lst ((((h.map opp).map lit).map V.str) ++ [.str (lit q)])) hSo)
    have hSo5 : HS (upd (upd H4 e0 (.lst [.str (lit q)])) So (.lst ((((h.map opp).map lit).map V.str) ++ [.str (lit q)]))) So true (((h.map opp ++ [q]).map lit).map V.str) := by
      show upd _ _ _ _ = some (HO.lst _)
      rw [upd_same, List.map_append, List.map_append]
      rfl
    generalize upd (upd H4 e0 (.lst [.str (lit q)])) So (.lst ((((h.map opp).map lit).map V.str) ++ [.str (lit q)])) = H5 at sm5 hSo5 ⊢
    have lus := rows_map_len rS
    have gd : ∀ z ∈ h.map opp ++ [q], Name1 z.2 := fun z hz => by
      rcases List.mem_append.mp hz with m | m
      · obtain ⟨y, hy, rfl⟩ := List.mem_map.mp m
        exact gh y hy
      · rw [List.mem_singleton.mp m]
        exact gq
    refine ⟨_, rfl, S, rfl, ⟨_, SqL.of (sm5 _ _ hS)⟩, fun L hL => lc_it (walk_list (xs := us.map V.ref)) (fun j H6 => Same H5 H6 ∧ H6 L = some (.lst (((ps.take j).map fun p => inB p (h.map opp ++ [q])).map V.bl))) ⟨same_new hL, upd_same⟩ (fun j H6 _ hh => SqL.of (hh.1 _ _ (sm5 _ _ hS))) ?_ ?_⟩
    · rintro j v2 H6 H7 hj ⟨sm6, hL6⟩ ⟨rfl, hv2⟩
      obtain ⟨a, ha, rfl⟩ := get_map hv2
      obtain ⟨row, hrow, har⟩ := RowsAt.get rS j a ha
      rw [List.getElem?_map] at hrow
      obtain ⟨p, hp, rfl⟩ := Option.map_eq_some_iff.mp hrow
      obtain ⟨p60, gp⟩ := gp p (List.mem_of_getElem? hp)
      have har : H a = some (.tup ((p.map lit).map V.str)) := har
      have er2 : ps.take (j + 1) = ps.take j ++ [p] := by rw [List.take_succ, hp]; rfl
      have lt2 := List.length_take_le' j ps
      refine ⟨rfl, _, rfl, _, rfl, a, So, true, p, h.map opp ++ [q], rfl, sm6 _ _ (sm5 _ _ har), hSo5.same sm6, p60, gp, gd, fun H8 sm8 => ?_⟩
      refine ⟨_, sm8 _ _ hL6, by rw [List.length_map, List.length_map, sizeLine_eq]; omega, fun b o e => (upd_ne (ne_of_none e hL)).trans (sm8 _ _ (sm6 b o e)), ?_⟩
      rw [upd_same, er2, List.map_append, List.map_append]
      rfl
    · rintro H6 ⟨sm6, hL6⟩
      rw [List.length_map, lus, List.take_length] at hL6
      refine ⟨L, _, rfl, SqL.of hL6, ?_⟩
      have e2 : (ps.map fun p => inB p (h.map opp ++ [q])).any id = ps.any fun p => inB p (h.map opp ++ [q]) := by
        rw [List.any_map]
        rfl
      rw [e2]
      exact k H6 (sm5.trans sm6)
end
end K6
namespace K6
open PySem PySem.Spec PyProof.Rows L2 LamX NdefX EV
/-! ### full settings in order -/
theorem asc_full : ∀ (ns : List Str) (qs : List (Bool × Str)), ns.Nodup → (∀ z ∈ ns, Name1 z) → qs.map Prod.snd = ns → asc ns (qs.map lit) = qs.map lit
  | [], qs, _, _, e => by
    obtain rfl : qs = [] := by simpa using e
    rfl
  | n :: ns, [], _, _, e => nomatch e
  | n :: ns, (b, m) :: qs, nd, good, e => by
    injection e with e1 e2
    have e1 : m = n := e1
    subst e1
    obtain ⟨h1, h2⟩ := List.nodup_cons.mp nd
    have goodr : ∀ z ∈ ns, Name1 z := fun z hz => good z (List.mem_cons_of_mem _ hz)
    have ln : (m :: neg m :: lits ns).Nodup := lits_nodup (m :: ns) nd good
    obtain ⟨l1, l2⟩ := List.nodup_cons.mp ln
    obtain ⟨l3, l4⟩ := List.nodup_cons.mp l2
    have m1 : m ∉ lits ns := fun q => l1 (List.mem_cons_of_mem _ q)
    have sub : ∀ l ∈ qs.map lit, l ∈ lits ns := fun l hl => by
      obtain ⟨q, hq, rfl⟩ := List.mem_map.mp hl
      exact lit_mem (by rw [← e2]; exact List.mem_map_of_mem hq)
    have ih := asc_full ns qs h2 goodr e2
    have tail : (lits ns).filter (fun l => decide (l ∈ ((b, m) :: qs).map lit)) = qs.map lit := by
      rw [← ih]
      unfold asc
      refine List.filter_congr fun l hl => decide_eq_decide.mpr ⟨fun q => ?_, fun q => ?_⟩
      · rw [List.map_cons] at q
        rcases List.mem_cons.mp q with q | q
        · cases b
          · exact absurd (show l = m from q) fun e => m1 (e ▸ hl)
          · exact absurd (show l = neg m from q) fun e => l3 (e ▸ hl)
        · exact q
      · exact List.mem_cons_of_mem _ q
    show (m :: neg m :: lits ns).filter (fun l => decide (l ∈ ((b, m) :: qs).map lit)) = lit (b, m) :: qs.map lit
    cases b with
    | false =>
      have y1 : m ∈ ((false, m) :: qs).map lit := List.mem_cons_self
      have y2 : neg m ∉ ((false, m) :: qs).map lit := fun q => by
        rw [List.map_cons] at q
        rcases List.mem_cons.mp q with q | q
        · exact neg_ne m (show neg m = m from q).symm
        · exact l3 (sub _ q)
      rw [List.filter_cons, if_pos (decide_eq_true y1), List.filter_cons, if_neg (by rw [decide_eq_false y2]; decide), tail]
      rfl
    | true =>
      have y1 : m ∉ ((true, m) :: qs).map lit := fun q => by
        rw [List.map_cons] at q
        rcases List.mem_cons.mp q with q | q
        · exact neg_ne m (show m = neg m from q)
        · exact m1 (sub _ q)
      have y2 : neg m ∈ ((true, m) :: qs).map lit := List.mem_cons_self
      rw [List.filter_cons, if_neg (by rw [decide_eq_false y1]; decide), List.filter_cons, if_pos (decide_eq_true y2), tail]
      rfl
theorem asc_fulls {ns r : List Str} (nd : ns.Nodup) (good : ∀ z ∈ ns, Name1 z) (h : r ∈ fulls ns) : asc ns r = r := by
  obtain ⟨qs, e, rfl⟩ := fulls_mem.mp h
  exact asc_full ns qs nd good e
/-- literals of all names, in any order: brought into order they are a full setting -/
theorem asc_any {ns : List Str} {qs : List (Bool × Str)} (nd : ns.Nodup) (good : ∀ z ∈ ns, Name1 z) (hq : Lits ns qs) (lq : qs.length = ns.length) : asc ns (qs.map lit) ∈ fulls ns := by
  -- the literals, taken name by name
  have back : ∀ n ∈ ns, ∃ b, (b, n) ∈ qs := fun n hn => by
    have z := nodup_back hq.nd (by rw [List.length_map]; exact lq) (fun x hx => by
      obtain ⟨q, hq', rfl⟩ := List.mem_map.mp hx
      exact hq.sub q hq') n hn
    obtain ⟨⟨b, m⟩, hq', e⟩ := List.mem_map.mp z
    exact ⟨b, by rw [← show m = n from e]; exact hq'⟩
  have go : ∀ ms : List Str, (∀ n ∈ ms, n ∈ ns) → ∃ ps : List (Bool × Str), ps.map Prod.snd = ms ∧ ∀ p ∈ ps, p ∈ qs := by
    intro ms
    induction ms with
    | nil => intro _; exact ⟨[], rfl, fun _ h => nomatch h⟩
    | cons m ms ih =>
      intro h
      obtain ⟨ps, e, hp⟩ := ih fun n hn => h n (List.mem_cons_of_mem _ hn)
      obtain ⟨b, hb⟩ := back m (h m List.mem_cons_self)
      refine ⟨(b, m) :: ps, by rw [List.map_cons, e], fun p hpm => ?_⟩
      rcases List.mem_cons.mp hpm with rfl | hpm
      · exact hb
      · exact hp p hpm
  obtain ⟨ps, e, hp⟩ := go ns fun _ h => h
  have pn : (ps.map Prod.snd).Nodup := by rw [e]; exact nd
  have sub2 : ∀ q ∈ qs, q ∈ ps := by
    have ndp : ps.Nodup := List.Pairwise.of_map Prod.snd (fun a b h e => h (congrArg _ e)) pn
    have ndq : qs.Nodup := List.Pairwise.of_map Prod.snd (fun a b h e => h (congrArg _ e)) hq.nd
    have lp : ps.length = qs.length := by rw [lq, ← e, List.length_map]
    intro q hq'
    by_cases h : q ∈ ps
    · exact h
    · have z := nodup_le (q :: ps) qs (List.nodup_cons.mpr ⟨h, ndp⟩) fun a ha => (List.mem_cons.mp ha).elim (fun e => e ▸ hq') (hp a)
      rw [List.length_cons] at z
      omega
  have e3 : asc ns (qs.map lit) = asc ns (ps.map lit) := asc_congr fun l => by
    constructor
    · intro h
      obtain ⟨q, hq', rfl⟩ := List.mem_map.mp h
      exact List.mem_map_of_mem (sub2 q hq')
    · intro h
      obtain ⟨q, hq', rfl⟩ := List.mem_map.mp h
      exact List.mem_map_of_mem (hp q hq')
  rw [e3, asc_full ns ps nd good e]
  exact fulls_mem.mpr ⟨ps, e, rfl⟩
/-! ### the allowed settings -/
theorem allow_congr {ns : List Str} {a b : List (List Str)} (h : ∀ r ∈ fulls ns, r ∈ a ↔ r ∈ b) : allow ns a = allow ns b := by
  unfold allow
  exact List.filter_congr fun r hr => decide_eq_decide.mpr (h r hr)
theorem allow_mem {ns r : List Str} {gs : List (List Str)} : r ∈ allow ns gs ↔ r ∈ fulls ns ∧ r ∈ gs := by
  unfold allow
  rw [List.mem_filter]
  exact ⟨fun h => ⟨h.1, of_decide_eq_true h.2⟩, fun h => ⟨h.1, decide_eq_true h.2⟩⟩
theorem allow_sub {ns : List Str} {gs : List (List Str)} (h : gs.Sublist (fulls ns)) : allow ns gs = gs := sub_filter h (fulls_nodup ns)
theorem allow_nodup (ns : List Str) (gs : List (List Str)) : (allow ns gs).Nodup := (fulls_nodup ns).filter _
theorem allow_len {ns : List Str} {gs : List (List Str)} (nd : gs.Nodup) (h : ∀ r ∈ gs, r ∈ fulls ns) : (allow ns gs).length = gs.length :=
  Nat.le_antisymm (nodup_le _ _ (allow_nodup ns gs) fun r hr => (allow_mem.mp hr).2) (nodup_le _ _ nd fun r hr => allow_mem.mpr ⟨h r hr, hr⟩)
structure OkR (sg : List Str) (rs : List (List Str)) : Prop where
  n60 : sg.length ≤ 60
  nd : sg.Nodup
  good : ∀ z ∈ sg, Name1 z
  full : ∀ r ∈ rs, FullOf sg r
  few : rs.length ≤ 1000
theorem Draw2.ok {sg : List Str} {rs : List (List Str)} (D : Draw2 sg rs) : OkR sg rs := ⟨by have := D.n6; omega, D.nd, D.good, D.full, by have := D.few; omega⟩
theorem allow_few {sg : List Str} {gs : List (List Str)} (n6 : sg.length ≤ 6) : (allow sg gs).length ≤ 64 := Nat.le_trans (List.length_filter_le _ _) (fulls_few n6)
theorem allow_ok {sg : List Str} {gs : List (List Str)} (n6 : sg.length ≤ 6) (nd : sg.Nodup) (good : ∀ z ∈ sg, Name1 z) : OkR sg (allow sg gs) :=
  ⟨by omega, nd, good, fun r hr => full_of nd (allow_mem.mp hr).1, by have := allow_few (gs := gs) n6; omega⟩
theorem eqR_names {sg sg' : List Str} {rs rs' : List (List Str)} (h : sameMem sg sg' = false) : eqR sg rs sg' rs' = false := by
  unfold eqR leR
  rw [h]
  rfl
theorem eqR_rows {sg sg' : List Str} {rs rs' : List (List Str)} (h : rs.length ≠ rs'.length) : eqR sg rs sg' rs' = false := by
  unfold eqR
  rw [decide_eq_false h, Bool.and_false]
theorem make_rule {K : PySem.W.Frag} {C : Addr} {H : Hp} {S0 T0 x dx : Addr} {b1 b2 : Bool} {sg : List Str} {xs : List V} {qss : List (List (Bool × Str))} {W : VK} (hx : H x = none) (hdx : H dx = none) (hS : Sq K b1 H S0 (sg.map V.str)) (hT : Sq K b2 H T0 xs) (n6 : sg.length ≤ 6) (nd : sg.Nodup) (good : ∀ z ∈ sg, Name1 z)
    (giv : Paired (Handed K H sg) xs qss) (lens : ∀ qs ∈ qss, qs.length = sg.length) (few : qss.length ≤ 1000) (k : ∀ r H', Same H H' → RuleR K C H' x sg (allow sg (rowsOf sg qss)) r → H r = none → W .non H') :
    spInit K C [.ref x, .ref S0, .ref T0] (upd (upd H dx (.own x)) x (.ins C dx [])) W E0 := by
  have sm0 : Same H (upd (upd H dx (.own x)) x (.ins C dx [])) := fun c o e => (upd_ne (ne_of_none e hx)).trans ((upd_ne (ne_of_none e hdx)).trans e)
  have g : ∀ H', Grow x (upd (upd H dx (.own x)) x (.ins C dx [])) H' → Same H H' := fun H' gg c o e => gg c o (ne_of_none e hx) (sm0 c o e)
  refine ⟨x, dx, S0, T0, b1, b2, sg, xs, qss, rfl, upd_same, fun H' gg => Sq.same hS (g H' gg), fun H' gg => Sq.same hT (g H' gg), n6, nd, good, Paired.mapP giv (fun v qs h => Handed.given h g), lens, few, fun H' r gg c fresh => k r H' (g H' gg) c ?_⟩
  cases e : H r with
  | none => rfl
  | some o =>
    rw [sm0 r o e] at fresh
    cases fresh
/-- rows as they stand, handed over -/
theorem handed_full {K : PySem.W.Frag} {H : Hp} {sg : List Str} : ∀ {ts : List Addr} {rs : List (List Str)}, RowsAt H ts rs → (∀ r ∈ rs, FullOf sg r) →
    ∃ qss, Paired (Handed K H sg) (ts.map V.ref) qss ∧ rs = qss.map (fun qs => qs.map lit) ∧ ∀ qs ∈ qss, qs.length = sg.length
  | [], [], _, _ => ⟨[], .nil, rfl, fun _ h => nomatch h⟩
  | t :: ts, r :: rs, .cons h tl, full => by
    obtain ⟨qs, hq, lq, rfl⟩ := full r List.mem_cons_self
    obtain ⟨qss, h1, h2, h3⟩ := handed_full tl fun x hx => full x (List.mem_cons_of_mem _ hx)
    refine ⟨qs :: qss, .cons ⟨hq, false, t, rfl, Sq.tup h⟩ h1, by rw [List.map_cons, h2], fun x hx => ?_⟩
    rcases List.mem_cons.mp hx with rfl | hx
    · exact lq
    · exact h3 x hx
theorem rowsOf_fulls {sg : List Str} {rs : List (List Str)} {qss : List (List (Bool × Str))} (nd : sg.Nodup) (good : ∀ z ∈ sg, Name1 z) (e : rs = qss.map (fun qs => qs.map lit)) (h : ∀ r ∈ rs, r ∈ fulls sg) : allow sg (rowsOf sg qss) = allow sg rs := by
  refine allow_congr fun r hr => ?_
  rw [rowsOf_iff]
  constructor
  · rintro ⟨qs, hqs, rfl⟩
    have m : qs.map lit ∈ rs := by rw [e]; exact List.mem_map_of_mem hqs
    rw [asc_fulls nd good (h _ m)]
    exact m
  · intro m
    have m2 := m
    rw [e] at m2
    obtain ⟨qs, hqs, rfl⟩ := List.mem_map.mp m2
    exact ⟨qs, hqs, (asc_fulls nd good (h _ m)).symm⟩
/-! ### how many half-filled settings -/
def allH : List Str → List QL
  | [] => [[]]
  | n :: r => allH r ++ ((allH r).map ((false, n) :: ·) ++ (allH r).map ((true, n) :: ·))
theorem allH_len : ∀ ns : List Str, (allH ns).length = 3 ^ ns.length
  | [] => rfl
  | n :: r => by
    unfold allH
    rw [List.length_append, List.length_append, List.length_map, List.length_map, allH_len r, List.length_cons, Nat.pow_succ]
    omega
theorem allH_mem : ∀ {ns : List Str} {c : QL}, Half ns c → c ∈ allH ns
  | [], c, h => by
    have e : c.map Prod.snd = [] := List.sublist_nil.mp h
    have e2 : c = [] := by simpa using e
    subst e2
    exact List.mem_singleton.mpr rfl
  | n :: r, [], h => by
    unfold allH
    exact List.mem_append_left _ (allH_mem (List.nil_sublist _))
  | n :: r, q :: d, h => by
    unfold allH
    cases h with
    | cons _ h' => exact List.mem_append_left _ (allH_mem h')
    | cons_cons _ h' =>
      obtain ⟨b, m⟩ := q
      have hd : d ∈ allH r := allH_mem h'
      refine List.mem_append_right _ ?_
      cases b
      · exact List.mem_append_left _ (List.mem_map.mpr ⟨d, hd, rfl⟩)
      · exact List.mem_append_right _ (List.mem_map.mpr ⟨d, hd, rfl⟩)
theorem halves_nd {ns : List Str} (nd : ns.Nodup) : (halves ns).Nodup := (halves_up nd).imp fun h => h.2
theorem halves_few {ns : List Str} (nd : ns.Nodup) (n6 : ns.length ≤ 6) : (halves ns).length ≤ 729 := by
  have z := nodup_le (halves ns) (allH ns) (halves_nd nd) fun c hc => allH_mem ((halves_mem nd).mp hc)
  rw [allH_len] at z
  have y : 3 ^ ns.length ≤ 3 ^ 6 := Nat.pow_le_pow_right (by decide) n6
  have : 3 ^ 6 = 729 := by decide
  omega
theorem primes_few {ns : List Str} (nd : ns.Nodup) (n6 : ns.length ≤ 6) (rs : List (List Str)) : (primes ns rs).length ≤ 729 := Nat.le_trans (List.length_filter_le _ _) (halves_few nd n6)
theorem primes_half {ns : List Str} (nd : ns.Nodup) {rs : List (List Str)} {p : QL} (h : p ∈ primes ns rs) : Half ns p := (halves_mem nd).mp (List.mem_filter.mp h).1
/-! ### _law_same over larger data -/
theorem Small.fitsB {d : PyData} {n : Nat} (h : Small d n) (hn : n ≤ 100000) : d.shown.length ≤ sizeLine := by
  have z := PyData.shown_le_bulk 40 (by decide) d h.ls
  have b := h.bk
  rw [sizeLine_eq]
  omega
def spSameB (K : PySem.W.Frag) : Sp := fun vs H Q _ => ∃ (x y : V) (d : PyData) (n : Nat), vs = [x, y] ∧ Dp K H x d ∧ Dp K H y d ∧ Small d n ∧ n ≤ 100000 ∧ Q (.bl true) H
section
variable {P : Program} {w : World} {K : PySem.W.Frag} {mg : Str → Option Value} {base : Heap} {f : Addr} {fd : FuncData}
theorem ok_sameB (F : Fun K "_law_same" "_law_same" sSame f fd) (mr : mg "repr" = none) : FnG P w K mg base 1 f fd ["_law_found", "_law_due"] (spSameB K) := by
  refine fng_of F scSame (fun vs H Q E h => ?_) (fun cdv A outer s H vs Q E hg hr h => ?_)
  · obtain ⟨x, y, d, n, rfl, _⟩ := h
    rfl
  · obtain ⟨x, y, d, n, rfl, hx, hy, sm, hn, k⟩ := h
    refine ⟨_, pss_one (ps_ret (pe_cmpR op_eq (pe_callB (call_reprP hg hr.units) (by rfl) mr (by decide +kernel) (pa_cons (pv 0) pa_nil)) (pe_callB (call_reprP hg hr.units) (by rfl) mr (by decide +kernel) (pa_cons (pv 1) pa_nil)) (nomark _))), ?_⟩
    have h3 : d.depth ≤ 60 := Nat.le_trans sm.dp (by decide)
    refine ⟨_, rfl, _, d, rfl, hx, sm.sh, sm.fitsB hn, h3, _, rfl, _, d, rfl, hy, sm.sh, sm.fitsB hn, h3, rfl, ?_⟩
    show Q (.bl (decide (V.str d.shown = V.str d.shown))) H
    rw [decide_eq_true rfl]
    exact k
end
theorem lit_len9 {q : Bool × Str} (g : Name1 q.2) : (lit q).length ≤ 9 := by
  obtain ⟨b, n⟩ := q
  have n8 : n.length ≤ 8 := g.2.1
  cases b
  · show n.length ≤ 9
    omega
  · show (neg n).length ≤ 9
    rw [neg_len]
    omega
/-- lists of clauses as data -/
def dataQ (ps : List QL) : PyData := .list ((ps.map ctx).map fun r => PyData.tuple (r.map PyData.str))
theorem small_primes {ns : List Str} (nd : ns.Nodup) (n6 : ns.length ≤ 6) (good : ∀ z ∈ ns, Name1 z) (rs : List (List Str)) : Small (dataQ (primes ns rs)) 50000 := by
  have few := primes_few nd n6 rs
  have z := small_rows (n := 9) (m := 6) ((primes ns rs).map ctx) fun r hr => by
    obtain ⟨p, hp, rfl⟩ := List.mem_map.mp hr
    have h := primes_half nd hp
    have l := h.length_le
    rw [List.length_map] at l
    refine ⟨by rw [List.length_map]; omega, fun z hz => ?_⟩
    obtain ⟨q, hq, rfl⟩ := List.mem_map.mp hz
    have g := good _ (h.subset (List.mem_map_of_mem (f := Prod.snd) hq))
    exact ⟨Fit.lit g.fit, lit_len9 g⟩
  obtain ⟨a1, a2, a3, a4⟩ := small_list z
  refine ⟨a1, Nat.le_trans a2 ?_, a3, Nat.le_trans a4 (by decide)⟩
  rw [List.length_map]
  omega
def dataF : Option (List Str) → PyData
  | none => .none
  | some fs => .list (fs.map PyData.str)
end K6
namespace K6
open PySem PySem.Spec PyProof.Rows L2 LamX NdefX EV
/-! ### the law's body -/
/-- all that the law's own body asks of the text -/
structure LT5 (P : Program) (w : World) (K : PySem.W.Frag) (mg : Str → Option Value) (base : Heap) (C : Addr) : Prop where
  T : RTxt K mg C
  any : mg "any" = none
  range : mg "range" = none
  drawn : Has P w K mg base 5 "_law_drawn_rule" ["_law_stream", "_law_most"] spDrawn
  mixed : Has P w K mg base 2 "_law_mixed" ["_law_stream", "_law_things"] (spMixed K)
  halves : Has P w K mg base 2 "_law_halves" ["_law_names_here"] spHalves
  same : HasG P w K mg base 1 "_law_same" ["_law_found", "_law_due"] (spSameB K)
  shortL : Has P w K mg base 3 "_law_shortest" ["_law_names_here", "_law_settings"] spShortestL
  forcedL : Has P w K mg base 1 "_law_forced" ["_law_settings", "_law_half"] spForcedL
  neg : Has P w K mg base 1 "_law_neg" ["_law_one"] spOpp
  within : Has P w K mg base 1 "_law_within" ["_law_part", "_law_clause"] spWithin
  isDrawn : Has P w K mg base 2 "_law_is_drawn" ["_law_shortest_here", "_law_half", "_law_literal"] spIsDrawn
  make : ∃ fI fdI, Mk K C fI ∧ FnOk P w K mg base CX0 5 fI fdI ["self", "signs", "settings"] (spInit K C) ∧ L2.Binds K fdI ["self", "signs", "settings"] []
  short : ∃ fT fdT, FnOk P w K mg base CX0 4 fT fdT ["self"] (spShortest K C) ∧ Meth K C "shortest" fT ∧ L2.Binds K fdT ["self"] []
  forced : ∃ fT fdT, FnOk P w K mg base CX0 4 fT fdT ["self", "setting"] (spForced K C) ∧ Meth K C "forced" fT ∧ L2.Binds K fdT ["self", "setting"] []
abbrev nLaw : List Str := ["_law_script", "_law_stream", "_law_turn", "_law_signs", "_law_allowed", "_law_rule", "_law_due", "_law_halves_here", "_law_half", "_law_forced_here", "_law_found", "_law_literal", "_law_name", "_law_one", "_law_clause"]
theorem scLaw : FnScope nLaw ["_law_script"] (defScope sLaw) := ⟨rfl, rfl, rfl, by decide +kernel, rfl, by decide +kernel, by decide +kernel⟩
def turn : List Stmt := forBody ((defBody sLaw).getD 1 (.Pass ⟨0, 0, 0, 0⟩))
/-- the rows of one half-filled setting -/
def hbody : List Stmt := forBody (turn.getD 5 (.Pass ⟨0, 0, 0, 0⟩))
structure LSt (K : PySem.W.Frag) (C : Addr) (S L ps pr x r du : Addr) (sg : List Str) (ts us : List Addr) (rs : List (List Str)) (H : Hp) (c : Nat) : Prop where
  str : StreamAt H S L c
  hps : H ps = some (.lst (sg.map V.str))
  hpr : H pr = some (.lst (ts.map V.ref))
  rows : RowsAt H ts rs
  cx : RuleR K C H x sg rs r
  hdu : H du = some (.lst (us.map V.ref))
  rdu : RowsAt H us ((primes sg rs).map ctx)
structure LFx (S L ps pr du : Addr) (sg : List Str) (rs : List (List Str)) : Prop where
  nps : ps ≠ S ∧ ps ≠ L
  npr : pr ≠ S ∧ pr ≠ L
  ndu : du ≠ S ∧ du ≠ L
  D : Draw2 sg rs
theorem lst_kept {H H' : Hp} {S L a : Addr} {xs : List V} (h : H a = some (.lst xs)) (k : Kept S L H H') (n : a ≠ S ∧ a ≠ L) : H' a = some (.lst xs) := k _ _ h n.1 n.2
section
variable {K : PySem.W.Frag} {C : Addr} {H H' : Hp} {S L ps pr x r du : Addr} {sg : List Str} {ts us : List Addr} {rs : List (List Str)} {c : Nat}
theorem LSt.same (o : LSt K C S L ps pr x r du sg ts us rs H c) (sm : Same H H') : LSt K C S L ps pr x r du sg ts us rs H' c := ⟨o.str.same sm, sm _ _ o.hps, sm _ _ o.hpr, o.rows.same sm, o.cx.same sm, sm _ _ o.hdu, o.rdu.same sm⟩
theorem LSt.next {c' : Nat} (o : LSt K C S L ps pr x r du sg ts us rs H c) (fx : LFx S L ps pr du sg rs) (k : Kept S L H H') (hS : StreamAt H' S L c') : LSt K C S L ps pr x r du sg ts us rs H' c' :=
  ⟨hS, lst_kept o.hps k fx.nps, lst_kept o.hpr k fx.npr, o.rows.kept o.str.two k, o.cx.kept o.str.two k, lst_kept o.hdu k fx.ndu, o.rdu.kept o.str.two k⟩
end
/-- the σ of a turn, behind its beginning -/
def Sig (a S ps pr x du hh : Addr) (σ : L2.St) : Prop := ∃ o2 o8 o9 o10 o11 o12 o13 o14, σ = [some (.ref a), some (.ref S), o2, some (.ref ps), some (.ref pr), some (.ref x), some (.ref du), some (.ref hh), o8, o9, o10, o11, o12, o13, o14]
/-- the σ between turns -/
def SigT (a S : Addr) (σ : L2.St) : Prop := ∃ o2 o3 o4 o5 o6 o7 o8 o9 o10 o11 o12 o13 o14, σ = [some (.ref a), some (.ref S), o2, o3, o4, o5, o6, o7, o8, o9, o10, o11, o12, o13, o14]
/-- what is forced, as a value -/
def FV (H : Hp) (v : V) : Option (List Str) → Prop
  | none => v = .non
  | some fs => ∃ p, v = .ref p ∧ H p = some (.lst (fs.map V.str))
theorem FV.same {H H' : Hp} {v : V} {o : Option (List Str)} (h : FV H v o) (sm : Same H H') : FV H' v o := by
  cases o with
  | none => exact h
  | some fs =>
    obtain ⟨p, e, hp⟩ := h
    exact ⟨p, e, sm _ _ hp⟩
theorem FV.isN {H : Hp} {v : V} {o : Option (List Str)} (h : FV H v o) : decide (v = .non) = decide (o = none) := by
  cases o with
  | none =>
    have h : v = .non := h
    rw [h]
    rfl
  | some fs =>
    obtain ⟨p, e, hp⟩ := h
    rw [e]
    rfl
theorem half_lits {sg : List Str} {h : QL} (hh : Half sg h) (good : ∀ z ∈ sg, Name1 z) : ∀ z ∈ h, Name1 z.2 := fun q hq => good _ (hh.subset (List.mem_map_of_mem (f := Prod.snd) hq))
theorem half_len {sg : List Str} {h : QL} (hh : Half sg h) : h.length ≤ sg.length := by
  have z := hh.length_le
  rwa [List.length_map] at z
theorem opp_good {h : QL} (g : ∀ z ∈ h, Name1 z.2) : ∀ z ∈ h.map opp, Name1 z.2 := fun z hz => by
  obtain ⟨y, hy, rfl⟩ := List.mem_map.mp hz
  exact g y hy
theorem draw_full {sg : List Str} {rs : List (List Str)} (D : Draw2 sg rs) : ∀ r ∈ rs, FullR sg r := fun r hr => full_r D.nd D.good (D.full r hr)
section
variable {P : Program} {w : World} {K : PySem.W.Frag} {mg : Str → Option Value} {base : Heap} {C : Addr}
variable {f : Addr} {cdv : Value} {A : Around} {outer : List Env} {s0 : Shared} {HH : Hp} {E : XK}
abbrev XL (P : Program) (w : World) (K : PySem.W.Frag) (mg : Str → Option Value) (base : Heap) (f : Addr) (cdv : Value) (A : Around) (outer : List Env) (s0 : Shared) (HH : Hp) (E : XK) : Cx := (cxOf CX0 P w K mg base nLaw "law" (defScope sLaw) f cdv A outer s0 HH E).nox
abbrev scHN : Scope := { kind := .function, names := [(".0", .local), ("_law_clause", .local), ("_law_within", .globalImplicit), ("_law_half", .free)], isGenerator := false, isCoroutine := false }
/-- None, or no shortest consequence within the opposites -/
theorem hseg4 (T : LT5 P w K mg base C) (hr : Room 9 (XL P w K mg base f cdv A outer s0 HH E).A) :
    ∃ tt, PSs (XL P w K mg base f cdv A outer s0 HH E) (hbody.drop 4) tt ∧ ∀ (D : Ends) (a S L ps pr x r du hh t : Addr) (sg : List Str) (ts us : List Addr) (rs : List (List Str)) (h : QL) (v9 : V) (o2 o10 o11 o12 o13 o14 : Option V) (H : Hp) (c : Nat),
      LFx S L ps pr du sg rs → LSt K C S L ps pr x r du sg ts us rs H c → H t = some (.tup ((h.map lit).map V.str)) → Half sg h → FV H v9 (forcedOf rs h) →
      (∀ σ' H', Sig a S ps pr x du hh σ' → Same H H' → D.nx σ' H') → tt D [some (.ref a), some (.ref S), o2, some (.ref ps), some (.ref pr), some (.ref x), some (.ref du), some (.ref hh), some (.ref t), some v9, o10, o11, o12, o13, o14] H := by
  have hr1 : Room 1 _ := hr.mono (by decide)
  refine ⟨_, pss_one (ps_if (pt_cmpR op_ne (pe_cmpR op_isN (pv 9) pe_non rfl) (pe_callB (cr_any rfl) (by rfl) T.any (by decide +kernel) (pa_cons (pe_lc (own := [("_law_clause", 14)]) (g := gName 14) (tt := tYes) rfl scLaw.nd (pi_list (pv 6)) (blkOk_by (N := nLaw) (sc := defScope sLaw) (by decide +kernel))
      (fun _ _ _ _ _ => pg_name (i := 14) scLaw.nd rfl (.inl rfl)) (fun _ _ _ _ _ => pts_nil)
      (fun _ _ _ _ _ => pe_callH T.within hr1 (by rfl) (pa_cons (pv 14) (pa_cons (show PE _ _ (tLc (iSeq K _) _ _ _ _) from pe_lc (own := [("_law_one", 13)]) (g := gName 13) (tt := tYes) rfl scLaw.nd (pi_seq (pv 8)) (blk_in (sc := scHN) (blkOk_by (N := nLaw) (sc := scHN) (by decide +kernel)))
          (fun _ _ _ _ _ => pg_name (i := 13) scLaw.nd rfl (.inl rfl)) (fun _ _ _ _ _ => pts_nil) (fun _ _ _ _ _ => pe_callH T.neg hr1 (by rfl) (pa_cons (pv 13) pa_nil))) pa_nil)))) pa_nil)) (nomark _)) (pss_one ps_none) pss_nil), ?_⟩
  intro D a S L ps pr x r du hh t sg ts us rs h v9 o2 o10 o11 o12 o13 o14 H c fx st ht hf fv k
  have Dr := fx.D
  have l6 := Dr.n6
  have gh := half_lits hf Dr.good
  have hl := half_len hf
  have lus := rows_map_len st.rdu
  have pf := primes_few Dr.nd l6 rs
  refine ⟨_, rfl, rfl, _, rfl, du, rfl, ⟨_, SqL.of st.hdu⟩, fun Lb hLb => lc_it (walk_list (xs := us.map V.ref)) (fun i H2 => Same H H2 ∧ H2 Lb = some (.lst ((((primes sg rs).take i).map fun p => inB p (h.map opp)).map V.bl))) ⟨same_new hLb, upd_same⟩ (fun i H2 _ hh => SqL.of (hh.1 _ _ st.hdu)) ?_ ?_⟩
  · rintro i v H2 H3 hi ⟨sm, hL2⟩ ⟨rfl, hv⟩
    obtain ⟨q, hq, rfl⟩ := get_map hv
    obtain ⟨row, hrow, hrt⟩ := RowsAt.get st.rdu i q hq
    rw [List.getElem?_map] at hrow
    obtain ⟨p, hp, rfl⟩ := Option.map_eq_some_iff.mp hrow
    have hpH := primes_half Dr.nd (List.mem_of_getElem? hp)
    have hrt : H q = some (.tup ((p.map lit).map V.str)) := hrt
    have er : (primes sg rs).take (i + 1) = (primes sg rs).take i ++ [p] := by rw [List.take_succ, hp]; rfl
    have lt2 := List.length_take_le' i (primes sg rs)
    have ht2 := sm _ _ ht
    refine ⟨rfl, _, rfl, _, rfl, false, t, _, rfl, Sq.tup ht2, fun Lo hLo => lc_it walk_sq (fun j H4 => Same _ H4 ∧ H4 Lo = some (.lst ((((h.take j).map opp).map lit).map V.str))) ⟨same_new hLo, upd_same⟩ (fun j H4 _ hh => Sq.tup (hh.1 _ _ ht2)) ?_ ?_⟩
    · rintro j v2 H4 H5 hj ⟨sm4, hL4⟩ ⟨rfl, hv2⟩
      obtain ⟨l0, hl0, rfl⟩ := get_map hv2
      obtain ⟨l, hl1, rfl⟩ := get_map hl0
      have er2 : h.take (j + 1) = h.take j ++ [l] := by rw [List.take_succ, hl1]; rfl
      have lt3 := List.length_take_le' j h
      refine ⟨rfl, _, rfl, l, rfl, gh l (List.mem_of_getElem? hl1), ?_⟩
      refine ⟨_, hL4, by rw [List.length_map, List.length_map, List.length_map, sizeLine_eq]; omega, fun c o e => (upd_ne (ne_of_none e hLo)).trans (sm4 c o e), ?_⟩
      rw [upd_same, er2, List.map_append, List.map_append, List.map_append]
      rfl
    · rintro H4 ⟨sm4, hL4⟩
      rw [List.length_map, List.length_map, List.take_length] at hL4
      have hpl := half_len hpH
      refine ⟨q, Lo, true, p, h.map opp, rfl, sm4 _ _ (sm _ _ hrt), hL4, by omega, half_lits hpH Dr.good, opp_good gh, fun H5 sm5 => ?_⟩
      refine ⟨_, sm5 _ _ (sm4 _ _ hL2), by rw [List.length_map, List.length_map, sizeLine_eq]; omega, fun c o e => (upd_ne (ne_of_none e hLb)).trans (sm5 _ _ (sm4 _ _ (sm c o e))), ?_⟩
      rw [upd_same, er, List.map_append, List.map_append]
      rfl
  · rintro H2 ⟨sm, hL2⟩
    rw [List.length_map, lus, List.take_length] at hL2
    have e2 : ((primes sg rs).map fun p => inB p (h.map opp)).any id = primeIn sg rs (h.map opp) := by
      unfold primeIn
      rw [List.any_map]
      rfl
    have e3 : decide (v9 = V.non) = primeIn sg rs (h.map opp) := by
      rw [fv.isN]
      cases eP : primeIn sg rs (h.map opp) with
      | true => exact decide_eq_true ((none_iff Dr.nd (draw_full Dr) hf).mpr eP)
      | false => exact decide_eq_false fun e => by rw [(none_iff Dr.nd (draw_full Dr) hf).mp e] at eP; cases eP
    refine ⟨Lb, _, rfl, SqL.of hL2, rfl, _, rfl, ?_⟩
    rw [e2, e3, show (!decide (V.bl (primeIn sg rs (h.map opp)) = V.bl (primeIn sg rs (h.map opp)))) = false from by rw [decide_eq_true rfl]; rfl]
    exact iteF (k _ H2 ⟨_, _, _, _, _, _, _, _, rfl⟩ sm)
end
end K6
namespace K6
open PySem PySem.Spec PyProof.Rows L2 LamX NdefX EV
theorem forcedOf_perm {rs : List (List Str)} {h h' : QL} (p : h'.Perm h) : forcedOf rs h' = forcedOf rs h := by
  have e1 : fits rs h' = fits rs h := by
    unfold fits
    refine List.filter_congr fun r _ => Bool.eq_iff_iff.mpr ?_
    rw [fitB_iff, fitB_iff]
    exact ⟨fun f q hq => f q (p.mem_iff.mpr hq), fun f q hq => f q (p.mem_iff.mp hq)⟩
  have e2 : ∀ l : Str, decide (l ∈ h'.map lit) = decide (l ∈ h.map lit) := fun l => decide_eq_decide.mpr (p.map lit).mem_iff
  unfold forcedOf
  rw [e1]
  cases fits rs h with
  | nil => rfl
  | cons r0 rest => simp only [e2]
theorem forcedQ_of {H : Hp} {Q : VK} {S L : Addr} {c : Nat} (hS : StreamAt H S L c) : ∀ {o : Option (List Str)}, (∀ v H', Same H H' → FV H' v o → (∀ p, v = .ref p → p ≠ S ∧ p ≠ L) → Q v H') → forcedQ H Q o
  | none, k => fun H' sm => k .non H' sm rfl fun p e => nomatch e
  | some fs, k => fun p H' sm hp hp' => k (.ref p) H' sm ⟨p, rfl, hp'⟩ fun q e => by
    injection e with e
    exact e ▸ hS.off hp
theorem FV.kept {H H' : Hp} {S L : Addr} {v : V} {o : Option (List Str)} (h : FV H v o) (n : ∀ p, v = .ref p → p ≠ S ∧ p ≠ L) (k : Kept S L H H') : FV H' v o := by
  cases o with
  | none => exact h
  | some fs =>
    obtain ⟨p, e, hp⟩ := h
    exact ⟨p, e, lst_kept hp k (n p e)⟩
theorem FV.dp {K : PySem.W.Frag} {H : Hp} {v : V} {o : Option (List Str)} (h : FV H v o) : Dp K H v (dataF o) := by
  cases o with
  | none =>
    have h : v = .non := h
    rw [h]
    exact .non
  | some fs =>
    obtain ⟨p, rfl, hp⟩ := h
    exact .lst (SqL.of hp) (dp_strs _)
theorem full_txt {sg : List Str} {rs : List (List Str)} (D : Draw2 sg rs) : ∀ r ∈ rs, r.length ≤ 6 ∧ ∀ z ∈ r, Fit z ∧ z.length ≤ 9 := fun r hr => by
  obtain ⟨qs, hq, lq, rfl⟩ := D.full r hr
  have l6 := D.n6
  refine ⟨by rw [List.length_map]; omega, fun z hz => ?_⟩
  obtain ⟨q, hq', rfl⟩ := List.mem_map.mp hz
  have g := D.good _ (hq.sub q hq')
  exact ⟨Fit.lit g.fit, lit_len9 g⟩
theorem small_forced {sg : List Str} {rs : List (List Str)} (D : Draw2 sg rs) (h : QL) : Small (dataF (forcedOf rs h)) 1000 := by
  unfold forcedOf
  cases ef : fits rs h with
  | nil => exact ⟨rfl, Nat.zero_le _, rfl, Nat.zero_le _⟩
  | cons r0 rest =>
    have hr : r0 ∈ rs := (List.mem_filter.mp (show r0 ∈ fits rs h by rw [ef]; exact List.mem_cons_self)).1
    obtain ⟨l6, tx⟩ := full_txt D r0 hr
    have z := small_strs (n := 9) (r0.filter fun l => !decide (l ∈ h.map lit) && (r0 :: rest).all fun r => decide (l ∈ r)) fun z hz => tx z (List.mem_filter.mp hz).1
    obtain ⟨a1, a2, a3, a4⟩ := small_list z
    have lf := List.length_filter_le (fun l => !decide (l ∈ h.map lit) && (r0 :: rest).all fun r => decide (l ∈ r)) r0
    exact ⟨a1, Nat.le_trans a2 (by omega), a3, Nat.le_trans a4 (by decide)⟩
section
variable {P : Program} {w : World} {K : PySem.W.Frag} {mg : Str → Option Value} {base : Heap} {C : Addr}
variable {f : Addr} {cdv : Value} {A : Around} {outer : List Env} {s0 : Shared} {HH : Hp} {E : XK}
/-- each further literal: forced, or no shortest consequence -/
theorem hseg3 (T : LT5 P w K mg base C) (hr : Room 9 (XL P w K mg base f cdv A outer s0 HH E).A) :
    ∃ tt, PSs (XL P w K mg base f cdv A outer s0 HH E) (hbody.drop 3) tt ∧ ∀ (D : Ends) (a S L ps pr x r du hh t : Addr) (sg : List Str) (ts us : List Addr) (rs : List (List Str)) (h : QL) (v9 : V) (o2 o10 o11 o12 o13 o14 : Option V) (H : Hp) (c : Nat),
      LFx S L ps pr du sg rs → LSt K C S L ps pr x r du sg ts us rs H c → H t = some (.tup ((h.map lit).map V.str)) → Half sg h → FV H v9 (forcedOf rs h) →
      (∀ σ' H', Sig a S ps pr x du hh σ' → Same H H' → D.nx σ' H') → tt D [some (.ref a), some (.ref S), o2, some (.ref ps), some (.ref pr), some (.ref x), some (.ref du), some (.ref hh), some (.ref t), some v9, o10, o11, o12, o13, o14] H := by
  have hr1 : Room 1 _ := hr.mono (by decide)
  have hr2 : Room 2 _ := hr.mono (by decide)
  obtain ⟨tt4, p4, k4⟩ := hseg4 (f := f) (cdv := cdv) (A := A) (outer := outer) (s0 := s0) (HH := HH) (E := E) T hr
  refine ⟨_, pss_cons (ps_for PassesOwn.never rfl (pi_list (pe_op op_cat (pv 3) (pe_lc (own := [("_law_name", 12)]) (g := gName 12) (tt := tYes) rfl scLaw.nd (pi_list (pv 3)) (blkOk_by (N := nLaw) (sc := defScope sLaw) (by decide +kernel))
        (fun _ _ _ _ _ => pg_name (i := 12) scLaw.nd rfl (.inl rfl)) (fun _ _ _ _ _ => pts_nil) (fun _ _ _ _ _ => pe_op op_add_str pe_str (pv 12))))) (pg_name (i := 11) scLaw.nd rfl (.inl rfl))
      (pss_one (ps_if (PW.pt (pw_and (pt_cmpR op_notN (pv 9) pe_non rfl) (pw_and (pt_cmpR op_notIn_seq (pv 11) (pv 8) rfl) (pw_and1 (pt_cmpR op_notIn_seq (pe_callH T.neg hr1 (by rfl) (pa_cons (pv 11) pa_nil)) (pv 8) rfl)))))
        (pss_one (ps_if (pt_cmpR op_ne (pe_callH T.isDrawn hr2 (by rfl) (pa_cons (pv 6) (pa_cons (pv 8) (pa_cons (pv 11) pa_nil)))) (pe_cmpR op_in_seq (pv 11) (pv 9) rfl) (nomark _)) (pss_one ps_none) pss_nil)) pss_nil))) p4, ?_⟩
  intro D a S L ps pr x r du hh t sg ts us rs h v9 o2 o10 o11 o12 o13 o14 H c fx st ht hf fv k
  have Dr := fx.D
  have l6 := Dr.n6
  have gh := half_lits hf Dr.good
  have hl := half_len hf
  have lus := rows_map_len st.rdu
  have pf := primes_few Dr.nd l6 rs
  refine ⟨_, rfl, _, rfl, ps, rfl, ⟨_, SqL.of st.hps⟩, fun L1 hL1 => lc_it (walk_list (xs := sg.map V.str)) (fun i H2 => Same H H2 ∧ H2 L1 = some (.lst (((sg.take i).map neg).map V.str))) ⟨same_new hL1, upd_same⟩ (fun i H2 _ hh => SqL.of (hh.1 _ _ st.hps)) ?_ ?_⟩
  · rintro i v H2 H3 hi ⟨sm, hL2⟩ ⟨rfl, hv⟩
    obtain ⟨n, hn, rfl⟩ := get_map hv
    have n8 : n.length ≤ 8 := (Dr.good n (List.mem_of_getElem? hn)).2.1
    have er : sg.take (i + 1) = sg.take i ++ [n] := by rw [List.take_succ, hn]; rfl
    have lt2 := List.length_take_le' i sg
    refine ⟨rfl, _, rfl, _, _, rfl, rfl, by show 1 + n.length ≤ sizeLine; rw [sizeLine_eq]; omega, _, hL2, by rw [List.length_map, List.length_map, sizeLine_eq]; omega, fun c o e => (upd_ne (ne_of_none e hL1)).trans (sm c o e), ?_⟩
    rw [upd_same, er, List.map_append, List.map_append]
    rfl
  rintro H2 ⟨sm2, hL2⟩
  rw [List.length_map, List.take_length] at hL2
  refine ⟨ps, L1, _, _, rfl, rfl, sm2 _ _ st.hps, hL2, by rw [List.length_map, List.length_map, List.length_map, sizeLine_eq]; omega, fun Lc hLc => ?_⟩
  have sm3 : Same H _ := sm2.trans (same_new (o := .lst (sg.map V.str ++ (sg.map neg).map V.str)) hLc)
  have hLc3 := upd_same (H := H2) (a := Lc) (o := .lst (sg.map V.str ++ (sg.map neg).map V.str))
  rw [← List.map_append] at sm3 hLc3 ⊢
  generalize upd H2 Lc (.lst ((sg ++ sg.map neg).map V.str)) = H3 at sm3 hLc3 ⊢
  refine ⟨Lc, rfl, ⟨_, SqL.of hLc3⟩, for_list (K := K) (a := Lc) (xs := (sg ++ sg.map neg).map V.str) (fun i σ H4 => ∃ o11 o12 o13 o14, σ = [some (.ref a), some (.ref S), o2, some (.ref ps), some (.ref pr), some (.ref x), some (.ref du), some (.ref hh), some (.ref t), some v9, o10, o11, o12, o13, o14] ∧ Same H3 H4) ⟨_, _, _, _, rfl, Same.refl _⟩ (fun i σ H4 _ ⟨_, _, _, _, _, sm⟩ => SqL.of (sm _ _ hLc3)) ?_ ?_⟩
  · rintro i v σ H4 hv ⟨o11, o12, o13, o14, rfl, sm4⟩
    obtain ⟨z, hz, rfl⟩ := get_map hv
    have s04 := sm3.trans sm4
    have ht4 := s04 _ _ ht
    obtain ⟨q, hq, rfl⟩ : ∃ q : Bool × Str, q.2 ∈ sg ∧ z = lit q := by
      rcases List.mem_append.mp (List.mem_of_getElem? hz) with m | m
      · exact ⟨(false, z), m, rfl⟩
      · obtain ⟨n, hn, rfl⟩ := List.mem_map.mp m
        exact ⟨(true, n), hn, rfl⟩
    have gq := Dr.good _ hq
    have fv4 := fv.same s04
    have st4 := st.same s04
    refine ⟨_, rfl, rfl, _, rfl, ?_⟩
    cases ef : forcedOf rs h with
    | none =>
      rw [ef] at fv4
      have fv4 : v9 = .non := fv4
      rw [fv4]
      exact iteF (iteF ⟨_, _, _, _, rfl, sm4⟩)
    | some fs =>
      rw [ef] at fv4
      obtain ⟨p, rfl, hp⟩ := fv4
      rw [show (!decide (V.ref p = V.non)) = true from by rw [decide_eq_false (fun e => nomatch e)]; rfl]
      refine iteT ⟨_, rfl, _, rfl, t, _, rfl, .inr (SqT.of ht4), rfl, flat_str _, _, rfl, ?_⟩
      rw [if_pos rfl, inV_str]
      by_cases m1 : q ∈ h
      · rw [decide_eq_true ((lit_in gq gh).mpr m1)]
        exact iteF (iteF ⟨_, _, _, _, rfl, sm4⟩)
      rw [decide_eq_false fun y => m1 ((lit_in gq gh).mp y)]
      refine iteT ⟨_, rfl, q, rfl, gq, _, rfl, t, _, rfl, .inr (SqT.of ht4), rfl, flat_str _, _, rfl, ?_⟩
      rw [if_pos rfl, inV_str]
      by_cases m2 : opp q ∈ h
      · rw [decide_eq_true ((lit_in (q := opp q) gq gh).mpr m2)]
        exact iteF ⟨_, _, _, _, rfl, sm4⟩
      rw [decide_eq_false fun y => m2 ((lit_in (q := opp q) gq gh).mp y)]
      refine iteT ⟨_, rfl, _, rfl, _, rfl, du, t, false, us, primes sg rs, h, q, rfl, st4.hdu, st4.rdu, ht4, by omega, gh, gq, (fun p hp => ?_), by omega, fun H5 sm5 => ?_⟩
      · have y := primes_half Dr.nd hp
        have yl := half_len y
        exact ⟨by omega, half_lits y Dr.good⟩
      refine ⟨_, rfl, _, rfl, p, _, rfl, .inl (SqL.of (sm5 _ _ hp)), rfl, flat_str _, rfl, _, rfl, ?_⟩
      rw [if_neg (by decide), inV_str]
      have fi := forced_iff Dr.nd Dr.good (draw_full Dr) hf hq m1 m2 ef
      have e3 : ((primes sg rs).any fun p => inB p (h.map opp ++ [q])) = decide (lit q ∈ fs) := by
        show primeIn sg rs (h.map opp ++ [q]) = _
        cases eP : primeIn sg rs (h.map opp ++ [q]) with
        | true => exact (decide_eq_true (fi.mpr eP)).symm
        | false => exact (decide_eq_false fun y => by rw [fi.mp y] at eP; cases eP).symm
      rw [e3, show (!decide (V.bl (decide (lit q ∈ fs)) = V.bl (decide (lit q ∈ fs)))) = false from by rw [decide_eq_true rfl]; rfl]
      exact iteF ⟨_, _, _, _, rfl, sm4.trans sm5⟩
  · rintro σ H4 ⟨o11, o12, o13, o14, rfl, sm4⟩
    have s04 := sm3.trans sm4
    exact k4 D a S L ps pr x r du hh t sg ts us rs h v9 _ _ _ _ _ _ H4 c fx (st.same s04) (s04 _ _ ht) hf (fv.same s04) fun σ' H' hσ sm => k σ' H' hσ (s04.trans sm)
theorem hseg0 (T : LT5 P w K mg base C) (gd : (XL P w K mg base f cdv A outer s0 HH E).A.guards = some []) (hr : Room 9 (XL P w K mg base f cdv A outer s0 HH E).A) :
    ∃ tt, PSs (XL P w K mg base f cdv A outer s0 HH E) hbody tt ∧ ∀ (D : Ends) (a S L ps pr x r du hh t : Addr) (sg : List Str) (ts us : List Addr) (rs : List (List Str)) (h : QL) (o2 o9 o10 o11 o12 o13 o14 : Option V) (H : Hp) (c : Nat),
      LFx S L ps pr du sg rs → LSt K C S L ps pr x r du sg ts us rs H c → H t = some (.tup ((h.map lit).map V.str)) → Half sg h → c ≤ 60000 →
      (∀ σ' H', Sig a S ps pr x du hh σ' → LSt K C S L ps pr x r du sg ts us rs H' (c + h.length) → Kept S L H H' → D.nx σ' H') → tt D [some (.ref a), some (.ref S), o2, some (.ref ps), some (.ref pr), some (.ref x), some (.ref du), some (.ref hh), some (.ref t), o9, o10, o11, o12, o13, o14] H := by
  have hr1 : Room 1 _ := hr.mono (by decide)
  have hr2 : Room 2 _ := hr.mono (by decide)
  have hr4 : Room 4 _ := hr.mono (by decide)
  obtain ⟨fT, fdT, FT, mT, bT⟩ := T.forced
  obtain ⟨tt3, p3, k3⟩ := hseg3 (f := f) (cdv := cdv) (A := A) (outer := outer) (s0 := s0) (HH := HH) (E := E) T hr
  refine ⟨_, pss_cons (ps_set (i := 9) scLaw.nd rfl (.inl rfl) (pe_callH T.forcedL hr1 (by rfl) (pa_cons (pv 4) (pa_cons (pv 8) pa_nil))))
      (pss_cons (ps_set (i := 10) scLaw.nd rfl (.inl rfl) (pe_meth (pv 5) T.T.cl mT FT hr4 bT .nil pass0 (pa_cons (pe_callH T.mixed hr2 (by rfl) (pa_cons (pv 1) (pa_cons (pv 8) pa_nil))) pa_nil)))
      (pss_cons (ps_if (PW.pt (pw_or (pt_not (pt_val (pe_callHG T.same gd hr1 (by rfl) (pa_cons (pv 10) (pa_cons (pv 9) pa_nil))))) (pw_or1 (pt_not (pt_val (pe_callHG T.same gd hr1 (by rfl) (pa_cons (pe_meth (pv 5) T.T.cl mT FT hr4 bT .nil pass0 (pa_cons (pv 8) pa_nil)) (pa_cons (pv 9) pa_nil)))))))) (pss_one ps_none) pss_nil) p3)), ?_⟩
  intro D a S L ps pr x r du hh t sg ts us rs h o2 o9 o10 o11 o12 o13 o14 H c fx st ht hf hc k
  have Dr := fx.D
  have l6 := Dr.n6
  have gh := half_lits hf Dr.good
  have hl := half_len hf
  have few := Dr.few
  have hq := hf.lits Dr.nd
  have short : ∀ q ∈ rs, q.length ≤ 60 := fun q hq => by
    have := (full_txt Dr q hq).1
    omega
  have ll : ((h.map lit).map V.str).length = h.length := by rw [List.length_map, List.length_map]
  obtain ⟨⟨_, g1⟩, ⟨_, g2⟩⟩ := st.str.two
  have offt : t ≠ S ∧ t ≠ L := ⟨ne_of ht g1 (fun z => nomatch z), ne_of ht g2 (fun z => nomatch z)⟩
  refine ⟨_, rfl, _, rfl, pr, t, false, ts, rs, h, rfl, st.hpr, st.rows, few, short, (fun q hq z hz => ((full_txt Dr q hq).2 z hz).1), ht, by omega, forcedQ_of st.str fun v9 H1 sm1 fv1 off9 => ?_⟩
  have st1 := st.same sm1
  have ht1 := sm1 _ _ ht
  obtain ⟨dx1, _, _, hx1, _⟩ := st1.cx.at_
  refine ⟨_, rfl, x, dx1, _, rfl, hx1, fl_no (by decide +kernel), _, rfl, _, rfl, S, L, t, false, _, c, rfl, Sq.tup ht1, by rw [ll]; omega, by rw [ll]; omega, st1.str, fun ys p H2 pm hp0 hp2 hS2 hk2 => ?_⟩
  obtain ⟨ms, rfl, pm2⟩ := unmap_str ys (h.map lit) pm
  obtain ⟨h', ph, rfl⟩ := perm_unmap pm2 h rfl
  rw [ll] at hS2
  have st2 := st1.next fx hk2 hS2
  have ht2 : H2 t = some (.tup ((h.map lit).map V.str)) := hk2 _ _ ht1 offt.1 offt.2
  have fv2 := fv1.kept off9 hk2
  have hk02 : Kept S L H H2 := (show Kept S L H H1 from fun b o e _ _ => sm1 b o e).trans hk2
  refine ⟨x, r, p, true, sg, rs, h', rfl, st2.cx, l6, Dr.nd, Dr.good, few, short, hp2, hq.perm ph, forcedQ_of st2.str fun v10 H3 sm3 fv3 _ => ?_⟩
  rw [forcedOf_perm ph] at fv3
  have fv23 := fv2.same sm3
  have sf := small_forced Dr h
  have st3 := st2.same sm3
  have ht3 := sm3 _ _ ht2
  obtain ⟨dx3, _, _, hx3, _⟩ := st3.cx.at_
  refine ⟨_, rfl, _, rfl, v10, v9, _, 1000, rfl, fv3.dp, fv23.dp, sf, by decide, _, rfl, iteF ?_⟩
  refine ⟨_, rfl, x, dx3, _, rfl, hx3, fl_no (by decide +kernel), _, rfl, x, r, t, false, sg, rs, h, rfl, st3.cx, l6, Dr.nd, Dr.good, few, short, ht3, hq, forcedQ_of st3.str fun v11 H4 sm4 fv4 _ => ?_⟩
  have fv24 := fv23.same sm4
  have st4 := st3.same sm4
  refine ⟨_, rfl, v11, v9, _, 1000, rfl, fv4.dp, fv24.dp, sf, by decide, _, rfl, iteF ?_⟩
  exact k3 D a S L ps pr x r du hh t sg ts us rs h v9 _ _ _ _ _ _ H4 _ fx st4 (sm4 _ _ ht3) hf fv24 fun σ' H' hσ sm => k σ' H' hσ (st4.same sm) (hk02.trans fun b o e _ _ => sm b o (sm4 b o (sm3 b o e)))
end
end K6
namespace K6
open PySem PySem.Spec PyProof.Rows L2 LamX NdefX EV
/-! ### the law -/
def spLaw0 (K : PySem.W.Frag) : Sp := fun vs H Q _ => ∃ (a : Addr) (ns : List Int), vs = [.ref a] ∧ SqL K H a (ns.map V.int) ∧ ns.length ≤ 63 ∧ ∀ H', Q (.bl true) H'
theorem walk0 {l : PySem.W.OpenLaw} {q : Program} {loose : List Str} {XP : (Str → Option Value) → Heap → Prop} {YP : World → Heap → Prop} {d : DefRec} {K : Params → PySem.W.Frag} (hn : l.most = some 63) (hdf : d.params.defaults = [])
    (hY : ∀ (w : World) (h : Heap), YP w h → (K w.params).In h)
    (F : ∀ (w : World) (mg : Str → Option Value) (fa : Addr) (h base : Heap), (K w.params).In h → h.Ns mainGlobals mg → mg d.name = some (.ref fa) →
      ∃ fd, (∀ (s : Shared) (u : Value), BindsTo s fd ⟨[u], []⟩ [("_law_script", u)]) ∧ FnG l.prog w (K w.params) mg base 10 fa fd ["_law_script"] (spLaw0 (K w.params))) :
    PySem.W.WalkO q loose XP YP l.row.toRowW d [] (fun f vs => PySem.call f vs) := by
  refine Att.attach_callB hn hdf fun w s₀ s₁ mg mb fa o pm cd doc a vs ns G Y ho hd hcd hmg hobj hints hlen hbits hg => ?_
  have KX := hY w _ Y
  refine law_callG (cs := []) KX G.T.g G.T.b G.T.builtins G.T.nolimit hg (fun p hp => nomatch hp) (fun p hp => nomatch hp) (fun p hp => nomatch hp) G.T.bmain hobj hints (Nat.le_trans hlen (by decide)) fun base H kb gb tb hH hS e0 => ?_
  obtain ⟨fd, hb, hF⟩ := F w mg fa _ base KX G.T.g hmg
  exact hF.run callerA [] s₁ H ⟨[.ref a], []⟩ [.ref a] [.ref a] _ E0 rfl ⟨rfl, by decide, by decide⟩ e0 (hb s₁ (.ref a)) (.cons rfl .nil) ⟨a, ns, rfl, hS, hlen, fun _ => rfl⟩
section
variable {P : Program} {w : World} {K : PySem.W.Frag} {mg : Str → Option Value} {base : Heap} {C : Addr}
variable {f : Addr} {cdv : Value} {A : Around} {outer : List Env} {s0 : Shared} {HH : Hp} {E : XK}
theorem primes_dp {K : PySem.W.Frag} {H : Hp} {p : Addr} {us : List Addr} {ps : List QL} (hp : H p = some (.lst (us.map V.ref))) (rows : RowsAt H us (ps.map ctx)) : Dp K H (.ref p) (dataQ ps) := .lst (SqL.of hp) rows.lift
theorem ref_perm {ys : List V} {hs : List Addr} (p : ys.Perm (hs.map V.ref)) : ∃ hs' : List Addr, hs'.Perm hs ∧ ys = hs'.map V.ref := perm_unmap p hs rfl
/-- the last row of a turn -/
theorem tseg6 (T : LT5 P w K mg base C) (gd : (XL P w K mg base f cdv A outer s0 HH E).A.guards = some []) (hr : Room 9 (XL P w K mg base f cdv A outer s0 HH E).A) :
    ∃ tt, PSs (XL P w K mg base f cdv A outer s0 HH E) (turn.drop 6) tt ∧ ∀ (D : Ends) (a S L ps pr x r du hh : Addr) (sg : List Str) (ts us : List Addr) (rs : List (List Str)) (σ : L2.St) (H : Hp) (c : Nat),
      Sig a S ps pr x du hh σ → LFx S L ps pr du sg rs → LSt K C S L ps pr x r du sg ts us rs H c →
      (∀ σ' H', SigT a S σ' → StreamAt H' S L c → D.nx σ' H') → tt D σ H := by
  have hr1 : Room 1 _ := hr.mono (by decide)
  have hr4 : Room 4 _ := hr.mono (by decide)
  obtain ⟨fT, fdT, FT, mT, bT⟩ := T.short
  refine ⟨_, pss_one (ps_if (pt_not (pt_val (pe_callHG T.same gd hr1 (by rfl) (pa_cons (pe_meth0 (pv 5) T.T.cl mT FT hr4 bT .nil pass0) (pa_cons (pv 6) pa_nil))))) (pss_one ps_none) pss_nil), ?_⟩
  rintro D a S L ps pr x r du hh sg ts us rs σ H c ⟨o2, o8, o9, o10, o11, o12, o13, o14, rfl⟩ fx st k
  have Dr := fx.D
  obtain ⟨dx, _, _, hx, _⟩ := st.cx.at_
  refine ⟨_, rfl, x, dx, _, rfl, hx, fl_no (by decide +kernel), x, r, sg, rs, rfl, st.cx, Dr.n6, Dr.nd, Dr.good, Dr.few, fun p1 us1 H1 sm1 _ hp1 rows1 => ?_⟩
  have st1 := st.same sm1
  exact ⟨_, rfl, _, _, _, 50000, rfl, primes_dp hp1 rows1, primes_dp st1.hdu st1.rdu, small_primes Dr.nd Dr.n6 Dr.good rs, by decide, _, rfl, iteF (k _ H1 ⟨_, _, _, _, _, _, _, _, _, _, _, _, _, rfl⟩ st1.str)⟩
/-- the half-filled settings -/
theorem tseg5 (T : LT5 P w K mg base C) (gd : (XL P w K mg base f cdv A outer s0 HH E).A.guards = some []) (hr : Room 9 (XL P w K mg base f cdv A outer s0 HH E).A) :
    ∃ tt, PSs (XL P w K mg base f cdv A outer s0 HH E) (turn.drop 5) tt ∧ ∀ (D : Ends) (a S L ps pr x r du hh : Addr) (sg : List Str) (ts us hs : List Addr) (rs : List (List Str)) (σ : L2.St) (H : Hp) (c : Nat),
      Sig a S ps pr x du hh σ → LFx S L ps pr du sg rs → LSt K C S L ps pr x r du sg ts us rs H c → H hh = some (.lst (hs.map V.ref)) → (hh ≠ S ∧ hh ≠ L) → RowsAt H hs ((halves sg).map ctx) → c ≤ 40000 →
      (∀ σ' H' c', SigT a S σ' → StreamAt H' S L c' → c' ≤ c + 5103 → D.nx σ' H') → tt D σ H := by
  have hr2 : Room 2 _ := hr.mono (by decide)
  obtain ⟨tt0, p0, k0⟩ := hseg0 (f := f) (cdv := cdv) (A := A) (outer := outer) (s0 := s0) (HH := HH) (E := E) T gd hr
  obtain ⟨tt6, p6, k6⟩ := tseg6 (f := f) (cdv := cdv) (A := A) (outer := outer) (s0 := s0) (HH := HH) (E := E) T gd hr
  refine ⟨_, pss_cons (ps_for PassesOwn.never rfl (pi_list (pe_ifExp (pt_cmpR op_lt (pe_callB call_len (by rfl) T.T.len PySem.boot_len (pa_cons (pv 3) pa_nil)) pe_int (nomark _)) (pv 7) (pe_slice sl_list (pe_callH T.mixed hr2 (by rfl) (pa_cons (pv 1) (pa_cons (pv 7) pa_nil))) po_none (po_some pe_int)))) (pg_name (i := 8) scLaw.nd rfl (.inr rfl)) p0) p6, ?_⟩
  rintro D a S L ps pr x r du hh sg ts us hs rs σ H c ⟨o2, o8, o9, o10, o11, o12, o13, o14, rfl⟩ fx st hhh offh rh hc k
  have Dr := fx.D
  have l6 := Dr.n6
  have lhs := rows_map_len rh
  have few := halves_few Dr.nd l6
  have each : ∀ t ∈ hs, ∃ h : QL, Half sg h ∧ H t = some (.tup ((h.map lit).map V.str)) := fun t ht => by
    obtain ⟨i, hi⟩ := List.getElem?_of_mem ht
    obtain ⟨row, hrow, hrt⟩ := RowsAt.get rh i t hi
    rw [List.getElem?_map] at hrow
    obtain ⟨h, hh', rfl⟩ := Option.map_eq_some_iff.mp hrow
    exact ⟨h, (halves_mem Dr.nd).mp (List.mem_of_getElem? hh'), hrt⟩
  refine ⟨_, rfl, _, _, rfl, .inl ⟨_, SqL.of st.hps, rfl⟩, _, _, rfl, rfl, _, rfl, ?_⟩
  refine two_ways (fun v H' => ∃ (Lh : Addr) (hs' : List Addr) (c' : Nat), v = .ref Lh ∧ H' Lh = some (.lst (hs'.map V.ref)) ∧ (Lh ≠ S ∧ Lh ≠ L) ∧ (∀ t ∈ hs', ∃ h : QL, Half sg h ∧ H' t = some (.tup ((h.map lit).map V.str))) ∧ hs'.length ≤ 729 ∧ c' ≤ c + 729 ∧ LSt K C S L ps pr x r du sg ts us rs H' c') (fun _ Q' kQ => ?_) (fun _ Q' kQ => ?_) ?_
  · exact ⟨_, rfl, kQ _ _ ⟨hh, hs, c, rfl, hhh, offh, each, by omega, by omega, st⟩⟩
  · refine ⟨_, rfl, _, rfl, S, L, hh, true, hs.map V.ref, c, rfl, SqL.of hhh, by rw [List.length_map]; omega, by rw [List.length_map]; omega, st.str, fun ys p H1 pm hp0 hp1 hS1 hk1 => ?_⟩
    obtain ⟨hs', ph, rfl⟩ := ref_perm pm
    rw [List.length_map] at hS1
    have st1 := st.next fx hk1 hS1
    refine ⟨_, rfl, p, _, rfl, SqL.of hp1, fun Lh hLh => kQ _ _ ⟨Lh, hs'.take 40, c + hs.length, rfl, ?_, hS1.off hLh, fun t ht => ?_, ?_, by omega, st1.same (same_new hLh)⟩⟩
    · rw [upd_same, show (40 : Int) = ((40 : Nat) : Int) from rfl, cutV_take, List.map_take]
    · obtain ⟨h, h1, h2⟩ := each t (ph.mem_iff.mp (List.mem_of_mem_take ht))
      obtain ⟨⟨_, g1⟩, ⟨_, g2⟩⟩ := st.str.two
      exact ⟨h, h1, (same_new hLh) _ _ (hk1 _ _ h2 (ne_of h2 g1 (fun z => nomatch z)) (ne_of h2 g2 (fun z => nomatch z)))⟩
    · rw [List.length_take]
      omega
  · rintro v H1 ⟨Lh, hs', c1, rfl, hLh, offL, each1, few1, hc1, st1⟩
    refine ⟨Lh, rfl, ⟨_, SqL.of hLh⟩, for_list (K := K) (a := Lh) (xs := hs'.map V.ref) (fun j σ H2 => Sig a S ps pr x du hh σ ∧ H2 Lh = some (.lst (hs'.map V.ref)) ∧ (∀ t ∈ hs', ∃ h : QL, Half sg h ∧ H2 t = some (.tup ((h.map lit).map V.str))) ∧ ∃ c2, c2 ≤ c1 + 6 * j ∧ LSt K C S L ps pr x r du sg ts us rs H2 c2) ⟨⟨_, _, _, _, _, _, _, _, rfl⟩, hLh, each1, c1, by omega, st1⟩ (fun j σ H2 _ hh => SqL.of hh.2.1) ?_ ?_⟩
    · rintro j v σ H2 hv ⟨⟨o2, o8, o9, o10, o11, o12, o13, o14, rfl⟩, hL2, each2, c2, hc2, st2⟩
      obtain ⟨t, ht, rfl⟩ := get_map hv
      have jl : j < hs'.length := (List.getElem?_eq_some_iff.mp ht).1
      obtain ⟨h, hf, ht2⟩ := each2 t (List.mem_of_getElem? ht)
      have hl := half_len hf
      obtain ⟨⟨_, g1⟩, ⟨_, g2⟩⟩ := st2.str.two
      exact k0 _ a S L ps pr x r du hh t sg ts us rs h _ _ _ _ _ _ _ H2 c2 fx st2 ht2 hf (by omega) fun σ' H' hσ st' hk => ⟨hσ, lst_kept hL2 hk offL, (fun t' ht' => by
        obtain ⟨h', h1, h2⟩ := each2 t' ht'
        exact ⟨h', h1, hk _ _ h2 (ne_of h2 g1 (fun z => nomatch z)) (ne_of h2 g2 (fun z => nomatch z))⟩), c2 + h.length, by omega, st'⟩
    · rintro σ H2 ⟨hσ, _, _, c2, hc2, st2⟩
      rw [List.length_map] at hc2
      exact k6 D a S L ps pr x r du hh sg ts us rs σ H2 c2 hσ fx st2 fun σ' H' hσ hS => k σ' H' c2 hσ hS (by omega)
theorem tseg0 (T : LT5 P w K mg base C) (gd : (XL P w K mg base f cdv A outer s0 HH E).A.guards = some []) (hr : Room 9 (XL P w K mg base f cdv A outer s0 HH E).A) :
    ∃ tt, PSs (XL P w K mg base f cdv A outer s0 HH E) turn tt ∧ ∀ (D : Ends) (a S L : Addr) (i : Nat) (o3 o4 o5 o6 o7 o8 o9 o10 o11 o12 o13 o14 : Option V) (H : Hp) (c : Nat), StreamAt H S L c → c ≤ 30000 →
      (∀ σ' H' c', SigT a S σ' → StreamAt H' S L c' → c' ≤ c + 5400 → D.nx σ' H') → tt D [some (.ref a), some (.ref S), some (.int (i : Int)), o3, o4, o5, o6, o7, o8, o9, o10, o11, o12, o13, o14] H := by
  obtain ⟨fI, fdI, M, GI, bI⟩ := T.make
  obtain ⟨fT, fdT, FT, mT, bT⟩ := T.short
  obtain ⟨tt5, p5, k5⟩ := tseg5 (f := f) (cdv := cdv) (A := A) (outer := outer) (s0 := s0) (HH := HH) (E := E) T gd hr
  have hr5 : Room 5 _ := hr.mono (by decide)
  have hr4 : Room 4 _ := hr.mono (by decide)
  have hr3 : Room 3 _ := hr.mono (by decide)
  have hr2 : Room 2 _ := hr.mono (by decide)
  have hr1 : Room 1 _ := hr.mono (by decide)
  have hr6 : Room 6 _ := hr.mono (by decide)
  refine ⟨_, pss_cons (ps_asg (pe_callH T.drawn hr5 (by rfl) (pa_cons (pv 1) (pa_cons (pe_ifExp (pt_cmpR op_eq (pv 2) pe_int (nomark _)) pe_int pe_int) pa_nil))) (pg_tup rfl (pgs_cons (pg_name (i := 3) scLaw.nd rfl (.inl rfl)) (pgs_cons (pg_name (i := 4) scLaw.nd rfl (.inl rfl)) pgs_nil))))
    (pss_cons (ps_par (i := 5) (j := 6) rfl scLaw.nd rfl rfl (by decide) rfl rfl (pa_cons (pe_make M GI hr6 (by rfl) T.T.mgC bI .nil pass0 (pa_cons (pv 3) (pa_cons (pv 4) pa_nil))) (pa_cons (pe_callH T.shortL hr3 (by rfl) (pa_cons (pv 3) (pa_cons (pv 4) pa_nil))) pa_nil)) rfl)
    (pss_cons (ps_if (pt_not (pt_val (pe_callHG T.same gd hr1 (by rfl) (pa_cons (pe_meth0 (pv 5) T.T.cl mT FT hr4 bT .nil pass0) (pa_cons (pv 6) pa_nil))))) (pss_one ps_none) pss_nil)
    (pss_cons (ps_expr (pe_bm PySem.F.plainAttrs_list PySem.F.slot_list_append PySem.F.type_list_append mt_append (pe_meth0 (pv 5) T.T.cl mT FT hr4 bT .nil pass0) (pa_cons pe_str pa_nil)))
    (pss_cons (ps_set (i := 7) scLaw.nd rfl (.inl rfl) (pe_callH T.halves hr2 (by rfl) (pa_cons (pv 3) pa_nil))) p5)))), ?_⟩
  intro D a S L i o3 o4 o5 o6 o7 o8 o9 o10 o11 o12 o13 o14 H c hS hc k
  refine ⟨_, rfl, _, rfl, rfl, _, rfl, ?_⟩
  refine two_ways (fun v H' => ∃ m : Nat, m ≤ 6 ∧ v = .int (m : Int) ∧ H' = H) (fun _ Q' kQ => kQ _ _ ⟨6, by decide, rfl, rfl⟩) (fun _ Q' kQ => kQ _ _ ⟨4, by decide, rfl, rfl⟩) ?_
  rintro v H' ⟨m, m6, rfl, rfl⟩
  refine ⟨S, L, m, c, rfl, m6, by omega, hS, fun p ps pr sg ts rs c1 H1 Dr _ hp0 hps0 hpr0 hp1 hps1 hpr1 rows1 hc1 hS1 hk1 => ⟨p, _, rfl, SqT.of hp1, rfl, _, _, rfl, _, _, rfl, rfl, ?_⟩⟩
  have l6 := Dr.n6
  have l64 := Dr.few
  have ok := Dr.ok
  -- the rule, and what is due
  obtain ⟨qss, u1, u2, u3⟩ := handed_full (K := K) rows1 Dr.full
  have lq : qss.length = rs.length := by
    have y := congrArg List.length u2
    rw [List.length_map] at y
    exact y.symm
  refine ⟨_, rfl, _, rfl, fun x dy hx hdy _ => ?_⟩
  refine make_rule (b1 := true) (b2 := true) (sg := sg) hx hdy (SqL.of hps1) (SqL.of hpr1) l6 Dr.nd Dr.good u1 u3 (by omega) fun r H2 sm2 cx hr0 => ⟨rfl, ?_⟩
  rw [rowsOf_fulls Dr.nd Dr.good u2 fun q hq => Dr.sub.subset hq, allow_sub Dr.sub] at cx
  have hps2 := sm2 _ _ hps1
  have hpr2 := sm2 _ _ hpr1
  refine ⟨_, rfl, _, rfl, ps, pr, sg, ts, rs, rfl, hps2, hpr2, rows1.same sm2, l6, Dr.nd, Dr.good, l64, fun du us H3 sm3 hdu0 hdu rdu => ⟨_, _, rfl, ?_⟩⟩
  have sm13 := sm2.trans sm3
  have hS3 := hS1.same sm13
  have offdu : du ≠ S ∧ du ≠ L := (hS1.same sm2).off hdu0
  have fx : LFx S L ps pr du sg rs := ⟨hS.off hps0, hS.off hpr0, offdu, Dr⟩
  have st3 : LSt K C S L ps pr x r du sg ts us rs H3 c1 := ⟨hS3, sm13 _ _ hps1, sm13 _ _ hpr1, rows1.same sm13, cx.same sm3, hdu, rdu⟩
  obtain ⟨dx3, _, _, hx3, _⟩ := st3.cx.at_
  refine ⟨_, rfl, x, dx3, _, rfl, hx3, fl_no (by decide +kernel), x, r, sg, rs, rfl, st3.cx, l6, Dr.nd, Dr.good, l64, fun p4 us4 H4 sm4 _ hp4 rows4 => ?_⟩
  have st4 := st3.same sm4
  refine ⟨_, rfl, _, _, _, 50000, rfl, primes_dp hp4 rows4, primes_dp st4.hdu st4.rdu, small_primes Dr.nd Dr.n6 Dr.good rs, by decide, _, rfl, iteF ?_⟩
  -- the list is a new one
  obtain ⟨dx4, _, _, hx4, _⟩ := st4.cx.at_
  refine ⟨_, rfl, x, dx4, _, rfl, hx4, fl_no (by decide +kernel), x, r, sg, rs, rfl, st4.cx, l6, Dr.nd, Dr.good, l64, fun p5 us5 H5 sm5 hp50 hp5 rows5 => ?_⟩
  have l5 := rows_map_len rows5
  have pf := primes_few Dr.nd l6 rs
  refine ⟨.inl ⟨rfl, _, SqL.of hp5⟩, p5, _, _, rfl, rfl, hp5, by rw [List.length_map, sizeLine_eq]; omega, ?_⟩
  have sm6 : Same H4 (upd H5 p5 (.lst (us5.map V.ref ++ [.str (Str.ofString "more")]))) := fun b o e => (upd_ne (ne_of_none e hp50)).trans (sm5 b o e)
  generalize upd H5 p5 (.lst (us5.map V.ref ++ [.str (Str.ofString "more")])) = H6 at sm6 ⊢
  have st6 := st4.same sm6
  refine ⟨_, rfl, ps, sg, rfl, st6.hps, l6, Dr.nd, Dr.good, fun hh hs H7 sm7 hh0 hh7 rh7 => ?_⟩
  have st7 := st6.same sm7
  exact k5 D a S L ps pr x r du hh sg ts us hs rs _ H7 c1 ⟨_, _, _, _, _, _, _, _, rfl⟩ fx st7 hh7 (st6.str.off hh0) rh7 (by omega) fun σ' H' c' hσ hS' hc' => k σ' H' c' hσ hS' (by omega)
theorem ok_law {fd : FuncData} (F : Fun K "law" "law" sLaw f fd) (T : LT5 P w K mg base C) : FnG P w K mg base 10 f fd ["_law_script"] (spLaw0 K) := by
  refine fng_of F scLaw (fun vs H Q E h => ?_) (fun cdv A outer s H vs Q E gd hr h => ?_)
  · obtain ⟨a, ns, rfl, _⟩ := h
    rfl
  · obtain ⟨a, ns, rfl, hA, hn, k⟩ := h
    obtain ⟨tt1, p1, k1⟩ := tseg0 (f := f) (cdv := cdv) (A := A) (outer := outer) (s0 := s) (HH := H) (E := E) T gd hr
    refine ⟨_, pss_cons (ps_set (i := 1) scLaw.nd rfl (.inl rfl) (pe_lst (pa_cons (pe_callTy call_list_of (by rfl) T.T.list (by decide +kernel) (pa_cons (pv 0) pa_nil)) (pa_cons pe_int (pa_cons pe_int (pa_cons pe_int pa_nil))))))
      (pss_cons (ps_for PassesOwn.never rfl (pi_range1 (by rfl) T.range (pa_cons pe_int pa_nil)) (pg_name (i := 2) scLaw.nd rfl (.inl rfl)) p1)
      (pss_one (ps_ret pe_bl))), ?_⟩
    refine ⟨_, rfl, a, _, rfl, .inl hA, fun l0 hl0 => ⟨(by show 4 ≤ sizeLine; decide), fun S hS => ?_⟩⟩
    have hSl : StreamAt (upd (upd H l0 (.lst (ns.map V.int))) S (.lst [.ref l0, .int 0, .int 0, .int 0])) S l0 0 := ⟨ns, 0, 0, upd_same, (upd_ne (ne_of_none upd_same hS)).trans upd_same, by decide, by decide, by decide, hn⟩
    generalize upd (upd H l0 (.lst (ns.map V.int))) S (.lst [.ref l0, .int 0, .int 0, .int 0]) = HA at hSl ⊢
    refine ⟨5, rfl, by decide, by decide, for_range (lo := 0) (n := 5) (fun i σ H2 => SigT a S σ ∧ ∃ c, c ≤ 5400 * i ∧ StreamAt H2 S l0 c) ⟨⟨_, _, _, _, _, _, _, _, _, _, _, _, _, rfl⟩, 0, Nat.zero_le _, hSl⟩ ?_ ?_⟩
    · rintro i σ H2 hi ⟨⟨o2, o3, o4, o5, o6, o7, o8, o9, o10, o11, o12, o13, o14, rfl⟩, c, hc, hS2⟩
      have e : (0 + (i : Int)) = (i : Int) := by omega
      rw [e]
      exact k1 _ a S l0 i o3 o4 o5 o6 o7 o8 o9 o10 o11 o12 o13 o14 H2 c hS2 (by omega) fun σ' H' c' hσ hS hc' => ⟨hσ, c', by omega, hS⟩
    · rintro σ H2 _
      exact k H2
end
end K6
namespace K6
open PySem PySem.Spec PyProof.Rows L2 LamX NdefX EV
/-! ### what the written part says of the text -/
def frees : List Str := ["int", "len", "repr", "range", "list", "tuple", "isinstance", "str", "all", "any", "enumerate", "sorted", "sum"]
def freeB (K : PySem.W.Frag) (xs : List Str) : Bool := xs.all fun x => decide (PySem.W.nsIn K mainGlobals x = some none)
theorem freeB_ok {K : PySem.W.Frag} {xs : List Str} {h : Heap} {mg : Str → Option Value} (b : freeB K xs = true) (X : K.In h) (G : h.Ns mainGlobals mg) : ∀ x ∈ xs, mg x = none := fun x hx => by
  unfold freeB at b
  simp only [List.all_eq_true, decide_eq_true_eq] at b
  exact PySem.W.mg_none_of X G (b x hx)
def DefAt (K : PySem.W.Frag) (x : Str) (st : Stmt) (f : Addr) : Prop := PySem.W.nsIn K mainGlobals x = some (some (.ref f)) ∧ ∃ fd, Fun K x x st f fd
def fnB (K : PySem.W.Frag) (C : Addr) (m : Str) (f : Addr) : Bool := decide (PySem.W.findIn K (.ref C) m = some (some (.ref f))) && PySem.W.isFn K (.ref f) && PySem.W.keepIn K (.ref f)
theorem fnB_ok {K : PySem.W.Frag} {C f : Addr} {m : Str} (h : fnB K C m f = true) : Meth K C m f := by
  unfold fnB at h
  simp only [Bool.and_eq_true, decide_eq_true_eq] at h
  exact ⟨h.1.1, h.1.2, h.2⟩
def clB (K : PySem.W.Frag) (C : Addr) : Bool := PySem.W.plainGet K C Str.empty && PySem.W.hasDictIn K C && PySem.W.plainOver K C && decide (PySem.W.findIn K (.ref C) "__setattr__" = some (some (.builtin "object.__setattr__"))) &&
  (["names", "places", "rows"] : List Str).all (fun n => decide (PySem.W.findIn K (.ref C) n = some none))
theorem clB_ok {K : PySem.W.Frag} {C : Addr} (h : clB K C = true) : Cls K C ∧ NoAttr K C "names" ∧ NoAttr K C "places" ∧ NoAttr K C "rows" := by
  unfold clB at h
  simp only [Bool.and_eq_true, decide_eq_true_eq, List.all_eq_true] at h
  obtain ⟨⟨⟨⟨h1, h2⟩, h3⟩, h4⟩, h5⟩ := h
  exact ⟨⟨h1, h2, h3, h4⟩, h5 _ (by simp), h5 _ (by simp), h5 _ (by simp)⟩
def mkB (K : PySem.W.Frag) (C : Addr) : Bool := PySem.W.makesIn K C && PySem.W.keepIn K (.ref C)
theorem mkB_ok {K : PySem.W.Frag} {C f : Addr} (h : mkB K C = true) (m : Meth K C "__init__" f) : Mk K C f := by
  unfold mkB at h
  simp only [Bool.and_eq_true] at h
  exact ⟨h.1, m.at_, m.fn, h.2⟩
section
variable {P : Program} {w : World} {K : PySem.W.Frag} {mg : Str → Option Value} {base : Heap}
theorem all_tx {h : Heap} {fa C fN AN fN1 fD fP fM fS fF fA fB fNg fBr fHf fMt fFo fWi fSh fId fZ fi fn fl fp fv ft fw fc fk fs fu fbe fcs fsc frm fic fih g0 g1 g2 : Addr} {vL vM vT : Value} (X : K.In h) (G : h.Ns mainGlobals mg) (hfa : mg "law" = some (.ref fa)) (fr : freeB K frees = true)
    (aL : PySem.W.nsIn K mainGlobals "LETTERS" = some (some vL)) (eL : ∃ t, vL = .str letters t) (aM : PySem.W.nsIn K mainGlobals "MOST_LETTERS" = some (some vM)) (eM : ∃ t, vM = .int 8 t) (aT : PySem.W.nsIn K mainGlobals "MOST_SIGNS" = some (some vT)) (eT : ∃ t, vT = .int 6 t)
    (dD : DefAt K "_law_draw" sDraw fD) (dP : DefAt K "_law_pick" sPick fP) (dM : DefAt K "_law_mixed" sMixed fM) (dS : DefAt K "_law_same" sSame fS) (dF : DefAt K "_law_fresh" sFresh fF) (dN : DefAt K "_law_names" sNames fN1) (dA : DefAt K "_law_fulls" sFulls fA) (dB : DefAt K "_law_drawn_rule" sDrawn fB) (dNg : DefAt K "_law_neg" sNeg fNg) (dBr : DefAt K "_law_bare" sBare fBr) (dHf : DefAt K "_law_halves" sHalves fHf) (dMt : DefAt K "_law_meets" sMeets fMt) (dFo : DefAt K "_law_forced" sForcedL fFo) (dWi : DefAt K "_law_within" sWithin fWi) (dSh : DefAt K "_law_shortest" sShortestL fSh) (dId : DefAt K "_law_is_drawn" sIsDrawn fId) (dZ : DefAt K "law" sLaw fZ) (di : DefAt K "is_name" sIsName fi) (dn : DefAt K "name_of" sNameOf fn) (dl : DefAt K "literals_of" sLits fl) (dp : DefAt K "places_of" sPlaces fp) (dv : DefAt K "in_order" sInOrder fv) (dt : DefAt K "is_list" sIsList ft) (dw : DefAt K "first_wrong" sWrong fw) (dc : DefAt K "is_clause" sIsClause fc) (dk : DefAt K "is_full" sIsFull fk) (ds : DefAt K "full_settings" sFullSettings fs) (du : DefAt K "check_count" sChkCount fu) (dbe : DefAt K "literals_behind" sBehind fbe) (dcs : DefAt K "check_setting" sChkSetting fcs) (dsc : DefAt K "shortest_clauses" sShortestP fsc) (drm : DefAt K "row_marks" sRowMarks frm) (dic : DefAt K "is_consequence" sIsCons fic) (dih : DefAt K "is_shortest" sIsShortest fih)
    (aC : PySem.W.nsIn K mainGlobals "Rule" = some (some (.ref C))) (aN : PySem.W.nsIn K mainGlobals "check_names" = some (some (.ref fN))) (lN : ∃ fd, FunE K "check_names" "check_names" sChkNames fN fd AN)
    (i0 : PySem.W.findIn K (.ref C) "__init__" = some (some (.ref g0))) (n0 : fnB K C "__init__" g0 = true) (l0 : ∃ fd, Fun K "__init__" "Rule.__init__" sInit g0 fd) (i1 : PySem.W.findIn K (.ref C) "shortest" = some (some (.ref g1))) (n1 : fnB K C "shortest" g1 = true) (l1 : ∃ fd, Fun K "shortest" "Rule.shortest" sShortest g1 fd) (i2 : PySem.W.findIn K (.ref C) "forced" = some (some (.ref g2))) (n2 : fnB K C "forced" g2 = true) (l2 : ∃ fd, Fun K "forced" "Rule.forced" sForced g2 fd)
    (cC : clB K C = true) (cM : mkB K C = true) :
    ∃ fd, (∀ (s : Shared) (u : Value), BindsTo s fd ⟨[u], []⟩ [("_law_script", u)]) ∧ FnG P w K mg base 10 fa fd ["_law_script"] (spLaw0 K) := by
  have fz := freeB_ok fr X G
  have z_int : mg "int" = none := fz _ (by unfold frees; decide +kernel)
  have z_len : mg "len" = none := fz _ (by unfold frees; decide +kernel)
  have z_repr : mg "repr" = none := fz _ (by unfold frees; decide +kernel)
  have z_range : mg "range" = none := fz _ (by unfold frees; decide +kernel)
  have z_list : mg "list" = none := fz _ (by unfold frees; decide +kernel)
  have z_tuple : mg "tuple" = none := fz _ (by unfold frees; decide +kernel)
  have z_isinstance : mg "isinstance" = none := fz _ (by unfold frees; decide +kernel)
  have z_str : mg "str" = none := fz _ (by unfold frees; decide +kernel)
  have z_all : mg "all" = none := fz _ (by unfold frees; decide +kernel)
  have z_any : mg "any" = none := fz _ (by unfold frees; decide +kernel)
  have z_enumerate : mg "enumerate" = none := fz _ (by unfold frees; decide +kernel)
  have z_sorted : mg "sorted" = none := fz _ (by unfold frees; decide +kernel)
  have z_sum : mg "sum" = none := fz _ (by unfold frees; decide +kernel)
  obtain ⟨tL, rfl⟩ := eL
  obtain ⟨tM, rfl⟩ := eM
  obtain ⟨tT, rfl⟩ := eT
  have mT : ∃ t, mg "MOST_SIGNS" = some (.int 6 t) := ⟨_, PySem.W.mg_of X G aT⟩
  have mL : ∃ t, mg "LETTERS" = some (.str letters t) := ⟨_, PySem.W.mg_of X G aL⟩
  have mM : ∃ t, mg "MOST_LETTERS" = some (.int 8 t) := ⟨_, PySem.W.mg_of X G aM⟩
  obtain ⟨aD_, fdD, FD⟩ := dD
  have mD := PySem.W.mg_of X G aD_
  have bD := FD.binds (ps := ["_law_stream", "_law_many"]) fun _ _ _ _ _ _ us hl => match us, hl with | [_, _], _ => rfl
  obtain ⟨aP_, fdP, FP⟩ := dP
  have mP := PySem.W.mg_of X G aP_
  have bP := FP.binds (ps := ["_law_stream", "_law_things"]) fun _ _ _ _ _ _ us hl => match us, hl with | [_, _], _ => rfl
  obtain ⟨aM_, fdM, FM⟩ := dM
  have mM_ := PySem.W.mg_of X G aM_
  have bM := FM.binds (ps := ["_law_stream", "_law_things"]) fun _ _ _ _ _ _ us hl => match us, hl with | [_, _], _ => rfl
  obtain ⟨aS_, fdS, FS⟩ := dS
  have mS := PySem.W.mg_of X G aS_
  have bS := FS.binds (ps := ["_law_found", "_law_due"]) fun _ _ _ _ _ _ us hl => match us, hl with | [_, _], _ => rfl
  obtain ⟨aF_, fdF, FF⟩ := dF
  have mF := PySem.W.mg_of X G aF_
  have bF := FF.binds (ps := ["_law_stream", "_law_taken"]) fun _ _ _ _ _ _ us hl => match us, hl with | [_, _], _ => rfl
  obtain ⟨aN_, fdN_, FN_⟩ := dN
  have mN := PySem.W.mg_of X G aN_
  have bN := FN_.binds (ps := ["_law_stream", "_law_many"]) fun _ _ _ _ _ _ us hl => match us, hl with | [_, _], _ => rfl
  obtain ⟨aA_, fdA, FA⟩ := dA
  have mA := PySem.W.mg_of X G aA_
  have bA := FA.binds (ps := ["_law_names_here"]) fun _ _ _ _ _ _ us hl => match us, hl with | [_], _ => rfl
  obtain ⟨aB_, fdB, FB⟩ := dB
  have mB := PySem.W.mg_of X G aB_
  have bB := FB.binds (ps := ["_law_stream", "_law_most"]) fun _ _ _ _ _ _ us hl => match us, hl with | [_, _], _ => rfl
  obtain ⟨aNg_, fdNg, FNg⟩ := dNg
  have mNg := PySem.W.mg_of X G aNg_
  have bNg := FNg.binds (ps := ["_law_one"]) fun _ _ _ _ _ _ us hl => match us, hl with | [_], _ => rfl
  obtain ⟨aBr_, fdBr, FBr⟩ := dBr
  have mBr := PySem.W.mg_of X G aBr_
  have bBr := FBr.binds (ps := ["_law_one"]) fun _ _ _ _ _ _ us hl => match us, hl with | [_], _ => rfl
  obtain ⟨aHf_, fdHf, FHf⟩ := dHf
  have mHf := PySem.W.mg_of X G aHf_
  have bHf := FHf.binds (ps := ["_law_names_here"]) fun _ _ _ _ _ _ us hl => match us, hl with | [_], _ => rfl
  obtain ⟨aMt_, fdMt, FMt⟩ := dMt
  have mMt := PySem.W.mg_of X G aMt_
  have bMt := FMt.binds (ps := ["_law_clause", "_law_some"]) fun _ _ _ _ _ _ us hl => match us, hl with | [_, _], _ => rfl
  obtain ⟨aFo_, fdFo, FFo⟩ := dFo
  have mFo := PySem.W.mg_of X G aFo_
  have bFo := FFo.binds (ps := ["_law_settings", "_law_half"]) fun _ _ _ _ _ _ us hl => match us, hl with | [_, _], _ => rfl
  obtain ⟨aWi_, fdWi, FWi⟩ := dWi
  have mWi := PySem.W.mg_of X G aWi_
  have bWi := FWi.binds (ps := ["_law_part", "_law_clause"]) fun _ _ _ _ _ _ us hl => match us, hl with | [_, _], _ => rfl
  obtain ⟨aSh_, fdSh, FSh⟩ := dSh
  have mSh := PySem.W.mg_of X G aSh_
  have bSh := FSh.binds (ps := ["_law_names_here", "_law_settings"]) fun _ _ _ _ _ _ us hl => match us, hl with | [_, _], _ => rfl
  obtain ⟨aId_, fdId, FId⟩ := dId
  have mId := PySem.W.mg_of X G aId_
  have bId := FId.binds (ps := ["_law_shortest_here", "_law_half", "_law_literal"]) fun _ _ _ _ _ _ us hl => match us, hl with | [_, _, _], _ => rfl
  obtain ⟨aZ_, fdZ, FZ⟩ := dZ
  have mZ := PySem.W.mg_of X G aZ_
  have bZ := FZ.binds (ps := ["_law_script"]) fun _ _ _ _ _ _ us hl => match us, hl with | [_], _ => rfl
  obtain ⟨ai_, fdi, Fi⟩ := di
  have mi := PySem.W.mg_of X G ai_
  have bi := Fi.binds (ps := ["thing"]) fun _ _ _ _ _ _ us hl => match us, hl with | [_], _ => rfl
  obtain ⟨an_, fdn, Fn⟩ := dn
  have mn := PySem.W.mg_of X G an_
  have bn := Fn.binds (ps := ["literal"]) fun _ _ _ _ _ _ us hl => match us, hl with | [_], _ => rfl
  obtain ⟨al_, fdl, Fl⟩ := dl
  have ml := PySem.W.mg_of X G al_
  have bl := Fl.binds (ps := ["names"]) fun _ _ _ _ _ _ us hl => match us, hl with | [_], _ => rfl
  obtain ⟨ap_, fdp, Fp⟩ := dp
  have mp := PySem.W.mg_of X G ap_
  have bp := Fp.binds (ps := ["names"]) fun _ _ _ _ _ _ us hl => match us, hl with | [_], _ => rfl
  obtain ⟨av_, fdv, Fv⟩ := dv
  have mv := PySem.W.mg_of X G av_
  have bv := Fv.binds (ps := ["places", "literals"]) fun _ _ _ _ _ _ us hl => match us, hl with | [_, _], _ => rfl
  obtain ⟨at_, fdt, Ft⟩ := dt
  have mt := PySem.W.mg_of X G at_
  have bt := Ft.binds (ps := ["thing"]) fun _ _ _ _ _ _ us hl => match us, hl with | [_], _ => rfl
  obtain ⟨aw_, fdw, Fw⟩ := dw
  have mw := PySem.W.mg_of X G aw_
  have bw := Fw.binds (ps := ["places", "things"]) fun _ _ _ _ _ _ us hl => match us, hl with | [_, _], _ => rfl
  obtain ⟨ac_, fdc, Fc⟩ := dc
  have mc := PySem.W.mg_of X G ac_
  have bc := Fc.binds (ps := ["places", "thing"]) fun _ _ _ _ _ _ us hl => match us, hl with | [_, _], _ => rfl
  obtain ⟨ak_, fdk, Fk⟩ := dk
  have mk := PySem.W.mg_of X G ak_
  have bk := Fk.binds (ps := ["places", "thing"]) fun _ _ _ _ _ _ us hl => match us, hl with | [_, _], _ => rfl
  obtain ⟨as_, fds, Fs⟩ := ds
  have ms := PySem.W.mg_of X G as_
  have bs := Fs.binds (ps := ["names"]) fun _ _ _ _ _ _ us hl => match us, hl with | [_], _ => rfl
  obtain ⟨au_, fdu, Fu⟩ := du
  have mu := PySem.W.mg_of X G au_
  have bu := Fu.binds (ps := ["names"]) fun _ _ _ _ _ _ us hl => match us, hl with | [_], _ => rfl
  obtain ⟨abe_, fdbe, Fbe⟩ := dbe
  have mbe := PySem.W.mg_of X G abe_
  have bbe := Fbe.binds (ps := ["literals", "places", "row"]) fun _ _ _ _ _ _ us hl => match us, hl with | [_, _, _], _ => rfl
  obtain ⟨acs_, fdcs, Fcs⟩ := dcs
  have mcs := PySem.W.mg_of X G acs_
  have bcs := Fcs.binds (ps := ["places", "setting"]) fun _ _ _ _ _ _ us hl => match us, hl with | [_, _], _ => rfl
  obtain ⟨asc_, fdsc, Fsc⟩ := dsc
  have msc := PySem.W.mg_of X G asc_
  have bsc := Fsc.binds (ps := ["names", "rows"]) fun _ _ _ _ _ _ us hl => match us, hl with | [_, _], _ => rfl
  obtain ⟨arm_, fdrm, Frm⟩ := drm
  have mrm := PySem.W.mg_of X G arm_
  have brm := Frm.binds (ps := ["literals", "rows"]) fun _ _ _ _ _ _ us hl => match us, hl with | [_, _], _ => rfl
  obtain ⟨aic_, fdic, Fic⟩ := dic
  have mic := PySem.W.mg_of X G aic_
  have bic := Fic.binds (ps := ["marks", "clause", "rows"]) fun _ _ _ _ _ _ us hl => match us, hl with | [_, _, _], _ => rfl
  obtain ⟨aih_, fdih, Fih⟩ := dih
  have mih := PySem.W.mg_of X G aih_
  have bih := Fih.binds (ps := ["marks", "clause", "rows"]) fun _ _ _ _ _ _ us hl => match us, hl with | [_, _, _], _ => rfl
  obtain ⟨fd0, F0⟩ := l0
  have t0 := fnB_ok n0
  have b0 := F0.binds (ps := ["self", "signs", "settings"]) fun _ _ _ _ _ _ us hl => match us, hl with | [_, _, _], _ => rfl
  obtain ⟨fd1, F1⟩ := l1
  have t1 := fnB_ok n1
  have b1 := F1.binds (ps := ["self"]) fun _ _ _ _ _ _ us hl => match us, hl with | [_], _ => rfl
  obtain ⟨fd2, F2⟩ := l2
  have t2 := fnB_ok n2
  have b2 := F2.binds (ps := ["self", "setting"]) fun _ _ _ _ _ _ us hl => match us, hl with | [_, _], _ => rfl
  obtain ⟨fdN, FN⟩ := lN
  obtain ⟨c1, c2, c3, c4⟩ := clB_ok cC
  have MK := mkB_ok cM t0
  have T : RTxt K mg C := ⟨c1, c2, c3, c4, PySem.W.mg_of X G aC, z_tuple, z_list, z_len⟩
  have mN_ := PySem.W.mg_of X G aN
  obtain ⟨dsN, vN, bN_⟩ := FN.short (ps := ["things", "taken"]) 1 rfl fun T kV doc pm an cdv ct us its h1 h2 => match us, h1, its, h2 with | [_], _, [_], _ => ⟨_, rfl, rfl⟩
  have GD : FnOk P w K mg base CX0 1 fD fdD _ spDraw := ok_draw FD z_int
  have GP := ok_pickL FP GD mD FD.kp bD z_len
  have GM := ok_mixed FM GD mD FD.kp bD z_len z_range z_list
  have GS : FnG P w K mg base 1 fS fdS _ (spSameB K) := ok_sameB FS z_repr
  have GF := ok_fresh FF GD mD FD.kp bD GP mP FP.kp bP z_range z_int
  have GN := ok_names FN_ GF mF FF.kp bF z_range
  have GA : FnOk P w K mg base CX0 1 fA fdA _ (spFulls K) := ok_fulls FA
  have GB := ok_drawn FB GD mD FD.kp bD GN mN FN_.kp bN GA mA FA.kp bA
  have Gi : FnOk P w K mg base CX0 1 fi fdi _ spIsName := ok_isName Fi z_isinstance z_str z_len z_all mL mM
  have Gn : FnOk P w K mg base CX0 1 fn fdn _ spNameOf := ok_nameOf Fn
  have Gl : FnOk P w K mg base CX0 1 fl fdl _ (spLits K) := ok_lits Fl
  have Gp := ok_places Fp Gl ml Fl.kp bl z_enumerate
  have Gv : FnOk P w K mg base CX0 1 fv fdv _ (spInOrder K) := ok_inOrder Fv z_tuple z_sorted z_int
  have Gt : FnOk P w K mg base CX0 1 ft fdt _ (spIsList K) := ok_isList Ft z_isinstance z_list z_tuple
  have GE := ok_chkNames FN Gi mi Fi.kp bi z_enumerate
  have Gw := ok_wrong Fw Gn mn Fn.kp bn z_enumerate z_isinstance z_str
  have Gc := ok_isClause Fc Gt mt Ft.kp bt Gw mw Fw.kp bw
  have Gk := ok_isFull Fk z_len Gc mc Fc.kp bc
  have Gs : FnOk P w K mg base CX0 1 fs fds _ (spFS K) := ok_fs Fs
  have Gu : FnOk P w K mg base CX0 1 fu fdu _ (spChkCount K) := ok_chkCount Fu z_len mT
  have GI := ok_init F0 T z_enumerate GE mN_ FN.fn.kp FN.e0 vN bN_ Gu mu Fu.kp bu Gp mp Fp.kp bp Gk mk Fk.kp bk Gv mv Fv.kp bv Gs ms Fs.kp bs
  have GNg : FnOk P w K mg base CX0 1 fNg fdNg _ spOpp := ok_neg FNg
  have GBr : FnOk P w K mg base CX0 1 fBr fdBr _ spBare := ok_bare FBr
  have GHf := ok_halves FHf z_len z_range GBr mBr FBr.kp bBr
  have GMt : FnOk P w K mg base CX0 1 fMt fdMt _ spMeets := ok_meets FMt z_any
  have GFo : FnOk P w K mg base CX0 1 fFo fdFo _ spForcedL := ok_forcedL FFo z_all
  have GWi : FnOk P w K mg base CX0 1 fWi fdWi _ spWithin := ok_within FWi z_all
  have GSh := ok_shortestL FSh z_any z_all GHf mHf FHf.kp bHf GWi mWi FWi.kp bWi GMt mMt FMt.kp bMt
  have GId := ok_isDrawn FId z_any GNg mNg FNg.kp bNg GWi mWi FWi.kp bWi
  have Gbe : FnOk P w K mg base CX0 1 fbe fdbe _ spBehind := ok_behind Fbe
  have Gcs := ok_chkSet Fcs Gt mt Ft.kp bt Gw mw Fw.kp bw
  have Gic : FnOk P w K mg base CX0 1 fic fdic _ (spCons K) := ok_cons Fic z_len
  have Gih := ok_short Fih z_any Gic mic Fic.kp bic
  have Grm : FnOk P w K mg base CX0 1 frm fdrm _ (spMarks K) := ok_marks Frm z_sum z_enumerate
  have Gsc := ok_shortC Fsc Gl ml Fl.kp bl Gp mp Fp.kp bp Grm mrm Frm.kp brm Gic mic Fic.kp bic Gih mih Fih.kp bih Gbe mbe Fbe.kp bbe
  have G1 := ok_shortest F1 T Gsc msc Fsc.kp bsc
  have G2 := ok_forced F2 T z_all Gcs mcs Fcs.kp bcs
  have tx : LT5 P w K mg base C := {
    T := T
    any := z_any
    range := z_range
    drawn := ⟨_, _, GB, mB, FB.kp, bB⟩
    mixed := ⟨_, _, GM, mM_, FM.kp, bM⟩
    halves := ⟨_, _, GHf, mHf, FHf.kp, bHf⟩
    same := ⟨_, _, GS, mS, FS.kp, bS⟩
    shortL := ⟨_, _, GSh, mSh, FSh.kp, bSh⟩
    forcedL := ⟨_, _, GFo, mFo, FFo.kp, bFo⟩
    neg := ⟨_, _, GNg, mNg, FNg.kp, bNg⟩
    within := ⟨_, _, GWi, mWi, FWi.kp, bWi⟩
    isDrawn := ⟨_, _, GId, mId, FId.kp, bId⟩
    make := ⟨_, _, MK, GI, b0⟩
    short := ⟨_, _, G1, t1, b1⟩
    forced := ⟨_, _, G2, t2, b2⟩ }
  obtain ⟨oc2, od2, kV2, doc2, pm2, an2, cdv2, ct2, osl2, e2, _⟩ := id FZ.ex
  have e := hfa.symm.trans mZ
  cases e
  refine ⟨fdZ, fun s u => ?_, ok_law FZ tx⟩
  subst e2
  exact .of_eq rfl
end
end K6
open PySem PySem.W PyProof.Rows
set_option maxRecDepth 100000 in
set_option maxHeartbeats 0 in
theorem PySem.Challenge.cw_lastopen_k05_whole_consequences_holds : PySem.Challenge.rw_lastopen_k05_whole_consequences.Holds := by
  w_on; o_law; k_head; (case hw => w_witness2)
  k_fill
  refine' K6.walk0 (l := PySem.Challenge.rw_lastopen_k05_whole_consequences) rfl rfl (fun w h Y => PySem.W.kIn_of Y) ?F
  case F =>
    intro w mg fa h base KX G hmg
    refine' K6.all_tx KX G hmg ?fr ?aL ?eL ?aM ?eM ?aT ?eT ?dD ?dP ?dM ?dS ?dF ?dN ?dA ?dB ?dNg ?dBr ?dHf ?dMt ?dFo ?dWi ?dSh ?dId ?dZ ?di ?dn ?dl ?dp ?dv ?dt ?dw ?dc ?dk ?ds ?du ?dbe ?dcs ?dsc ?drm ?dic ?dih ?aC ?aN ?lN ?i0 ?n0 ?l0 ?i1 ?n1 ?l1 ?i2 ?n2 ?l2 ?cC ?cM
    (case aL => k_is); (case aM => k_is); (case aT => k_is)
    (case eL => exact ⟨_, rfl⟩); (case eM => exact ⟨_, rfl⟩); (case eT => exact ⟨_, rfl⟩)
    (case dD => refine' ⟨?uaD, _, L2.fun_mk ?ulD ?ucD ?ukD⟩; (case uaD => k_is); (case ulD => k_is); (case ucD => k_is); (case ukD => k_is))
    (case dP => refine' ⟨?uaP, _, L2.fun_mk ?ulP ?ucP ?ukP⟩; (case uaP => k_is); (case ulP => k_is); (case ucP => k_is); (case ukP => k_is))
    (case dM => refine' ⟨?uaM, _, L2.fun_mk ?ulM ?ucM ?ukM⟩; (case uaM => k_is); (case ulM => k_is); (case ucM => k_is); (case ukM => k_is))
    (case dS => refine' ⟨?uaS, _, L2.fun_mk ?ulS ?ucS ?ukS⟩; (case uaS => k_is); (case ulS => k_is); (case ucS => k_is); (case ukS => k_is))
    (case dF => refine' ⟨?uaF, _, L2.fun_mk ?ulF ?ucF ?ukF⟩; (case uaF => k_is); (case ulF => k_is); (case ucF => k_is); (case ukF => k_is))
    (case dN => refine' ⟨?uaN, _, L2.fun_mk ?ulN ?ucN ?ukN⟩; (case uaN => k_is); (case ulN => k_is); (case ucN => k_is); (case ukN => k_is))
    (case dA => refine' ⟨?uaA, _, L2.fun_mk ?ulA ?ucA ?ukA⟩; (case uaA => k_is); (case ulA => k_is); (case ucA => k_is); (case ukA => k_is))
    (case dB => refine' ⟨?uaB, _, L2.fun_mk ?ulB ?ucB ?ukB⟩; (case uaB => k_is); (case ulB => k_is); (case ucB => k_is); (case ukB => k_is))
    (case dNg => refine' ⟨?uaNg, _, L2.fun_mk ?ulNg ?ucNg ?ukNg⟩; (case uaNg => k_is); (case ulNg => k_is); (case ucNg => k_is); (case ukNg => k_is))
    (case dBr => refine' ⟨?uaBr, _, L2.fun_mk ?ulBr ?ucBr ?ukBr⟩; (case uaBr => k_is); (case ulBr => k_is); (case ucBr => k_is); (case ukBr => k_is))
    (case dHf => refine' ⟨?uaHf, _, L2.fun_mk ?ulHf ?ucHf ?ukHf⟩; (case uaHf => k_is); (case ulHf => k_is); (case ucHf => k_is); (case ukHf => k_is))
    (case dMt => refine' ⟨?uaMt, _, L2.fun_mk ?ulMt ?ucMt ?ukMt⟩; (case uaMt => k_is); (case ulMt => k_is); (case ucMt => k_is); (case ukMt => k_is))
    (case dFo => refine' ⟨?uaFo, _, L2.fun_mk ?ulFo ?ucFo ?ukFo⟩; (case uaFo => k_is); (case ulFo => k_is); (case ucFo => k_is); (case ukFo => k_is))
    (case dWi => refine' ⟨?uaWi, _, L2.fun_mk ?ulWi ?ucWi ?ukWi⟩; (case uaWi => k_is); (case ulWi => k_is); (case ucWi => k_is); (case ukWi => k_is))
    (case dSh => refine' ⟨?uaSh, _, L2.fun_mk ?ulSh ?ucSh ?ukSh⟩; (case uaSh => k_is); (case ulSh => k_is); (case ucSh => k_is); (case ukSh => k_is))
    (case dId => refine' ⟨?uaId, _, L2.fun_mk ?ulId ?ucId ?ukId⟩; (case uaId => k_is); (case ulId => k_is); (case ucId => k_is); (case ukId => k_is))
    (case dZ => refine' ⟨?uaZ, _, L2.fun_mk ?ulZ ?ucZ ?ukZ⟩; (case uaZ => k_is); (case ulZ => k_is); (case ucZ => k_is); (case ukZ => k_is))
    (case di => refine' ⟨?uai, _, L2.fun_mk ?uli ?uci ?uki⟩; (case uai => k_is); (case uli => k_is); (case uci => k_is); (case uki => k_is))
    (case dn => refine' ⟨?uan, _, L2.fun_mk ?uln ?ucn ?ukn⟩; (case uan => k_is); (case uln => k_is); (case ucn => k_is); (case ukn => k_is))
    (case dl => refine' ⟨?ual, _, L2.fun_mk ?ull ?ucl ?ukl⟩; (case ual => k_is); (case ull => k_is); (case ucl => k_is); (case ukl => k_is))
    (case dp => refine' ⟨?uap, _, L2.fun_mk ?ulp ?ucp ?ukp⟩; (case uap => k_is); (case ulp => k_is); (case ucp => k_is); (case ukp => k_is))
    (case dv => refine' ⟨?uav, _, L2.fun_mk ?ulv ?ucv ?ukv⟩; (case uav => k_is); (case ulv => k_is); (case ucv => k_is); (case ukv => k_is))
    (case dt => refine' ⟨?uat, _, L2.fun_mk ?ult ?uct ?ukt⟩; (case uat => k_is); (case ult => k_is); (case uct => k_is); (case ukt => k_is))
    (case dw => refine' ⟨?uaw, _, L2.fun_mk ?ulw ?ucw ?ukw⟩; (case uaw => k_is); (case ulw => k_is); (case ucw => k_is); (case ukw => k_is))
    (case dc => refine' ⟨?uac, _, L2.fun_mk ?ulc ?ucc ?ukc⟩; (case uac => k_is); (case ulc => k_is); (case ucc => k_is); (case ukc => k_is))
    (case dk => refine' ⟨?uak, _, L2.fun_mk ?ulk ?uck ?ukk⟩; (case uak => k_is); (case ulk => k_is); (case uck => k_is); (case ukk => k_is))
    (case ds => refine' ⟨?uas, _, L2.fun_mk ?uls ?ucs ?uks⟩; (case uas => k_is); (case uls => k_is); (case ucs => k_is); (case uks => k_is))
    (case du => refine' ⟨?uau, _, L2.fun_mk ?ulu ?ucu ?uku⟩; (case uau => k_is); (case ulu => k_is); (case ucu => k_is); (case uku => k_is))
    (case dbe => refine' ⟨?uabe, _, L2.fun_mk ?ulbe ?ucbe ?ukbe⟩; (case uabe => k_is); (case ulbe => k_is); (case ucbe => k_is); (case ukbe => k_is))
    (case dcs => refine' ⟨?uacs, _, L2.fun_mk ?ulcs ?uccs ?ukcs⟩; (case uacs => k_is); (case ulcs => k_is); (case uccs => k_is); (case ukcs => k_is))
    (case dsc => refine' ⟨?uasc, _, L2.fun_mk ?ulsc ?ucsc ?uksc⟩; (case uasc => k_is); (case ulsc => k_is); (case ucsc => k_is); (case uksc => k_is))
    (case drm => refine' ⟨?uarm, _, L2.fun_mk ?ulrm ?ucrm ?ukrm⟩; (case uarm => k_is); (case ulrm => k_is); (case ucrm => k_is); (case ukrm => k_is))
    (case dic => refine' ⟨?uaic, _, L2.fun_mk ?ulic ?ucic ?ukic⟩; (case uaic => k_is); (case ulic => k_is); (case ucic => k_is); (case ukic => k_is))
    (case dih => refine' ⟨?uaih, _, L2.fun_mk ?ulih ?ucih ?ukih⟩; (case uaih => k_is); (case ulih => k_is); (case ucih => k_is); (case ukih => k_is))
    (case aC => k_is); (case aN => k_is)
    (case lN => refine' ⟨_, EV.funE_mk ?xlN ?xcN ?xkN ?xTN ?xdN ?xAN ?xbN ?xeN⟩; (case xlN => k_is); (case xcN => k_is); (case xkN => k_is); (case xTN => k_is); (case xdN => exact rfl); (case xAN => k_is); (case xbN => exact rfl); (case xeN => exact rfl))
    (case i0 => k_is)
    (case l0 => refine' ⟨_, L2.fun_mk ?vl0 ?vc0 ?vk0⟩; (case vl0 => k_is); (case vc0 => k_is); (case vk0 => k_is))
    (case i1 => k_is)
    (case l1 => refine' ⟨_, L2.fun_mk ?vl1 ?vc1 ?vk1⟩; (case vl1 => k_is); (case vc1 => k_is); (case vk1 => k_is))
    (case i2 => k_is)
    (case l2 => refine' ⟨_, L2.fun_mk ?vl2 ?vc2 ?vk2⟩; (case vl2 => k_is); (case vc2 => k_is); (case vk2 => k_is))
    (case fr => kernel_rfl)
    (case n0 => kernel_rfl)
    (case n1 => kernel_rfl)
    (case n2 => kernel_rfl)
    (case cC => kernel_rfl)
    (case cM => kernel_rfl)
