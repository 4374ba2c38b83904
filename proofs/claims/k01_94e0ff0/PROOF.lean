import PyProof.Rows.All
import Wide.All
import OpenK.AllK
import Wide.FinOn
import HandS.ForMost
import HandS.ForExc
import HandS.ExcInit
import HandS.ExcIs
import HandS.ExcField
import HandS.IsInst
import HandS.Defaults
import HandS.HeadEnd
import KE.KStateDown
import HandS.MakeKw
import HandS.WideBits
import HandS.Head0
import HandS.Head1
import HandS.Head2
import HandS.HeadHook1
import HandS.HeadHook2
import HandS.ExcValue
import HandS.Style
import PySem.Challenge.RW_gatequarters_k01_errors_made
set_option Elab.async false
set_option linter.all false
set_option maxRecDepth 100000
set_option maxHeartbeats 4000000
/-! Own rules: an own exception class with an own __init__, called with positional values and keywords, its object kept as a value. -/
namespace PySem
namespace Xv
open PySem.W PySem.Calls PyProof.Rows PySem.HandSPX
section
variable {M : Model} {A : Around} {E : Value → Shared → Prop} {hp : Heap} {gs : Array GenState} {dr : Drawn} {tk : Nat} {os : OsState}
variable {nm q : Str} {C N : Addr} {bs bm bmB : List Value} {hdct : Bool} {sn : List Str} {sub : List Value} {ab : Bool} {col : Option Bool} {dd : Option Addr} {k0 k1 k2 k3 k5 : Option Value} {B nI iI : String}
theorem kw_check (F : ExcBaseFacts B nI iI bmB) (hT : ∀ T : String, bm.contains (.type T) = bmB.contains (.type T)) {rest : List Value} {kw : List (Str × Value)} {Q : Unit → Shared → Prop}
    (hC : hp.get? C = some (excClassObj nm q C N bs bm hdct sn sub ab col dd k0 k1 k2 k3 k5 nI)) (z : Q () ⟨hp, gs, dr, tk, os⟩) : wpAny M A (checkBuiltinCall nI ⟨.ref C :: rest, kw⟩) Q E ⟨hp, gs, dr, tk, os⟩ := by
  have c1 : (Value.ref C :: bm).contains (.type B) = true := by rw [List.contains_cons, hT, F.hasB, Bool.or_true]
  have c2 := F.noStar
  simp only [checkBuiltinCall, F.newKind, F.newSplit, F.newRow]
  repeat (first
    | refine wpAny_loadPart_at hC ?_
    | (refine wpAny_isSubtype_exc hC ?_; rw [c1])
    | refine wpAny_staticBase_exc hC ?_
    | refine wpAny_madeBy_exc hC ?_
    | simp only [bne_self_eq_false, Bool.false_eq_true, if_false]
    | wp_step)
  exact z
theorem kw_tcheck {rest : List Value} {kw : List (Str × Value)} {Q : Unit → Shared → Prop} (hC : hp.get? C = some (excClassObj nm q C N bs bm hdct sn sub ab col dd k0 k1 k2 k3 k5 nI))
    (z : Q () ⟨hp, gs, dr, tk, os⟩) : wpAny M A (checkBuiltinCall "type.__call__" ⟨.ref C :: rest, kw⟩) Q E ⟨hp, gs, dr, tk, os⟩ := by
  have f3 := tc_sub
  have hTy : (⟨hp, gs, dr, tk, os⟩ : Shared).TypeIs (.ref C) "type" := ⟨_, hC, rfl⟩
  simp only [checkBuiltinCall, tc_kind, tc_split]
  repeat (any_goals (first
    | assumption
    | with_reducible refine wpAny_loadPart_at hC ?_
    | with_reducible refine wpAny_onRaise ?_
    | with_reducible refine wpAny_map ?_
    | wp_step))
end
section
variable {prog : Program} {w : World} {A : Around} {E : Value → Shared → Prop} {R : Result → Shared → Prop} {hp : Heap} {gs : Array GenState} {dr : Drawn} {tk : Nat} {os : OsState}
variable {nm q : Str} {C N : Addr} {bs bm bmB : List Value} {hdct : Bool} {sn : List Str} {sub : List Value} {ab : Bool} {col : Option Bool} {dd : Option Addr} {k0 k1 k2 k3 k5 : Option Value} {B nI iI : String}
/-- the new object, whatever the keywords -/
theorem kw_new (F : ExcBaseFacts B nI iI bmB) (hT : ∀ T : String, bm.contains (.type T) = bmB.contains (.type T)) {rest : List Value} {kw : List (Str × Value)}
    (hC : hp.get? C = some (excClassObj nm q C N bs bm hdct sn sub ab col dd k0 k1 k2 k3 k5 nI)) (hl : rest.length ≤ sizeLine)
    (z : R (.ok (.ret (.ref (hp.objs.size + 1)))) ⟨(hp.push (W.kdv_tup rest)).push (excO C hp.objs.size), gs, dr, tk, os⟩) :
    codeAny (model prog w) A (.builtin nI ⟨.ref C :: rest, kw⟩) R ⟨hp, gs, dr, tk, os⟩ := by
  have e0 := F.ends
  have c1 : (Value.ref C :: bm).contains (.type B) = true := by rw [List.contains_cons, hT, F.hasB, Bool.or_true]
  have c2 : (Value.ref C :: bm).contains (.type "AttributeError") = false := by rw [List.contains_cons, hT, F.noAttr]; rfl
  have c3 : (Value.ref C :: bm).contains (.type "NameError") = false := by rw [List.contains_cons, hT, F.noName]; rfl
  refine codeAny_builtinAt F.entry ?_
  unfold Builtin.«BaseException.__new__»
  refine wpAt_bind ?_
  show wpAt _ _ _ (stack >>= _) _ _ _
  refine wpAt_bind (wpAt_stack fun p below => wpAt_of_wpAny ?_)
  wp_walk
  refine wpAt_of_wpAny ?_
  rw [F.owner]
  repeat (first
    | with_reducible refine wpAny_madeHere_exc F.canon hC ?_
    | with_reducible refine wpAny_loadPart_at hC ?_
    | (with_reducible refine wpAny_isSubtype_exc hC ?_; first | rw [c1] | rw [c2] | rw [c3])
    | wp_step)
  show R _ _
  rw [Heap.size_push]
  exact z
theorem kw_type (F : ExcBaseFacts B nI iI bmB) (hT : ∀ T : String, bm.contains (.type T) = bmB.contains (.type T)) {rest : List Value} {kw : List (Str × Value)} {fI : Addr} {Q : Fin → Shared → Prop}
    (hC : hp.get? C = some (excClassObj nm q C N bs bm hdct sn sub ab col dd k0 k1 k2 k3 k5 nI)) (hl : rest.length ≤ sizeLine)
    (li : W.Looks (model prog w) hp (typeLookup (.ref C) "__init__") (some (.ref fI))) (lb : ∀ x, W.Looks (model prog w) hp (bindSpecial (.ref fI) x) (.ref fI, [x]))
    (z : codeAny (model prog w) A (.call (.ref fI) ⟨.ref (hp.objs.size + 1) :: rest, kw⟩)
      (fun r s' => match r with | .ok (.ret v) => v = .none ∧ Q (.done (.ret (.ref (hp.objs.size + 1)))) s' | .ok _ => False | .error e => E e s')
      ⟨(hp.push (W.kdv_tup rest)).push (excO C hp.objs.size), gs, dr, tk, os⟩) :
    wpAny (model prog w) A (Builtin.«type.__call__» ⟨.ref C :: rest, kw⟩) Q E ⟨hp, gs, dr, tk, os⟩ := by
  repeat (first
    | with_reducible refine wpAny_loadPart_at hC ?_
    | with_reducible refine wpAny_madeBy_exc hC ?_
    | wp_step)
  refine codeAny_call_builtin_code (Code.quiet_builtin _ F.quiet) (kw_check F hT hC (kw_new F hT hC hl ?_))
  show wpAny _ _ _ _ _ _
  have kk : ∀ b o, hp.get? b = some o → ((hp.push (W.kdv_tup rest)).push (excO C hp.objs.size)).get? b = some o := fun b o e => Heap.get?_push_of_some _ (Heap.get?_push_of_some _ e)
  have hC2 := kk _ _ hC
  have hG : ((hp.push (W.kdv_tup rest)).push (excO C hp.objs.size)).get? (hp.objs.size + 1) = some (excO C hp.objs.size) := by heap_get
  have c4 : (Value.ref C :: bm).contains (.ref C) = true := by simp
  have li2 := li.keeps kk
  have lb2 := (lb (.ref (hp.objs.size + 1))).keeps kk
  unfold isInstance
  repeat (first
    | with_reducible refine wpAny_loadPart_at hG ?_
    | (with_reducible refine wpAny_isSubtype_exc hC2 ?_; rw [c4])
    | wp_step)
  show wpAny _ _ (typeLookup (.ref C) _) _ _ _
  refine li2.at (wpAny_holding (wpAny_bind (lb2.at (wpAny_bind (wpAny_call (codeAny_mono z fun r s' y => ?_))))))
  rcases r with e | (v | _ | _ | _) <;> first | exact y | exact y.elim | skip
  obtain ⟨rfl, y⟩ := y
  first
    | exact wpAny_pure (wpAny_pure y)
    | (wp_walk; exact y)
theorem kw_call (F : ExcBaseFacts B nI iI bmB) (hT : ∀ T : String, bm.contains (.type T) = bmB.contains (.type T)) {rest : List Value} {kw : List (Str × Value)} {fI : Addr}
    (hC : hp.get? C = some (excClassObj nm q C N bs bm hdct sn sub ab col dd k0 k1 k2 k3 k5 nI)) (hl : rest.length ≤ sizeLine)
    (li : W.Looks (model prog w) hp (typeLookup (.ref C) "__init__") (some (.ref fI))) (lb : ∀ x, W.Looks (model prog w) hp (bindSpecial (.ref fI) x) (.ref fI, [x]))
    (z : codeAny (model prog w) (A.under (.builtin "type.__call__" ⟨.ref C :: rest, kw⟩)) (.call (.ref fI) ⟨.ref (hp.objs.size + 1) :: rest, kw⟩) (W.InitBack (hp.objs.size + 1) R)
      ⟨(hp.push (W.kdv_tup rest)).push (excO C hp.objs.size), gs, dr, tk, os⟩) :
    codeAny (model prog w) A (.call (.ref C) ⟨rest, kw⟩) R ⟨hp, gs, dr, tk, os⟩ := by
  have f1 := tc_lookup
  have f2 := tc_bind (.ref C)
  have hTy : (⟨hp, gs, dr, tk, os⟩ : Shared).TypeIs (.ref C) "type" := ⟨_, hC, rfl⟩
  refine codeAny_of_tree ?_
  show wpAny _ _ (callAny (.ref C) _) _ _ _
  repeat (any_goals (first
    | assumption
    | with_reducible refine wpAny_loadPart_at hC ?_
    | wp_step))
  refine ⟨rfl, ?_⟩
  refine codeAny_call_builtin_at (Code.quiet_builtin _ (by decide +kernel)) entry_typeCall ?_
  refine kw_tcheck hC (kw_type F hT hC hl li lb (codeAny_mono z fun r s' y => ?_))
  rcases r with e | (v | _ | _ | _) <;> exact y
end
end Xv
end PySem
set_option Elab.async false
set_option linter.all false
set_option maxRecDepth 100000
set_option maxHeartbeats 4000000
namespace PySem.Xv
open PySem PySem.W PySem.Spec PySem.Calls PyProof.Rows
section
variable {prog : Program} {w : World} {A : Around} {E : Value → Shared → Prop} {s : Shared} {K : Frag} {x D : Addr} {ox : Obj} {od : Option Obj}
/-- x.__class__ of an exception of the class at D, its dict made or not -/
theorem cls_of {Q : Option Value → Shared → Prop} (g1 : findIn K (.ref D) "__getattribute__" = some (some (.builtin "BaseException.__getattribute__"))) (g2 : findIn K (.ref D) "__getattr__" = some none)
    (g3 : subIn K (.ref D) (.type "BaseException") = some true) (g4 : hasDictIn K D = true) (g5 : findIn K (.ref D) "__class__" = some (some (.builtin "object.__class__")))
    (g6 : specialIn K (.builtin "object.__class__") "__get__" = some (some (.builtin "getset_descriptor.__get__"))) (g7 : takesIn K (.builtin "object.__class__") = some true) (g8 : mroIn K D (.type "object") = some true)
    (X : K.In s.heap) (I : InstAt s.heap x ox D od) (z : Q (some (.ref D)) { s with toks := s.toks + 1 }) : wpAny (model prog w) A (getAttr? (.ref x) "__class__") Q E s := by
  have ff : findObj K D od "__class__" = some (.bind (.builtin "getset_descriptor.__get__") (.builtin "object.__class__")) := by
    obtain ⟨cd, hc, _⟩ := any_some g4
    unfold findObj
    rw [hc, Option.bind_some, g5, Option.bind_some]
    simp [g6, g7]
  obtain ⟨hp, gs, dr, tk, os⟩ := s
  have l0 := I.type (M := model prog w)
  have l1 := looks_findIn (M := model prog w) X g1
  have l2 := looks_findIn (M := model prog w) X g2
  have l3 := looks_find (M := model prog w) X I ff
  have lb : Looks (model prog w) hp (isInstance (.ref x) (.type "BaseException")) true := l0.andThen (looks_subIn X g3)
  have n0 : (false && onTheHeap (Value.builtin "BaseException.__getattribute__")) = false := rfl
  have n2 : (Value.builtin "BaseException.__getattribute__" == Value.builtin "object.__getattribute__") = false := by decide +kernel
  have n1 : (onTheHeap (Value.ref D) && Value.builtin "BaseException.__getattribute__" == Value.builtin "object.__getattribute__") = false := by
    rw [n2]
    rfl
  unfold getAttr? getAttrBy? getAttrBy
  refine wpAny_bind (wpAny_mkText (wpAny_bind (wpAny_attempt (wpAny_holding (wpAny_bind (l0.at (wpAny_bind (l1.at ?_))))))))
  show wpAny _ _ (if (onTheHeap (Value.ref D) && Value.builtin "BaseException.__getattribute__" == Value.builtin "object.__getattribute__") = true then _ else _) _ _ _
  rw [n1, if_neg Bool.false_ne_true]
  unfold getAttrByItsOwn hookBefore
  refine wpAny_bind ?_
  rw [if_pos (show onTheHeap (Value.ref D) = true from rfl)]
  refine l2.at (wpAny_bind (wpAny_attempt (wpAny_holding ?_)))
  unfold callGetattribute
  rw [n0, if_neg Bool.false_ne_true]
  unfold boundAndCalled
  rw [PySem.F.excAttr_ValueError.ga.bind (.ref x)]
  refine wpAny_bind (wpAny_pure ?_)
  show wpAny _ _ (call (.builtin "BaseException.__getattribute__") [.ref x, .str "__class__" tk]) _ _ _
  refine wpAny_call (codeAny_call_builtin PySem.F.excAttr_ValueError.ga.plain PySem.F.entry_bexc_ga ?_)
  refine @check_slot (model prog w) _ _ ⟨hp, gs, dr, tk + 1, os⟩ "BaseException.__getattribute__" "BaseException" "__getattribute__" (.ref x) [.str "__class__" tk] [] _ (by decide +kernel) (by decide +kernel) lb (PySem.F.args_bexc_ga (.ref x) (.str "__class__" tk)) ?_
  unfold Builtin.«object.__getattribute__»
  refine wpAny_bind (wpAny_of_eq (a := ((Value.ref x : Value), [Value.str "__class__" tk])) (by first | rfl | (simp only [slotArgs]; rfl)) ?_)
  refine wpAny_bind (wpAny_pure (wpAny_bind (l0.at (wpAny_bind (l3.at ?_)))))
  show wpAny _ _ (holding [Value.builtin "object.__class__"] (call (.builtin "getset_descriptor.__get__") [.builtin "object.__class__", .ref x, .ref D]) >>= ret) _ _ _
  refine wpAny_bind (wpAny_holding (wpAny_call (class_get (s := ⟨hp, gs, dr, tk + 1, os⟩) (ox := ox) (od := od) X I g8 (wpAny_pure ?_))))
  show wpAny _ _ (handedOut (.ref D)) _ _ _
  rw [handedOut_of (v := .ref D) rfl]
  first
    | exact wpAny_pure (wpAny_pure z)
    | exact wpAny_pure z
    | exact wpAny_pure (wpAny_bind (wpAny_pure (wpAny_pure z)))
/-- isinstance asks such an object by its class -/
theorem kit_of_exc (C : L2.ExcC K D) : KitX K (.ref x) (.ref D) (fun h => ∃ ox od, InstAt h x ox D od) where
  ty := fun _ _ _ ⟨_, _, I⟩ => I.type
  it := fun _ _ X _ => by
    obtain ⟨cd, hc, _⟩ := any_some C.hd
    unfold clsIn at hc
    split at hc
    · rename_i _ _ _ _ ho
      intro _ _ _ _ k q
      unfold isType loadHead
      exact wpAny_bind (wpAny_loadPart (k _ _ (X _ _ ho)) (wpAny_pure q))
    · cases hc
  ne := fun _ tp _ _ _ _ X ht => by
    obtain ⟨cd, hc, _⟩ := any_some C.hd
    unfold clsIn at hc
    split at hc
    · rename_i _ _ _ _ ho
      cases e : (Value.ref D == Value.ref tp) with
      | false => rfl
      | true =>
        cases Value.ref.inj (beq_iff_eq.mp e)
        cases (X _ _ ho).symm.trans ht
    · cases hc
  ca := fun X ⟨_, _, I⟩ k => cls_of C.hg C.hk C.hs C.hd C.ha C.hn C.ht C.hm X I k
end
end PySem.Xv
namespace L2
open PySem PySem.Spec PyProof.Rows
/-- at a an exception of the class at C whose one field is v -/
def ExV (C a : Addr) (v : V) (H : Hp) : Prop := ∃ d : Addr, H a = some (exo a C (some d)) ∧ H d = some (exd d [("value", v)])
/-- the promise of such a class's own __init__ -/
def spXI (K : PySem.W.Frag) : Sp := fun vs H Q _ => ∃ (a C : Addr) (v : V), vs = [.ref a, v] ∧ H a = some (exo a C none) ∧ OexC K C ∧ PySem.W.findIn K (.ref C) "value" = some none ∧
  ∀ d, H d = none → d ≠ a → Q .non (upd (upd H d (exd d [("value", v)])) a (exo a C (some d)))
/-- what the written part holds of such a class: its __init__ at fI -/
structure XvC (K : PySem.W.Frag) (C fI : Addr) : Prop where
  oex : OexC K C
  init : PySem.W.findIn K (.ref C) "__init__" = some (some (.ref fI))
  ty : PySem.W.typeIn K (.ref fI) = some (.type "function")
  noV : PySem.W.findIn K (.ref C) "value" = some none
def tNew (C : Addr) (v : V) (H : Hp) (Q : VK) : Prop := ∀ a d, H a = none → H d = none → d ≠ a → Q (.ref a) (upd (upd H d (exd d [("value", v)])) a (exo a C (some d)))
section
variable {X : Cx} {CX : CXT} {pins : List (Addr × Obj)} {σ : St} {H : Hp} {s : Shared} {C fI : Addr} {k : Nat} {fd : FuncData}
theorem run_xv {us : List Value} {kw : List (Str × Value)} {u : Value} {v : V} {Q : VK} (T : XvC X.K C fI) (G : FnOk X.prog X.w X.K X.mg X.base CX k fI fd ["self", "value"] (spXI X.K)) (hr : Room (k + 1) X.A) (hx : Passes CX X (fun _ _ _ => False))
    (I : Inv X pins σ H s) (hl : us.length ≤ sizeLine) (r : RelV v u) (hb : ∀ (s' : Shared) (a : Addr), X.K.In s'.heap → BindsTo s' fd ⟨.ref a :: us, kw⟩ [("self", .ref a), ("value", u)])
    (h : tNew C v H Q) : wpAny (model X.prog X.w) X.A (call (.ref C) us kw) (EP X pins σ Q) X.xe s := by
  obtain ⟨nm, q, N, bs, bm, sn, sub, ab, col, dd, k0, k1, k2, k3, k5, hC, hbm⟩ := T.oex.cls
  obtain ⟨hp, g, dr, tk, os⟩ := s
  have le : hp.objs.size ≤ hp.objs.size + 1 := Nat.le_succ _
  have na : H (hp.objs.size + 1) = none := I.hok.fresh le
  have kk : ∀ b o, hp.get? b = some o → ((hp.push (PySem.W.kdv_tup us)).push (PySem.HandSPX.excO C hp.objs.size)).get? b = some o := fun b o e => Heap.get?_push_of_some _ (Heap.get?_push_of_some _ e)
  have ga : ((hp.push (PySem.W.kdv_tup us)).push (PySem.HandSPX.excO C hp.objs.size)).get? (hp.objs.size + 1) = some (PySem.HandSPX.excO C hp.objs.size) := by heap_get
  have J : Inv X pins σ (upd H (hp.objs.size + 1) (exo (hp.objs.size + 1) C none)) ⟨(hp.push (PySem.W.kdv_tup us)).push (PySem.HandSPX.excO C hp.objs.size), g, dr, tk, os⟩ :=
    I.laid (t' := tk) (a := hp.objs.size + 1) (o := exo (hp.objs.size + 1) C none) (h' := (hp.push (PySem.W.kdv_tup us)).push (PySem.HandSPX.excO C hp.objs.size)) kk le (exo_ok ga)
  have sp : spXI X.K [V.ref (hp.objs.size + 1), v] (upd H (hp.objs.size + 1) (exo (hp.objs.size + 1) C none)) (fun z H2 => z = .non ∧ Q (.ref (hp.objs.size + 1)) H2) (fun _ _ _ => False) := by
    refine ⟨_, C, v, rfl, upd_same, T.oex, T.noV, fun d nd ne => ⟨rfl, ?_⟩⟩
    rw [upd_ne ne] at nd
    have q := h (hp.objs.size + 1) d na nd ne
    have e : upd (upd (upd H (hp.objs.size + 1) (exo (hp.objs.size + 1) C none)) d (exd d [("value", v)])) (hp.objs.size + 1) (exo (hp.objs.size + 1) C (some d)) = upd (upd H d (exd d [("value", v)])) (hp.objs.size + 1) (exo (hp.objs.size + 1) C (some d)) := by
      funext b
      by_cases e1 : b = hp.objs.size + 1
      · rw [e1, upd_same, upd_same]
      · rw [upd_ne e1, upd_ne e1]
        by_cases e2 : b = d
        · rw [e2, upd_same, upd_same]
        · rw [upd_ne e2, upd_ne e2, upd_ne e1]
    rw [e]
    exact q
  have r2 : Vals [V.ref (hp.objs.size + 1), v] [Value.ref (hp.objs.size + 1), u] := .cons rfl (.cons r .nil)
  refine wpAny_call (PySem.Xv.kw_call F.excBase_ValueError (fun Y => PySem.HandSPX.refsVE_contains Y bm hbm) (I.kIn _ _ hC) hl (PySem.W.looks_findIn I.kIn T.init) (fun x => PySem.W.bind_fn I.kIn x T.ty)
    (codeAny_mono (G.run _ X.stack _ _ ⟨Value.ref (hp.objs.size + 1) :: us, kw⟩ [Value.ref (hp.objs.size + 1), u] _ _ (fun _ _ _ => False) (hr.make C us kw) (J.env0.make C us kw) (hb _ _ J.kIn) r2 sp) fun r s' hq => ?_))
  cases r with
  | error er => exact hx pins σ _ _ er s' J hq
  | ok fl =>
    cases fl with
    | ret z =>
      obtain ⟨y, H', I3, ry, ey, q3⟩ := J.after hq
      subst ey
      exact ⟨ry, ⟨V.ref (hp.objs.size + 1), H', I3, rfl, q3⟩⟩
    | next => exact False.elim hq
    | brk => exact False.elim hq
    | cont => exact False.elim hq

variable {x : Str} {p pos kpos : Pos} {e : Expr} {te : TE}
/-- C(e) -/
theorem pe_xv1 (T : XvC X.K C fI) (G : FnOk X.prog X.w X.K X.mg X.base CX k fI fd ["self", "value"] (spXI X.K)) (hr : Room (k + 1) X.A) (hx : Passes CX X (fun _ _ _ => False)) (hg : Gl X x) (hm : X.mg x = some (.ref C))
    (hb : ∀ (s' : Shared) (a : Addr) (u : Value), X.K.In s'.heap → BindsTo s' fd ⟨[.ref a, u], []⟩ [("self", .ref a), ("value", u)])
    (he : PE X e te) (hs : starEach [e] X.env = (false, eval e X.env) :: starEach [] X.env := by rfl) (hdb : (x == ("__debug__" : Str)) = false := by decide) :
    PE X (.Call (.Name x p) [e] [] pos) (fun σ H Q => te σ H fun v H1 => tNew C v H1 Q) := by
  refine ⟨fun pins s σ H Q I h => ?_⟩
  refine wpAny_Call_Name_kw (ld_glob I hg hm ?_ hdb)
  refine PySem.W.callWith_K (h₀ := X.base) I.ok.mod.kin T.oex.kC ?_ hs (by rfl)
  rw [hs]
  show wpAny _ _ (spliced ((false, eval e X.env) :: backTo pos (starEach [] X.env))) _ _ s
  refine Calls.spliced_cons (thn (he.run pins s σ H _ I h) fun u s1 ⟨v, H1, I1, r1, q1⟩ => ?_)
  refine Calls.spliced_nil ⟨I1.kIn, ?_⟩
  exact run_xv (us := [u]) T G hr hx I1 (by show 1 ≤ sizeLine; rw [sizeLine_eq]; omega) r1 (fun s' a z => hb s' a u z) q1
/-- C() -/
theorem pe_xv0 (T : XvC X.K C fI) (G : FnOk X.prog X.w X.K X.mg X.base CX k fI fd ["self", "value"] (spXI X.K)) (hr : Room (k + 1) X.A) (hx : Passes CX X (fun _ _ _ => False)) (hg : Gl X x) (hm : X.mg x = some (.ref C))
    (hb : ∀ (s' : Shared) (a : Addr), X.K.In s'.heap → BindsTo s' fd ⟨[.ref a], []⟩ [("self", .ref a), ("value", .none)]) (hdb : (x == ("__debug__" : Str)) = false := by decide) :
    PE X (.Call (.Name x p) [] [] pos) (fun _ H Q => tNew C .non H Q) := by
  refine ⟨fun pins s σ H Q I h => ?_⟩
  refine wpAny_Call_Name_kw (ld_glob I hg hm ?_ hdb)
  exact PySem.W.callWith_K0 I.kIn T.oex.kC (run_xv (us := []) (u := .none) (v := .non) T G hr hx I (Nat.zero_le _) (show RelV .non Value.none from rfl) (fun s' a z => hb s' a z) h)
/-- C(value=e) -/
theorem pe_xvK (T : XvC X.K C fI) (G : FnOk X.prog X.w X.K X.mg X.base CX k fI fd ["self", "value"] (spXI X.K)) (hr : Room (k + 1) X.A) (hx : Passes CX X (fun _ _ _ => False)) (hg : Gl X x) (hm : X.mg x = some (.ref C))
    (hb : ∀ (s' : Shared) (a : Addr) (u : Value), X.K.In s'.heap → BindsTo s' fd ⟨[.ref a], [("value", u)]⟩ [("self", .ref a), ("value", u)])
    (he : PE X e te) (hdb : (x == ("__debug__" : Str)) = false := by decide) :
    PE X (.Call (.Name x p) [] [⟨some "value", e, kpos⟩] pos) (fun σ H Q => te σ H fun v H1 => tNew C v H1 Q) := by
  refine ⟨fun pins s σ H Q I h => ?_⟩
  refine wpAny_Call_Name_kw (ld_glob I hg hm ?_ hdb)
  refine PySem.W.callWith_KW0 (h₀ := X.base) I.ok.mod.kin T.oex.kC (by rfl) ?_ (by rfl)
  have hk : PK X [⟨some "value", e, kpos⟩] (tCons te tNil) := pk_cons he pk_nil
  refine thn (hk.run pos pins s σ H (fun vs H1 => match vs with | [v] => tNew C v H1 Q | _ => False) I h) fun ws s1 hh => ?_
  obtain ⟨vs, H1, I1, r1, q1⟩ := hh
  cases r1 with
  | nil => exact q1.elim
  | cons ru rn =>
    cases rn with
    | nil => exact ⟨I1.kIn, run_xv (us := []) T G hr hx I1 (Nat.zero_le _) ru (fun s' a z => hb s' a _ z) q1⟩
    | cons _ _ => exact q1.elim

/-- e.value -/
theorem pe_xvF {pv : Pos} (he : PE X e te) (hb : attributeBase e "value" X.env (eval e X.env) = eval e X.env := by rfl) :
    PE X (.Attribute e "value" pv) (fun σ H Q => te σ H fun x H1 => ∃ (a C : Addr) (v : V), x = .ref a ∧ XfC X.K C ∧ PySem.W.findIn X.K (.ref C) "value" = some none ∧ ExV C a v H1 ∧ Q v H1) := by
  refine ⟨fun pins s σ H Q I h => ?_⟩
  refine attr_of hb (thn (he.run pins s σ H _ I h) fun u s1 hh => ?_)
  obtain ⟨x, H1, I1, rx, a, C, v, rfl, T, hno, ⟨d, ea, ed⟩, q⟩ := hh
  obtain rfl : u = Value.ref a := rx
  obtain ⟨t1, ho⟩ := exo_at I1.hok ea
  obtain ⟨mA, hns, hr⟩ := exd_at I1.hok ed
  obtain ⟨od, hod, hl⟩ := lookIn_ns hns
  obtain ⟨u, hu, ru⟩ := RelO.some_of (v := v) (o := mA "value") (hr "value")
  exact HandSPX.exc_get I1.kIn (od := some od) ⟨ho, rfl, rfl, hod⟩ T.ga T.gg T.exC (PySem.W.findObj_own T.hdC hno rfl (by rw [hl, hu])) (handed_of ru) ⟨v, H1, I1.tok _, ru, q⟩
/-- isinstance(e, c) of such an object -/
def rIsX (K : PySem.W.Frag) : List V → Hp → VK → Prop := fun xs H Q => ∃ (a C : Addr) (v c : V) (cv : Value) (b : Bool), xs = [.ref a, c] ∧ ClsV c cv ∧ ExcC K C ∧ ExV C a v H ∧ PySem.W.kitOne K (.ref C) cv = some b ∧ Q (.bl b) H
theorem call_isX : CallR X (.builtin "isinstance") (rIsX X.K) := by
  intro pins s σ H xs us Q I r h
  obtain ⟨a, C, v, c, cv, b, rfl, kc, T, ⟨d, ea, ed⟩, e, q⟩ := h
  obtain ⟨u1, u2, rfl, r1, r2⟩ := vals2 r
  have e2 := kc.eq r2
  subst e2
  obtain rfl : u1 = Value.ref a := r1
  obtain ⟨t1, ho⟩ := exo_at I.hok ea
  obtain ⟨mA, hns, hr⟩ := exd_at I.hok ed
  obtain ⟨od, hod, hl⟩ := lookIn_ns hns
  exact PySem.W.kia_one (PySem.Xv.kit_of_exc T) I.kIn ⟨_, some od, ho, rfl, rfl, hod⟩ e (fun z => nomatch z) fun tk => ⟨.bl b, H, I.tok tk, rfl, q⟩
end
end L2
set_option Elab.async false
set_option linter.all false
set_option maxRecDepth 100000
set_option maxHeartbeats 4000000
/-! A def that asks repr of lists: its promise where no repr is under way. -/
namespace L2
open PySem PySem.Spec PyProof.Rows
/-- FnOk, for callers around whom no repr is under way -/
structure FnG (P : Program) (w : World) (K : PySem.W.Frag) (mg : Str → Option Value) (base : Heap) (k : Nat) (f : Addr) (fd : FuncData) (ps : List Str) (sp : Sp) : Prop where
  len : ∀ vs H Q E, sp vs H Q E → vs.length = ps.length
  go : ∀ (A : Around) (outer : List Env) (s : Shared) (H : Hp) (args : Args) (us : List Value) (vs : List V) (Q : VK) (E : XK), Room k A → A.guards = some [] →
    Env0 P w K mg base A outer s H → BindsTo s fd args (ps.zip us) → Vals vs us → sp vs H Q E → codeAny (model P w) A (.call (.ref f) args) (CR CX0 outer P w H s Q E) s
section
variable {P : Program} {w : World} {K : PySem.W.Frag} {mg : Str → Option Value} {base : Heap} {x qual : Str} {params : Arguments} {body : List Stmt} {scope : Scope} {dvs : List V} {kws : List (Str × V)} {f : Addr} {fd : FuncData}
theorem FunD.okG {N ps : List Str} {k : Nat} {sp : Sp} (F : FunD K x qual params body scope dvs kws f fd) (S : FnScope N ps scope) (len : ∀ vs H Q E, sp vs H Q E → vs.length = ps.length)
    (hb : ∀ (cdv : Value) (A : Around) (outer : List Env) (s : Shared) (H : Hp) (vs : List V) (Q : VK) (E : XK), A.guards = some [] → Room k (A.deeper (envOfC qual scope s.heap.objs.size f cdv)) → sp vs H Q E →
      ∃ t, PSs (cxOf CX0 P w K mg base N qual scope f cdv A outer s H E) body t ∧ t { nx := fun _ H' => Q .non H', rt := Q } (start N vs) H) : FnG P w K mg base (k + 1) f fd ps sp := by
  obtain ⟨oc, od, dV, kV, doc, pm, an, cdv, ct, osl, rfl, lk, hcd, _, _⟩ := F.ex
  refine ⟨len, fun A outer s H args us vs Q E hr hgd e0 hbd r hs => ?_⟩
  have hl := len _ _ _ _ hs
  have kx : K.In s.heap := e0.mod.kin.keeps fun b o e => (e0.bs b o e).1
  have lim : s.heap.NoLimit := e0.mod.nolimit.keeps fun b o e => (e0.bs b o e).1
  have kinds : ∀ y ∈ ps.zip us, scope.names.lookup y.1 = some .local ∨ (scope.names.lookup y.1 = some .cell ∧ ((cellsFrom (s.heap.objs.size + 1) scope.names []).lookup y.1).isSome = true) := fun y hy => by
    obtain ⟨n, v⟩ := y
    rcases S.par n (List.of_mem_zip hy).1 with q | q
    · exact Or.inl q
    · exact Or.inr ⟨q, PySem.W.cellsFrom_some _ _ _ (Or.inl q)⟩
  refine codeAny_call_function hr.depth (kx _ _ lk) rfl S.co S.gen rfl (PySem.W.codeRec_of kx hcd) (hbd _ _ _ _ (wpAny_newFunctionEnv_cells S.kind kinds fun env he s1 y => ?_))
  subst he
  refine ⟨lim.keeps y.toInCall.keep, codeAny_func ?_⟩
  obtain ⟨t, ht, hq⟩ := hb cdv A outer s H vs Q E hgd (hr.deeper _) hs
  have I : Inv (cxOf CX0 P w K mg base N qual scope f cdv A outer s H E) [] (start N vs) H s1 := inv_start S hr.hd e0 hl r y
  refine wpAny_mono (ht.run [] s1 (start N vs) H _ I hq) (fun fl s' z => ?_) fun _ _ z => z
  have fin : ∀ {σ' : St} {H' : Hp} {v : V} {u : Value}, Inv (cxOf CX0 P w K mg base N qual scope f cdv A outer s H E) [] σ' H' s' → RelV v u → Q v H' → CE outer P w H s Q u s' :=
    fun {σ' H' v u} J rv q => ⟨v, H', J.os, J.bare, J.base, J.hok, rv, q⟩
  cases fl with
  | ret u =>
    obtain ⟨v, σ', H', J, rv, q⟩ := z
    exact fin J rv q
  | next =>
    obtain ⟨σ', H', J, q⟩ := z
    exact fin (v := V.non) (u := Value.none) J rfl q
  | brk =>
    obtain ⟨_, _, _, q⟩ := z
    exact q.elim
  | cont =>
    obtain ⟨_, _, _, q⟩ := z
    exact q.elim
end
section
variable {X : Cx} {k : Nat} {f : Addr} {fd : FuncData} {ps : List Str} {sp : Sp} {x : Str} {p pos : Pos} {e : Expr} {es : List Expr} {t : TA}
/-- f(e, ..) of such a def, all parameters written -/
theorem pe_callG (F : FnG X.prog X.w X.K X.mg X.base k f fd ps sp) (hgd : X.A.guards = some []) (hr : Room k X.A) (hg : Gl X x) (hm : X.mg x = some (.ref f)) (hk : PySem.W.keepIn X.K (.ref f) = true) (hb : Binds X.K fd ps [])
    (ha : PA X (e :: es) t) (hdb : (x == ("__debug__" : Str)) = false := by decide) (he : starEach (e :: es) X.env = (false, eval e X.env) :: starEach es X.env := by rfl) (hpl : (backTo pos (starEach es X.env)).any (·.1) = false := by rfl) :
    PE X (.Call (.Name x p) (e :: es) [] pos) (fun σ H Q => t σ H fun vs H1 => sp vs H1 Q E0) := by
  refine ⟨fun pins s σ H Q I h => ?_⟩
  refine wpAny_Call_Name_kw (ld_glob I hg hm ?_ hdb)
  refine PySem.W.callWith_K (h₀ := X.base) I.ok.mod.kin hk (thn (ha.run pos pins s σ H _ I h) fun us s1 hh => ?_) he hpl
  obtain ⟨vs, H1, I1, r, q⟩ := hh
  refine ⟨I1.kIn, ?_⟩
  have hl : (us ++ ([] : List Value)).length = ps.length := by
    rw [List.append_nil, ← r.length]
    exact F.len _ _ _ _ q
  have hb2 := hb s1 us I1.kIn hl
  rw [List.append_nil] at hb2
  refine wpAny_call (codeAny_mono (F.go X.A X.stack s1 H1 ⟨us, []⟩ us vs Q E0 hr hgd I1.env0 hb2 r q) fun r s' z => ?_)
  cases r with
  | error e => exact z.elim
  | ok fl =>
    cases fl with
    | ret u => exact I1.after z
    | next => exact z.elim
    | brk => exact z.elim
    | cont => exact z.elim
end

/-- the law's own call, from its promise, no repr being under way -/
theorem enterG {P : Program} {w : World} {K : PySem.W.Frag} {mg mb : Str → Option Value} {k : Nat} {fa a : Addr} {fd : FuncData} {x : Str} {sp : Sp} {s₁ : Shared} {vs : List Value} {ns : List Int}
    (kx : K.In s₁.heap) (h1 : s₁.heap.Ns mainGlobals mg) (h2 : s₁.heap.Ns builtinsNs mb) (h3 : ∀ x : Str, x ≠ "__name__" → mb x = bootBuiltins x) (h4 : s₁.heap.NoLimit) (h5 : s₁.gens = #[])
    (ha : s₁.heap.get? a = some { cls := .type "list", data := .seq vs.toArray }) (hi : IntsAre vs ns) (hl : ns.length ≤ sizeLine) (hr : Room k callerA)
    (F : ∀ base : Heap, K.In base → base.Ns mainGlobals mg → FnG P w K mg base k fa fd [x] sp) (hbd : ∀ (s : Shared) (u : Value), BindsTo s fd ⟨[u], []⟩ [(x, u)])
    (hs : ∀ H : Hp, Only H → SqL K H a (ns.map V.int) → sp [.ref a] H (fun v _ => v = .bl true) fun _ _ _ => False) :
    codeAny (model P w) callerA (.call (.ref fa) ⟨[.ref a], []⟩) (fun r s' => r = .ok (.ret (.bool true)) ∧ OldK s₁.heap s'.heap ∧ s'.os = s₁.os ∧ AllBare s'.gens) s₁ := by
  have rv := vals_ints hi
  have lv := hi.length
  have main : ∀ H : Hp, Only H → SqL K H a (ns.map V.int) → HOk P w H s₁.heap → (∀ b, H b ≠ none → b = a) → (H a ≠ none → K.lookup a = none) →
      codeAny (model P w) callerA (.call (.ref fa) ⟨[.ref a], []⟩) (fun r s' => r = .ok (.ret (.bool true)) ∧ OldK s₁.heap s'.heap ∧ s'.os = s₁.os ∧ AllBare s'.gens) s₁ := by
    intro H o1 o2 ok o3 o4
    have isA : ∀ {b : Addr}, H b = none ∨ b = a := fun {b} => by
      cases q : H b with
      | none => exact Or.inl rfl
      | some u => exact Or.inr (o3 b (by rw [q]; simp))
    have dn : ∀ {b : Addr} {o : Obj} {es : Array DictEntry} {ep : Nat}, s₁.heap.get? b = some o → o.data = .dict es ep → H b = none := fun {b o es ep} e d => by
      rcases isA (b := b) with z | z
      · exact z
      · rw [z, ha] at e
        cases e
        cases d
    have nsOf : ∀ {b : Addr} {m : Str → Option Value}, s₁.heap.Ns b m → (hidT s₁.heap H).Ns b m := fun {b m} z => by
      obtain ⟨o, es, ep, e, d, r⟩ := z
      exact ⟨o, es, ep, hidT_get e (dn e d), d, r⟩
    have kb : K.In (hidT s₁.heap H) := fun b o e => hidT_get (kx b o e) (by
      cases q : H b with
      | none => rfl
      | some u =>
        have z := o3 b (by rw [q]; simp)
        have n := o4 (by rw [← z, q]; simp)
        rw [z, n] at e
        cases e)
    have md : Mod K mg (hidT s₁.heap H) := ⟨kb, nsOf h1, ⟨mb, nsOf h2, h3⟩, h4.elim fun mc z => ⟨mc, nsOf z.1, z.2⟩⟩
    have e0 : Env0 P w K mg (hidT s₁.heap H) callerA [] s₁ H := ⟨rfl, md, fun b o e => of_hidT e, Nat.le_of_eq (hidT_size _ _), trivial, fun b z => absurd (show b ∈ ([] : List Addr) from z) (by simp), ok, .of_eq h5⟩
    refine codeAny_mono ((F _ kb (nsOf h1)).go callerA [] s₁ H ⟨[.ref a], []⟩ [.ref a] [.ref a] _ _ hr rfl e0 (hbd s₁ (.ref a)) (.cons rfl .nil) (hs H o1 o2)) fun r s' z => ?_
    cases r with
    | error e => exact z.elim
    | ok fl =>
      cases fl with
      | next => exact z.elim
      | brk => exact z.elim
      | cont => exact z.elim
      | ret u =>
        obtain ⟨v, H', os, bare, un, ok', r', q⟩ := z
        have q' : v = .bl true := q
        subst q'
        obtain rfl : u = Value.bool true := r'
        refine ⟨rfl, OldK.of_keep fun b o e => ?_, os, bare⟩
        rcases o1 b with n | ⟨ob, xs, n⟩
        · exact un.keep b o e n (fun z => absurd (show b ∈ ([] : List Addr) from z) (by simp)) (by simp)
        · have e1 := (ok b _ n).1
          have e2 := (ok' b _ (un.frzs b ob _ n)).1
          rw [e] at e1
          cases e1
          exact e2
  cases hk : K.lookup a with
  | some o =>
    have e := kx a o hk
    rw [ha] at e
    cases e
    exact main (fun _ => none) (fun _ => Or.inl rfl) (Or.inr ⟨_, vs.toArray, _, hk, rfl, rfl, rfl, by rw [List.size_toArray, lv]; exact hl, by simpa using rv⟩)
      (fun b u z => absurd (show (none : Option HO) = some u from z) (by simp)) (fun b z => absurd rfl z) (fun z => absurd rfl z)
  | none =>
    refine main (fun b => if b = a then some (.frz { cls := .type "list", data := .seq vs.toArray } (.lst (ns.map V.int))) else none) (fun b => ?_) (Or.inl (Or.inr ⟨_, if_pos rfl⟩)) (fun b u z => ?_) (fun b z => ?_) (fun _ => hk)
    · by_cases e : b = a
      · exact Or.inr ⟨_, _, if_pos e⟩
      · exact Or.inl (if_neg e)
    · by_cases e : b = a
      · have z2 := (if_pos e).symm.trans z
        cases z2
        subst e
        exact ⟨ha, by rw [List.length_map]; exact hl, vs, _, rv, ha⟩
      · have z2 := (if_neg e).symm.trans z
        cases z2
    · by_cases e : b = a
      · exact e
      · exact absurd (if_neg e) z
/-- the law's end over a head by facts, no repr being under way -/
theorem walk_G {l : PySem.W.OpenLaw} {n k : Nat} {q : Program} {loose : List Str} {XP : (Str → Option Value) → Heap → Prop} {YP : World → Heap → Prop} {d : DefRec} {x : Str}
    (hn : l.most = some n) (hz : n ≤ sizeLine) (hdf : d.params.defaults = []) (hr : Room k callerA)
    (F : ∀ (w : World) (mg : Str → Option Value) (fa : Addr) (h : Heap), YP w h → h.Ns mainGlobals mg → mg d.name = some (.ref fa) →
      ∃ (K : PySem.W.Frag) (fd : FuncData) (sp : Sp), K.In h ∧ (∀ (s : Shared) (u : Value), BindsTo s fd ⟨[u], []⟩ [(x, u)]) ∧
        (∀ (H : Hp) (a : Addr) (ns : List Int), ns.length ≤ n → Only H → SqL K H a (ns.map V.int) → sp [.ref a] H (fun v _ => v = .bl true) fun _ _ _ => False) ∧
        ∀ base : Heap, K.In base → base.Ns mainGlobals mg → FnG l.prog w K mg base k fa fd [x] sp) :
    PySem.W.WalkO q loose XP YP l.row.toRowW d [] (fun f vs => PySem.call f vs) := by
  refine Att.attach_call hn hdf fun w s₀ s₁ mg mb fa o pm cd doc a vs ns G Y ho hd hcd hmg hobj hints hlen hg => ?_
  obtain ⟨K, fd, sp, kx, hb, hsp, hF⟩ := F w mg fa _ Y G.T.g hmg
  exact enterG kx G.T.g G.T.b G.T.builtins G.T.nolimit hg hobj hints (Nat.le_trans hlen hz) hr hF hb (fun H hO hS => hsp H a ns hlen hO hS)
end L2
set_option Elab.async false
set_option linter.all false
set_option maxRecDepth 100000
set_option maxHeartbeats 4000000
/-! repr of data: lists, tuples, dicts by texts and ints. -/
namespace L2
open PySem PySem.Spec PyProof.Rows
def keyD : Key → PyData
  | .inl i => .int i
  | .inr x => .str x
mutual
/-- what a value is as data -/
inductive Da (H : Hp) : V → PyData → Prop
  | non : Da H .non .none
  | bl (b : Bool) : Da H (.bl b) (.bool b)
  | int (i : Int) : Da H (.int i) (.int i)
  | str (x : Str) : Da H (.str x) (.str x)
  | lst {a : Addr} {xs : List V} {ds : List PyData} : H a = some (.lst xs) → DaAll H xs ds → Da H (.ref a) (.list ds)
  | tup {a : Addr} {xs : List V} {ds : List PyData} : H a = some (.tup xs) → DaAll H xs ds → Da H (.ref a) (.tuple ds)
  | dct {a : Addr} {kvs : List (Key × V)} {ds : List PyData} : H a = some (.dK kvs) → DaAll H (kvs.map (·.2)) ds → Da H (.ref a) (.dict ((kvs.map fun p => keyD p.1).zip ds))
inductive DaAll (H : Hp) : List V → List PyData → Prop
  | nil : DaAll H [] []
  | cons {v : V} {vs : List V} {d : PyData} {ds : List PyData} : Da H v d → DaAll H vs ds → DaAll H (v :: vs) (d :: ds)
end
theorem DaAll.length {H : Hp} : ∀ {vs : List V} {ds : List PyData}, DaAll H vs ds → vs.length = ds.length
  | _, _, .nil => rfl
  | _, _, .cons _ h => congrArg Nat.succ h.length
/-- data stays data where what is tracked stays -/
theorem da_same {H H' : Hp} (S : ∀ b o, H b = some o → H' b = some o) {v : V} {d : PyData} (h : Da H v d) : Da H' v d := by
  refine h.rec (motive_1 := fun v d _ => Da H' v d) (motive_2 := fun vs ds _ => DaAll H' vs ds) .non .bl .int .str ?_ ?_ ?_ .nil ?_
  · intro a xs ds e _ ih
    exact .lst (S _ _ e) ih
  · intro a xs ds e _ ih
    exact .tup (S _ _ e) ih
  · intro a kvs ds e _ ih
    exact .dct (S _ _ e) ih
  · intro v vs d ds _ _ i1 i2
    exact .cons i1 i2
section
variable {X : Cx} {pins : List (Addr × Obj)} {σ : St} {H : Hp} {s : Shared}
theorem keys_read {P : Program} {w : World} {h : Heap} : ∀ {es : List DictEntry} {kvs : List (Key × Value)}, Pairs (mixKind P w) es kvs → ∃ as : List Addr, as = [] ∧ ReadsAll h (es.map (·.key)) (kvs.map fun p => keyD p.1) as
  | _, _, .nil => ⟨[], rfl, ReadsAll.nil⟩
  | _, _, .cons (e := e) (kv := kv) hk _ t => by
    obtain ⟨as, e1, r⟩ := keys_read (h := h) t
    subst e1
    have hk' : keyIs kv.1 e.key = true := hk
    have r1 : Reads h e.key (keyD kv.1) [] := by
      rcases keyIs_shape hk' with ⟨i, t, e1, e2⟩ | ⟨x, t, e1, e2⟩
      · rw [e1, e2]
        exact Reads.int i t
      · rw [e1, e2]
        exact Reads.str x t
    exact ⟨[], rfl, ReadsAll.cons r1 r⟩
theorem vals_read {P : Program} {w : World} : ∀ {es : List DictEntry} {kvs : List (Key × Value)}, Pairs (mixKind P w) es kvs → es.map (·.val) = kvs.map (·.2)
  | _, _, .nil => rfl
  | _, _, .cons _ hv t => by
    rw [List.map_cons, List.map_cons, hv, vals_read t]
theorem kv_vals : ∀ {kvs : List (Key × V)} {vs : List (Key × Value)}, KV kvs vs → Vals (kvs.map (·.2)) (vs.map (·.2)) ∧ (kvs.map fun p => keyD p.1) = vs.map fun p => keyD p.1
  | _, _, .nil => ⟨.nil, rfl⟩
  | _, _, .cons h t => by
    obtain ⟨i1, i2⟩ := kv_vals (show KV _ _ from t)
    exact ⟨.cons h.2 i1, by rw [List.map_cons, List.map_cons, i2, h.1]⟩
theorem zip_fst : ∀ {ks ds : List PyData}, ks.length = ds.length → (ks.zip ds).map (·.1) = ks
  | [], [], _ => rfl
  | k :: ks, d :: ds, h => by
    rw [List.zip_cons_cons, List.map_cons, zip_fst (Nat.succ.inj h)]
theorem zip_snd : ∀ {ks ds : List PyData}, ks.length = ds.length → (ks.zip ds).map (·.2) = ds
  | [], [], _ => rfl
  | k :: ks, d :: ds, h => by
    rw [List.zip_cons_cons, List.map_cons, zip_snd (Nat.succ.inj h)]
/-- what is data is read as such; the lists and dicts on the way are tracked -/
theorem da_reads (I : Inv X pins σ H s) {v : V} {d : PyData} (h : Da H v d) : ∀ u, RelV v u → ∃ as, Reads s.heap u d as ∧ ∀ b ∈ as, ∃ o, H b = some o := by
  refine h.rec (motive_1 := fun v d _ => ∀ u, RelV v u → ∃ as, Reads s.heap u d as ∧ ∀ b ∈ as, ∃ o, H b = some o) (motive_2 := fun vs ds _ => ∀ us, Vals vs us → ∃ as, ReadsAll s.heap us ds as ∧ ∀ b ∈ as, ∃ o, H b = some o) ?_ ?_ ?_ ?_ ?_ ?_ ?_ ?_ ?_
  · intro u r
    obtain rfl : u = Value.none := r
    exact ⟨_, Reads.none, fun b z => absurd z (by simp)⟩
  · intro b u r
    obtain rfl : u = Value.bool b := r
    exact ⟨_, Reads.bool b, fun b z => absurd z (by simp)⟩
  · intro i u r
    obtain ⟨t, rfl⟩ : ∃ t, u = Value.int i t := r
    exact ⟨_, Reads.int i t, fun b z => absurd z (by simp)⟩
  · intro x u r
    obtain ⟨t, rfl⟩ : ∃ t, u = Value.str x t := r
    exact ⟨_, Reads.str x t, fun b z => absurd z (by simp)⟩
  · intro a xs ds e _ ih u r
    obtain rfl : u = Value.ref a := r
    obtain ⟨_, its, n, rv, ho⟩ := (show ObjOk X.prog X.w H s.heap a (.lst xs) from I.hok a _ e)
    obtain ⟨as, ra, t⟩ := ih its rv
    refine ⟨_, Reads.list ho rfl rfl (by simpa using ra), fun b z => ?_⟩
    rcases List.mem_cons.mp z with z | z
    · rw [z]
      exact ⟨_, e⟩
    · exact t b z
  · intro a xs ds e _ ih u r
    obtain rfl : u = Value.ref a := r
    obtain ⟨_, its, rv, o, ho, hc, n, hd⟩ := (show ObjOk X.prog X.w H s.heap a (.tup xs) from I.hok a _ e)
    obtain ⟨as, ra, t⟩ := ih its rv
    exact ⟨_, Reads.tuple ho hc hd (by simpa using ra), t⟩
  · intro a kvs ds e hall ih u r
    obtain rfl : u = Value.ref a := r
    obtain ⟨_, _, vs, rkv, o, es, ep, ho, hx, hd, _, hp, _⟩ := (show ObjOk X.prog X.w H s.heap a (.dK kvs) from I.hok a _ e)
    obtain ⟨rv, ek⟩ := kv_vals rkv
    obtain ⟨as, ra, t⟩ := ih _ rv
    obtain ⟨bs, eb, rb⟩ := keys_read (h := s.heap) hp
    subst eb
    have hl : (kvs.map fun p => keyD p.1).length = ds.length := by
      rw [List.length_map, ← hall.length, List.length_map]
    refine ⟨_, Reads.dict (kvs := (kvs.map fun p => keyD p.1).zip ds) ho hx.1 hd (by rw [zip_fst hl, ek]; exact rb) (by rw [zip_snd hl, vals_read hp]; exact ra), fun b z => ?_⟩
    rcases List.mem_append.mp z with z | z
    · rcases List.mem_cons.mp z with z | z
      · rw [z]
        exact ⟨_, e⟩
      · exact absurd z (by simp)
    · exact t b z
  · intro us r
    cases r
    exact ⟨_, ReadsAll.nil, fun b z => absurd z (by simp)⟩
  · intro v vs d ds _ _ i1 i2 us r
    cases r with
    | cons r1 r2 =>
      obtain ⟨as, a1, t1⟩ := i1 _ r1
      obtain ⟨bs, a2, t2⟩ := i2 _ r2
      exact ⟨_, ReadsAll.cons a1 a2, fun b z => (List.mem_append.mp z).elim (t1 b) (t2 b)⟩
/-- repr(x) of data -/
theorem call_reprD (hgd : X.A.guards = some []) (hu : X.A.units + 65 < cLine) (hsm : ∃ o, X.K.lookup sysModules = some o) :
    CallR X (.builtin "repr") (fun xs H Q => ∃ v d, xs = [v] ∧ Da H v d ∧ d.showable = true ∧ d.depth ≤ 60 ∧ d.shown.length ≤ sizeLine ∧ Q (.str d.shown) H) := by
  intro pins s σ H xs us Q I r h
  obtain ⟨v, d, rfl, hd, h1, h2, h3, q⟩ := h
  cases r with
  | cons r1 r2 =>
    cases r2
    obtain ⟨as, ra, ta⟩ := da_reads I hd _ r1
    have nsm : sysModules ∉ as := fun z => by
      obtain ⟨o, e⟩ := ta _ z
      obtain ⟨u, l⟩ := hsm
      have n := (I.bs _ _ (I.ok.mod.kin _ _ l)).2
      rw [e] at n
      cases n
    have e65 : X.A.units + (d.depth + 1) < cLine := by omega
    cases ra with
    | none => 
      simp only [PyData.shown] at q
      exact PySem.P.repr_of_none ⟨.str _, H, I.tok _, ⟨_, rfl⟩, q⟩
    | bool b =>
      simp only [PyData.shown] at q
      exact PySem.P.repr_of_bool ⟨.str _, H, I.tok _, ⟨_, rfl⟩, q⟩
    | int i t =>
      simp only [PyData.shown] at q
      exact PySem.P.repr_of_int (by simpa [PyData.showable] using h1) ⟨.str _, H, I.tok _, ⟨_, rfl⟩, q⟩
    | str x t =>
      simp only [PyData.shown] at q h3
      exact PySem.P.repr_of_str ⟨.str _, H, I.tok _, ⟨_, rfl⟩, q⟩ h3
    | list a1 a2 a3 a4 => exact repr_of_reads' (.list a1 a2 a3 a4) h1 (fun _ => nsm) hgd e65 (fun _ _ e => e) (fun h' u tk kk => ⟨.str _, H, I.kept (t' := tk) kk, ⟨_, rfl⟩, q⟩) h3
    | tuple a1 a2 a3 a4 => exact repr_of_reads' (.tuple a1 a2 a3 a4) h1 (fun _ => nsm) hgd e65 (fun _ _ e => e) (fun h' u tk kk => ⟨.str _, H, I.kept (t' := tk) kk, ⟨_, rfl⟩, q⟩) h3
    | dict a1 a2 a3 a4 a5 => exact repr_of_reads' (.dict a1 a2 a3 a4 a5) h1 (fun _ => nsm) hgd e65 (fun _ _ e => e) (fun h' u tk kk => ⟨.str _, H, I.kept (t' := tk) kk, ⟨_, rfl⟩, q⟩) h3
end
end L2
set_option Elab.async false
set_option linter.all false
set_option maxRecDepth 100000
set_option maxHeartbeats 4000000
namespace K1
open PySem PySem.Spec PyProof.Rows L2
/-! ### the text by places -/
def top (i : Nat) : Stmt := PySem.Challenge.pw_gatequarters_k01_errors_made.main.body.getD i (.Pass ⟨0, 0, 0, 0⟩)
def cn : List Str := ["InvalidStreets", "InvalidGates", "InvalidQuarter", "InvalidQuarters", "InvalidTown", "InvalidPlace", "InvalidName", "InvalidChange", "InvalidChanges", "InvalidCount", "InvalidMeasure", "InvalidFlow", "InvalidCut", "InvalidTable", "InvalidLot", "InvalidSupply", "InvalidPlan", "InvalidDealing", "InvalidParting", "InvalidCity", "InvalidSpot", "InvalidPromise", "InvalidScript", "InvalidText", "InvalidLog", "Unlike", "Refused", "NothingToUndo", "NothingToRedo"]
def cx (i : Nat) : Str := cn.getD i "GateError"
def sIni (i : Nat) : Stmt := inClass (top (i + 2)) 0
abbrev sPurse : Stmt := top 32
abbrev sMixed : Stmt := top 33
abbrev sDraw : Stmt := top 34
abbrev sPurses : Stmt := top 35
abbrev sOneOf : Stmt := top 36
abbrev sWord : Stmt := top 37
abbrev sFirst : Stmt := top 38
abbrev sCalled : Stmt := top 39
abbrev sBare : Stmt := top 40
abbrev sCode : Stmt := top 41
abbrev sIsErr : Stmt := top 42
abbrev sRight : Stmt := top 43
abbrev sLaw : Stmt := top 44
/-- the class at place i (29 and more: GateError), its __init__ -/
def ca (K : PySem.W.Frag) (i : Nat) : Addr := He.ga K (cx i)
def ia (K : PySem.W.Frag) (i : Nat) : Addr := He.ma K (ca K i) "__init__"
/-! ### what the written part must say -/
def excB (K : PySem.W.Frag) (C : Addr) : Bool :=
  He.eqO (PySem.W.findIn K (.ref C) "__getattribute__") (some (some (.builtin "BaseException.__getattribute__"))) &&
  (He.eqO (PySem.W.findIn K (.ref C) "__getattr__") (some none) &&
  (decide (PySem.W.subIn K (.ref C) (.type "BaseException") = some true) &&
  (PySem.W.hasDictIn K C &&
  (He.eqO (PySem.W.findIn K (.ref C) "__class__") (some (some (.builtin "object.__class__"))) &&
  (He.eqO (PySem.W.specialIn K (.builtin "object.__class__") "__get__") (some (some (.builtin "getset_descriptor.__get__"))) &&
  (decide (PySem.W.takesIn K (.builtin "object.__class__") = some true) &&
  decide (PySem.W.mroIn K C (.type "object") = some true)))))))
theorem excB_ok {K : PySem.W.Frag} {C : Addr} (h : excB K C = true) : ExcC K C ∧ XfC K C := by
  obtain ⟨h1, h⟩ := He.ba h
  obtain ⟨h2, h⟩ := He.ba h
  obtain ⟨h3, h⟩ := He.ba h
  obtain ⟨h4, h⟩ := He.ba h
  obtain ⟨h5, h⟩ := He.ba h
  obtain ⟨h6, h⟩ := He.ba h
  obtain ⟨h7, h8⟩ := He.ba h
  exact ⟨⟨He.eqO_ok h1, He.eqO_ok h2, of_decide_eq_true h3, h4, He.eqO_ok h5, He.eqO_ok h6, of_decide_eq_true h7, of_decide_eq_true h8⟩, ⟨He.eqO_ok h1, He.eqO_ok h2, of_decide_eq_true h3, h4⟩⟩
def clsB (K : PySem.W.Frag) (C : Addr) : Bool := match K.lookup C with
  | some ⟨.type "type", _, .cls cd, sl⟩ => (match cd.mro, sl.toList with
    | .ref C' :: bm, [_, _, _, _, some (.builtin n), _] => C' == C && (n == "ValueError.__new__" && (!cd.hasDel && (cd.hasDict && PySem.HandSPX.refsVE bm)))
    | _, _ => false)
  | _ => false
theorem clsB_ok {K : PySem.W.Frag} {C : Addr} (q : clsB K C = true) : ∃ nm qn N bs bm sn sub ab col dd k0 k1 k2 k3 k5, K.lookup C = some (excClassObj nm qn C N bs bm true sn sub ab col dd k0 k1 k2 k3 k5 "ValueError.__new__") ∧ PySem.HandSPX.refsVE bm = true := by
  unfold clsB at q
  split at q
  · rename_i dd cd sl ho
    split at q
    · rename_i C' bm k0 k1 k2 k3 n k5 hm hs
      simp only [Bool.and_eq_true, beq_iff_eq, Bool.not_eq_true'] at q
      obtain ⟨rfl, rfl, hdel, hdct, ht⟩ := q
      obtain ⟨nm, bs, mro, ns, qn, hd, sn, sub, ab, col, del⟩ := cd
      dsimp only at hm hdel hdct
      subst hm hdel hdct
      have hsl : sl = #[k0, k1, k2, k3, some (.builtin "ValueError.__new__"), k5] := by
        obtain ⟨l⟩ := sl
        simp only at hs
        rw [hs]
      subst hsl
      exact ⟨nm, qn, ns, bs, bm, sn, sub, ab, col, dd, k0, k1, k2, k3, k5, ho, ht⟩
    · cases q
  · cases q
def oexB (K : PySem.W.Frag) (C fI : Addr) : Bool :=
  clsB K C && (He.eqO (PySem.W.findIn K (.ref C) "__setattr__") (some (some (.builtin "object.__setattr__"))) && (decide (PySem.W.typeIn K (.ref C) = some (.type "type")) && (PySem.W.keepIn K (.ref C) &&
  (He.eqO (PySem.W.findIn K (.ref C) "__init__") (some (some (.ref fI))) && (decide (PySem.W.typeIn K (.ref fI) = some (.type "function")) && He.eqO (PySem.W.findIn K (.ref C) "value") (some none))))))
theorem oexB_ok {K : PySem.W.Frag} {C fI : Addr} (e : PySem.W.subIn K (.ref C) (.type "BaseException") = some true) (h : oexB K C fI = true) : XvC K C fI := by
  obtain ⟨h1, h⟩ := He.ba h
  obtain ⟨h2, h⟩ := He.ba h
  obtain ⟨h3, h⟩ := He.ba h
  obtain ⟨h4, h⟩ := He.ba h
  obtain ⟨h5, h⟩ := He.ba h
  obtain ⟨h6, h7⟩ := He.ba h
  exact ⟨⟨clsB_ok h1, He.eqO_ok h2, e, of_decide_eq_true h3, h4⟩, He.eqO_ok h5, of_decide_eq_true h6, He.eqO_ok h7⟩
def gloB (K : PySem.W.Frag) (x : Str) : Bool := He.eqO (PySem.W.nsIn K mainGlobals x) (some (some (.ref (He.ga K x))))
def rowB (K : PySem.W.Frag) (i : Nat) : Bool :=
  gloB K (cx i) && (excB K (ca K i) && (decide (PySem.W.kitOne K (.ref (ca K i)) (.type "ValueError") = some true) && (decide (PySem.W.kitOne K (.ref (ca K i)) (.ref (ca K 29)) = some true) &&
  (List.range 29).all fun j => decide (PySem.W.kitOne K (.ref (ca K i)) (.ref (ca K j)) = some (decide (i = j))))))
def frees : List Str := ["sum", "int", "max", "min", "len", "range", "isinstance", "repr", "list", "dict", "tuple", "all", "ValueError"]
def defs : List Str := ["_law_purse", "_law_mixed", "_law_draw", "_law_purses", "_law_one_of", "_law_word", "_law_first", "_law_called", "_law_bare", "_law_code", "_law_is_error", "_law_right", "law"]
def bare (K : PySem.W.Frag) (i : Nat) : Bool := PySem.W.excIn K (ca K i) He.veBase "ValueError.__new__" && PySem.W.keepIn K (.ref (ca K i))
def chk (K : PySem.W.Frag) : Bool :=
  ((List.range 30).all fun i => rowB K i) && (((List.range 27).all fun i => oexB K (ca K i) (ia K i)) && (bare K 27 && (bare K 28 && (bare K 29 &&
  ((K.lookup sysModules).isSome && ((frees.all fun x => He.eqO (PySem.W.nsIn K mainGlobals x) (some none)) && defs.all fun x => gloB K x))))))
/-! ### the head -/
def dI (i : Nat) : He.DefD := ⟨(cx i, some "__init__"), "__init__", cx i ++ ".__init__", defArgs (sIni i), defBody (sIni i), defScope (sIni i), [.non], []⟩
def dF (x : Str) (st : Stmt) : He.DefD := ⟨(x, none), x, x, defArgs st, defBody st, defScope st, [], []⟩
def fn : List He.DefD := [dF "_law_purse" sPurse, dF "_law_mixed" sMixed, dF "_law_draw" sDraw, dF "_law_purses" sPurses, dF "_law_one_of" sOneOf, dF "_law_word" sWord, dF "_law_first" sFirst, dF "_law_called" sCalled, dF "_law_bare" sBare, dF "_law_code" sCode, dF "_law_is_error" sIsErr, dF "_law_right" sRight, dF "law" sLaw] ++ (List.range 27).map dI
abbrev Al : Type := Bool × List He.FnW
def obsK (K : PySem.W.Frag) : Al := (chk K && fn.all fun d => d.ok K, fn.map fun d => He.fnW K d.at_)
def valK : Al := (true, fn.map He.DefD.val)
def Says (K : PySem.W.Frag) : Prop := obsK K = valK
def obsN (g : Addr → Option Obj) : Al := obsK (He.frG g (sysModules :: He.asD g 5))
abbrev hk : PySem.W.Hook where
  α := Al
  obs := fun s => obsN s.heap.get?
  val := fun _ => valK
  says := fun _ h => ∃ K : PySem.W.Frag, K.In h ∧ Says K
  of := fun _ _ e => ⟨_, He.frG_in, e⟩
  keeps := fun _ _ _ ⟨K, hK, c⟩ k => ⟨K, PySem.W.Frag.In.keeps hK k, c⟩
def ob (s : PySem.W.SharedT) : Al := obsN (HandSHeadRun.getT s)
theorem ob_eq (s : PySem.W.SharedT) : ob s = hk.obs s.abs := by
  have e : HandSHeadRun.getT s = s.abs.heap.get? := funext (HandSHeadRun.getT_eq s)
  show obsN (HandSHeadRun.getT s) = obsN s.abs.heap.get?
  rw [e]
section
variable {K : PySem.W.Frag}
theorem Says.chk (c : Says K) : chk K = true := (He.ba (show (K1.chk K && fn.all fun d => d.ok K) = true from congrArg (fun z : Al => z.1) c)).1
theorem Says.def_ (c : Says K) (i : Nat) {d : He.DefD} (h : fn[i]? = some d := by rfl) : ∃ fd, FunD K d.name d.qual d.params d.body d.scope (d.dvs K) (d.kws K) (He.fAd K d.at_) fd := by
  have c2 := (He.ba (show (K1.chk K && fn.all fun d => d.ok K) = true from congrArg (fun z : Al => z.1) c)).2
  have e : fn.map (fun d => He.fnW K d.at_) = fn.map He.DefD.val := congrArg (fun z : Al => z.2) c
  have e2 : (fn.map fun d => He.fnW K d.at_)[i]? = (fn.map He.DefD.val)[i]? := by rw [e]
  rw [List.getElem?_map, List.getElem?_map, h] at e2
  exact He.DefD.funD (Option.some.inj e2) (List.all_eq_true.mp c2 d (List.mem_of_getElem? h))
end
end K1
set_option Elab.async false
set_option linter.all false
set_option maxRecDepth 100000
set_option maxHeartbeats 0
namespace K1
open PySem PySem.W PySem.Calls PyProof.Rows
abbrev R : OpenRow := OpenLaw.row PySem.Challenge.rw_gatequarters_k01_errors_made
def n1 : List PySem.Str := ("GateError" : PySem.Str) :: cn
def n2 : List PySem.Str := ["_law_purse", "_law_mixed", "_law_draw", "_law_purses", "_law_one_of", "_law_word", "_law_first", "_law_called", "_law_bare", "_law_code", "_law_is_error", "_law_right"]
def names : List PySem.Str := n1 ++ n2
abbrev qv : Program := view R.prog [44]
theorem run (w : World) : HandSHeadRun.RunEq R qv hk ob 12000 names w := by
  intro os
  kernel_rfl
end K1
set_option Elab.async false
set_option linter.all false
set_option maxRecDepth 100000
set_option maxHeartbeats 4000000
namespace K1
open PySem PySem.Spec PyProof.Rows L2
/-- what the head has told -/
structure Tx (K : PySem.W.Frag) (mg : Str → Option Value) : Prop where
  cls : ∀ i, i < 30 → mg (cx i) = some (.ref (ca K i)) ∧ ExcC K (ca K i) ∧ XfC K (ca K i) ∧ PySem.W.kitOne K (.ref (ca K i)) (.type "ValueError") = some true ∧ PySem.W.kitOne K (.ref (ca K i)) (.ref (ca K 29)) = some true ∧
    ∀ j, j < 29 → PySem.W.kitOne K (.ref (ca K i)) (.ref (ca K j)) = some (decide (i = j))
  xv : ∀ i, i < 27 → XvC K (ca K i) (ia K i)
  bar : ∀ i, i = 27 ∨ i = 28 ∨ i = 29 → PySem.W.excIn K (ca K i) He.veBase "ValueError.__new__" = true ∧ PySem.W.keepIn K (.ref (ca K i)) = true
  sm : ∃ o, K.lookup sysModules = some o
  fr : ∀ x ∈ frees, mg x = none
  gl : ∀ x ∈ defs, mg x = some (.ref (He.ga K x))
theorem tx_of {K : PySem.W.Frag} {h : Heap} {mg : Str → Option Value} (X : K.In h) (G : h.Ns mainGlobals mg) (c : chk K = true) : Tx K mg := by
  obtain ⟨c1, c⟩ := He.ba c
  obtain ⟨c2, c⟩ := He.ba c
  obtain ⟨c3, c⟩ := He.ba c
  obtain ⟨c4, c⟩ := He.ba c
  obtain ⟨c5, c⟩ := He.ba c
  obtain ⟨c6, c⟩ := He.ba c
  obtain ⟨c7, c8⟩ := He.ba c
  have row : ∀ i, i < 30 → mg (cx i) = some (.ref (ca K i)) ∧ ExcC K (ca K i) ∧ XfC K (ca K i) ∧ PySem.W.kitOne K (.ref (ca K i)) (.type "ValueError") = some true ∧ PySem.W.kitOne K (.ref (ca K i)) (.ref (ca K 29)) = some true ∧
      ∀ j, j < 29 → PySem.W.kitOne K (.ref (ca K i)) (.ref (ca K j)) = some (decide (i = j)) := fun i hi => by
    have r := List.all_eq_true.mp c1 i (List.mem_range.mpr hi)
    obtain ⟨r1, r⟩ := He.ba r
    obtain ⟨r2, r⟩ := He.ba r
    obtain ⟨r3, r⟩ := He.ba r
    obtain ⟨r4, r5⟩ := He.ba r
    obtain ⟨x1, x2⟩ := excB_ok r2
    exact ⟨PySem.W.mg_of X G (He.eqO_ok r1), x1, x2, of_decide_eq_true r3, of_decide_eq_true r4, fun j hj => of_decide_eq_true (List.all_eq_true.mp r5 j (List.mem_range.mpr hj))⟩
  refine ⟨row, fun i hi => oexB_ok (row i (by omega)).2.1.hs (List.all_eq_true.mp c2 i (List.mem_range.mpr hi)), fun i hi => ?_, Option.isSome_iff_exists.mp c6, fun x hx => PySem.W.mg_none_of X G (He.eqO_ok (List.all_eq_true.mp c7 x hx)), fun x hx => PySem.W.mg_of X G (He.eqO_ok (List.all_eq_true.mp c8 x hx))⟩
  rcases hi with e | e | e <;> subst e
  · exact He.ba c3
  · exact He.ba c4
  · exact He.ba c5
/-! ### numbers -/
section
variable {X : Cx}
theorem op_powB : OpR X (binaryOp .Pow) (rI (fun i j => 0 ≤ j ∧ (Builtin.Int.intBits i : Int) * j ≤ 2 ^ 27) fun i j => .int (i ^ j.toNat)) := opI fun _ _ _ _ _ _ _ hc q => pow_int hc.1 hc.2 q
end
/-- a purse of at most n draws -/
def PuOk (n : Int) (xs : List V) : Prop := ∃ a s t k : Int, xs = [.int a, .int s, .int t, .int k] ∧ 0 ≤ a ∧ 0 ≤ s ∧ s < 2147483629 ∧ 0 ≤ t ∧ t ≤ n ∧ 0 ≤ k ∧ k ≤ 2
theorem PuOk.mono {n m : Int} {xs : List V} (h : PuOk n xs) (l : n ≤ m) : PuOk m xs := by
  obtain ⟨a, s, t, k, e, h1, h2, h3, h4, h5, h6, h7⟩ := h
  exact ⟨a, s, t, k, e, h1, h2, h3, h4, by omega, h6, h7⟩
theorem bits_small {m : Int} (h0 : 0 ≤ m) (h1 : m < 128) : ((Builtin.Int.intBits m : Nat) : Int) / 28 = 0 := by
  obtain ⟨n, rfl⟩ := Int.eq_ofNat_of_zero_le h0
  have hn : n < 128 := by omega
  have key : ∀ n : Fin 128, ((Builtin.Int.intBits ((n.val : Nat) : Int) : Nat) : Int) / 28 = 0 := by decide +kernel
  exact key ⟨n, hn⟩
abbrev FnP (K : PySem.W.Frag) (x : Str) (st : Stmt) (f : Addr) (fd : FuncData) : Prop := FunD K x x (defArgs st) (defBody st) (defScope st) [] [] f fd
section
variable {P : Program} {w : World} {K : PySem.W.Frag} {mg : Str → Option Value} {base : Heap}
/-! ### _law_mixed -/
def spMixed : Sp := fun vs H Q _ => ∃ s t k : Int, vs = [.int s, .int t, .int k] ∧ 0 ≤ s ∧ s < 2147483648 ∧ 0 ≤ t ∧ t ≤ 1000 ∧ 0 ≤ k ∧ k ≤ 2 ∧ ∀ r : Int, Q (.int r) H
theorem scMixed : FnScope ["_law_seed", "_law_turn", "_law_at", "_law_mixed_here"] ["_law_seed", "_law_turn", "_law_at"] (defScope sMixed) := ⟨rfl, rfl, rfl, by decide +kernel, rfl, by decide +kernel, by decide +kernel⟩
theorem ok_mixed {f : Addr} {fd : FuncData} (F : FnP K "_law_mixed" sMixed f fd) (T : Tx K mg) : FnOk P w K mg base CX0 1 f fd ["_law_seed", "_law_turn", "_law_at"] spMixed := by
  refine F.ok scMixed (fun vs H Q E h => ?_) (fun cdv A outer s H vs Q E hr h => ?_)
  · obtain ⟨_, _, _, rfl, _⟩ := h
    rfl
  · obtain ⟨s, t, k, rfl, s0, s1, t0, t1, k0, k1, q⟩ := h
    have gI := T.fr "int" (by decide +kernel)
    refine ⟨_, PSs.nox (pss_cons (ps_set (i := 3) scMixed.nd rfl (Or.inl rfl) (pe_op op_add (pe_op op_mul (pv 0) pe_int) (pe_op op_mul (pe_op op_mul pe_int (pv 1)) (pv 1))))
      (pss_cons (ps_set (i := 3) scMixed.nd rfl (Or.inl rfl) (pe_op op_mod (pe_callTy call_int1 (by rfl) gI (by decide +kernel) (pa_cons (pe_op op_add (pe_op op_add (pv 3) (pe_op op_mul pe_int (pv 2))) (pv 1)) pa_nil)) pe_int))
      (pss_cons (ps_set (i := 3) scMixed.nd rfl (Or.inl rfl) (pe_op op_mod (pe_callTy call_int1 (by rfl) gI (by decide +kernel) (pa_cons (pe_op op_add (pe_op op_mul (pv 3) (pv 3)) pe_int) pa_nil)) pe_int))
      (pss_one (ps_ret (pe_op op_mod (pe_callTy call_int1 (by rfl) gI (by decide +kernel) (pa_cons (pe_op op_mul (pv 3) pe_int) pa_nil)) pe_int)))))), ?_⟩
    have e0 : ∀ {a b : Int}, 0 < b → 0 ≤ a % b ∧ a % b < b := fun h => ⟨Int.emod_nonneg _ (by omega), Int.emod_lt_of_pos _ h⟩
    refine ⟨_, rfl, _, _, rfl, rfl, Or.inr ⟨by decide, by decide⟩, _, rfl, _, _, rfl, rfl, Or.inl ⟨by decide, by decide⟩, _, rfl, _, _, rfl, rfl, Or.inr ⟨by omega, by omega⟩, _, _, rfl, rfl, ?_⟩
    refine ⟨_, rfl, _, rfl, _, _, rfl, rfl, Or.inl ⟨by decide, by decide⟩, _, _, rfl, rfl, _, rfl, _, _, rfl, rfl, Or.inl ⟨_, rfl, _, _, rfl, rfl, (by show (0 : Int) < _; decide), ?_⟩⟩
    generalize hx : (s * 69069 + 104729 * t * t + 7919 * k + t) % 2147483647 = x
    have bx := @e0 (s * 69069 + 104729 * t * t + 7919 * k + t) 2147483647 (by decide)
    rw [hx] at bx
    refine ⟨_, rfl, _, rfl, _, _, rfl, rfl, Or.inl ⟨by omega, by omega⟩, _, _, rfl, rfl, Or.inl ⟨_, rfl, _, _, rfl, rfl, (by show (0 : Int) < _; decide), ?_⟩⟩
    generalize hy : (x * x + 40503) % 2147483629 = y
    have b_y := @e0 (x * x + 40503) 2147483629 (by decide)
    rw [hy] at b_y
    exact ⟨_, rfl, _, _, rfl, rfl, Or.inl ⟨by omega, by omega⟩, Or.inl ⟨_, rfl, _, _, rfl, rfl, (by show (0 : Int) < _; decide), q _⟩⟩

/-! ### _law_draw -/
def spDraw : Sp := fun vs H Q _ => ∃ (p : Addr) (m n : Int) (xs : List V), vs = [.ref p, .int m] ∧ H p = some (.lst xs) ∧ PuOk n xs ∧ n ≤ 900 ∧ 0 < m ∧ m < 128 ∧
  ∀ (r : Int) (ys : List V), 0 ≤ r → r < m → PuOk (n + 1) ys → Q (.int r) (upd H p (.lst ys))
theorem scDraw : FnScope ["_law_purse_here", "_law_many", "_law_drawn", "_law_found", "_law_piece"] ["_law_purse_here", "_law_many"] (defScope sDraw) := ⟨rfl, rfl, rfl, by decide +kernel, rfl, by decide +kernel, by decide +kernel⟩
theorem ok_draw {f g : Addr} {fd fdM : FuncData} (F : FnP K "_law_draw" sDraw f fd) (FM : FnP K "_law_mixed" sMixed g fdM) (hgM : mg "_law_mixed" = some (.ref g)) (T : Tx K mg) :
    FnOk P w K mg base CX0 2 f fd ["_law_purse_here", "_law_many"] spDraw := by
  have GM : FnOk P w K mg base CX0 1 g fdM ["_law_seed", "_law_turn", "_law_at"] spMixed := ok_mixed FM T
  have bM : Binds K fdM ["_law_seed", "_law_turn", "_law_at"] [] := FM.bindsN fun _ _ _ _ _ _ us hl => match us, hl with | [_, _, _], _ => rfl
  refine F.ok scDraw (fun vs H Q E h => ?_) (fun cdv A outer s H vs Q E hr h => ?_)
  · obtain ⟨_, _, _, _, rfl, _⟩ := h
    rfl
  · obtain ⟨p, m, n, xs, rfl, hp, ⟨a, sd, t, k, rfl, a0, s0, s1, t0, t1, k0, k1⟩, hn, m0, m1, q⟩ := h
    have gI := T.fr "int" (by decide +kernel)
    have gR := T.fr "range" (by decide +kernel)
    refine ⟨_, PSs.nox (pss_cons (ps_if (pt_cmpR op_gt (pe_ix ix_list (pv 0) pe_int (fun _ _ => rfl)) pe_int (nomark _))
        (pss_cons (ps_set (i := 2) scDraw.nd rfl (Or.inl rfl) (pe_op op_mod (pe_callTy call_int1 (by rfl) gI (by decide +kernel) (pa_cons (pe_ix ix_list (pv 0) pe_int (fun _ _ => rfl)) pa_nil)) (pv 1)))
        (pss_cons (ps_asg (pe_op op_fdiv (pe_ix ix_list (pv 0) pe_int (fun _ _ => rfl)) (pv 1)) (pg_sub (pv 0) pe_int set_list))
        (pss_one (ps_ret (pv 2))))) pss_nil)
      (pss_cons (ps_set (i := 3) scDraw.nd rfl (Or.inl rfl) pe_int)
      (pss_cons (ps_for PassesOwn.never rfl (pi_range1 rfl gR (pa_cons (pe_op op_add pe_int (pe_op op_fdiv (pe_bits (pv 1)) pe_int)) pa_nil)) (pg_name (i := 4) scDraw.nd rfl (Or.inl rfl))
        (pss_cons (ps_asg (pe_op op_add (pe_ix ix_list (pv 0) pe_int (fun _ _ => rfl)) pe_int) (pg_sub (pv 0) pe_int set_list))
        (pss_one (ps_set (i := 3) scDraw.nd rfl (Or.inl rfl) (pe_op op_add (pe_op op_mul (pv 3) pe_int)
          (pe_call GM hr rfl hgM FM.kp bM .nil pass0 (pa_cons (pe_ix ix_list (pv 0) pe_int (fun _ _ => rfl)) (pa_cons (pe_ix ix_list (pv 0) pe_int (fun _ _ => rfl)) (pa_cons (pe_ix ix_list (pv 0) pe_int (fun _ _ => rfl)) pa_nil)))))))))
      (pss_one (ps_ret (pe_op op_mod (pe_callTy call_int1 (by rfl) gI (by decide +kernel) (pa_cons (pv 3) pa_nil)) (pv 1))))))), ?_⟩
    have hS : SqL K H p [.int a, .int sd, .int t, .int k] := SqL.of hp
    refine ⟨_, rfl, p, _, 0, _, rfl, rfl, hS, rfl, _, _, rfl, rfl, _, rfl, ?_⟩
    refine ite2 (fun hc => ?_) (fun _ => ?_)
    · refine ⟨_, rfl, p, _, 0, _, rfl, rfl, hS, rfl, Or.inl ⟨_, rfl, _, rfl, _, _, rfl, rfl, m0, ?_⟩⟩
      refine ⟨_, rfl, p, _, 0, _, rfl, rfl, hS, rfl, _, rfl, _, _, rfl, rfl, ⟨m0, by omega⟩, _, rfl, p, _, 0, 0, rfl, rfl, hp, rfl, _, rfl, ?_⟩
      exact q _ _ (Int.emod_nonneg _ (by omega)) (Int.emod_lt_of_pos _ m0) ⟨a / m, sd, t, k, rfl, Int.ediv_nonneg a0 (by omega), s0, s1, t0, by omega, k0, k1⟩
    · refine ⟨_, rfl, _, rfl, _, _, rfl, rfl, ⟨by decide, by decide⟩, _, _, rfl, rfl, 1, ?_, by decide, by decide, ?_⟩
      · rw [bits_small (by omega) m1]
        rfl
      · refine for_range (n := 1) (fun i σ H' => (i = 0 ∧ H' = H ∧ σ = [some (.ref p), some (.int m), none, some (.int 0), none]) ∨ (i = 1 ∧ ∃ r : Int, H' = upd H p (.lst [.int a, .int sd, .int (t + 1), .int k]) ∧ ∃ z, σ = [some (.ref p), some (.int m), none, some (.int r), z]))
          (Or.inl ⟨rfl, rfl, rfl⟩) ?_ ?_
        · rintro i σ H' hi (⟨rfl, rfl, rfl⟩ | ⟨rfl, _⟩)
          · have h2 : upd H' p (.lst [.int a, .int sd, .int (t + 1), .int k]) p = some (.lst [.int a, .int sd, .int (t + 1), .int k]) := upd_same
            have hS2 : SqL K (upd H' p (.lst [.int a, .int sd, .int (t + 1), .int k])) p [.int a, .int sd, .int (t + 1), .int k] := SqL.of h2
            refine ⟨_, rfl, p, _, 2, _, rfl, rfl, hS, rfl, _, _, rfl, rfl, _, rfl, p, _, 2, 2, rfl, rfl, hp, rfl, ?_⟩
            refine ⟨_, rfl, _, _, rfl, rfl, Or.inl ⟨by decide, by decide⟩, _, rfl, p, _, 1, _, rfl, rfl, hS2, rfl, _, rfl, p, _, 2, _, rfl, rfl, hS2, rfl, _, rfl, p, _, 3, _, rfl, rfl, hS2, rfl, ?_⟩
            refine ⟨sd, t + 1, k, rfl, s0, by omega, by omega, by omega, k0, k1, fun r => ⟨_, _, rfl, rfl, ?_⟩⟩
            exact Or.inr ⟨rfl, _, rfl, _, rfl⟩
          · omega
        · rintro σ H' (⟨e, _⟩ | ⟨_, r, rfl, z, rfl⟩)
          · cases e
          · refine ⟨_, rfl, Or.inl ⟨_, rfl, _, rfl, _, _, rfl, rfl, m0, ?_⟩⟩
            exact q _ _ (Int.emod_nonneg _ (by omega)) (Int.emod_lt_of_pos _ m0) ⟨a, sd, t + 1, k, rfl, a0, s0, s1, by omega, by omega, k0, k1⟩
end
end K1
set_option Elab.async false
set_option linter.all false
set_option maxRecDepth 100000
set_option maxHeartbeats 4000000
namespace K1
open PySem PySem.Spec PyProof.Rows L2
/-! ### texts -/
def one (c : Nat) : Str := ⟨#[c]⟩
theorem str_join_codes : ∀ cs : List Nat, (Str.join (Str.ofString "") (cs.map one)).cps.toList = cs
  | [] => rfl
  | [c] => rfl
  | c :: d :: r => by
    have ih := str_join_codes (d :: r)
    show (((one c).cps ++ (Str.ofString "").cps) ++ (Str.join (Str.ofString "") ((d :: r).map one)).cps).toList = _
    rw [Array.toList_append, Array.toList_append, ih]
    rfl
theorem join_codes (cs : List Nat) : (Txt.join (Str.ofString "") (cs.map one)).cps.toList = cs := by
  have e : Txt.join (Str.ofString "") (cs.map one) = Str.join (Str.ofString "") (cs.map one) := StrLaws.glued_eq_join _ _
  rw [e]
  exact str_join_codes cs
theorem str_length (z : Str) : z.length = z.cps.toList.length := by
  show z.cps.size = z.cps.toList.length
  simp
/-- a word: at most eight small letters -/
def Wd (z : Str) : Prop := z.cps.toList.length ≤ 8 ∧ ∀ c ∈ z.cps.toList, 97 ≤ c ∧ c ≤ 122
theorem Wd.ne_later {z : Str} (h : Wd z) : z ≠ ("LATER" : Str) := fun e => by
  have h2 := h.2
  rw [e] at h2
  have := (h2 76 (by decide +kernel)).1
  omega
def abc : Str := "abcdefghijklmnopqrstuvwxyz"
theorem abc_at {r : Int} (h0 : 0 ≤ r) (h1 : r < 26) : abc.cps[r.toNat]? = some (97 + r.toNat) := by
  obtain ⟨n, rfl⟩ := Int.eq_ofNat_of_zero_le h0
  have hn : n < 26 := by omega
  have key : ∀ n : Fin 26, abc.cps[((n.val : Nat) : Int).toNat]? = some (97 + ((n.val : Nat) : Int).toNat) := by decide +kernel
  exact key ⟨n, hn⟩
theorem ones_len : ∀ cs : List Nat, ((cs.map one).map (·.length)).sum = cs.length
  | [] => rfl
  | c :: cs => by
    have ih := ones_len cs
    simp only [List.map_cons, List.sum_cons, List.length_cons, ih]
    show 1 + _ = _
    omega
/-- all that is tracked beside p stays -/
def But (p : Addr) (H H' : Hp) : Prop := ∀ b o, b ≠ p → H b = some o → H' b = some o
section
variable {P : Program} {w : World} {K : PySem.W.Frag} {mg : Str → Option Value} {base : Heap}
/-! ### _law_one_of -/
def spOneOf : Sp := fun vs H Q _ => ∃ (p l : Addr) (n : Int) (xs zs : List V), vs = [.ref p, .ref l] ∧ H p = some (.lst xs) ∧ PuOk n xs ∧ n ≤ 900 ∧ H l = some (.lst zs) ∧ p ≠ l ∧ 0 < zs.length ∧ zs.length < 128 ∧
  ∀ (j : Nat) (z : V) (ys : List V), zs[j]? = some z → PuOk (n + 1) ys → Q z (upd H p (.lst ys))
theorem scOneOf : FnScope ["_law_purse_here", "_law_some"] ["_law_purse_here", "_law_some"] (defScope sOneOf) := ⟨rfl, rfl, rfl, by decide +kernel, rfl, by decide +kernel, by decide +kernel⟩
theorem ok_oneOf {f g : Addr} {fd fdD : FuncData} (F : FnP K "_law_one_of" sOneOf f fd) (GD : FnOk P w K mg base CX0 2 g fdD ["_law_purse_here", "_law_many"] spDraw) (FD : FnP K "_law_draw" sDraw g fdD) (hgD : mg "_law_draw" = some (.ref g)) (T : Tx K mg) :
    FnOk P w K mg base CX0 3 f fd ["_law_purse_here", "_law_some"] spOneOf := by
  have bD : Binds K fdD ["_law_purse_here", "_law_many"] [] := FD.bindsN fun _ _ _ _ _ _ us hl => match us, hl with | [_, _], _ => rfl
  refine F.ok scOneOf (fun vs H Q E h => ?_) (fun cdv A outer s H vs Q E hr h => ?_)
  · obtain ⟨_, _, _, _, _, rfl, _⟩ := h
    rfl
  · obtain ⟨p, l, n, xs, zs, rfl, hp, hx, hn, hl, npl, l0, l1, q⟩ := h
    have gL := T.fr "len" (by decide +kernel)
    refine ⟨_, PSs.nox (pss_one (ps_ret (pe_ix ix_list (pv 1) (pe_call GD hr rfl hgD FD.kp bD .nil pass0 (pa_cons (pv 0) (pa_cons (pe_callB call_len_seq (by rfl) gL PySem.boot_len (pa_cons (pv 1) pa_nil)) pa_nil))) (fun _ _ => rfl)))), ?_⟩
    refine ⟨_, rfl, _, rfl, _, rfl, l, _, rfl, Or.inl (SqL.of hl), p, _, n, xs, rfl, hp, hx, hn, by omega, by omega, fun r ys r0 r1 hy => ?_⟩
    obtain ⟨j, rfl⟩ := Int.eq_ofNat_of_zero_le r0
    have hj : j < zs.length := by omega
    have e : zs[j]? = some zs[j] := List.getElem?_eq_getElem hj
    exact ⟨l, zs, (j : Nat), zs[j], rfl, rfl, SqL.of (by rw [upd_ne (Ne.symm npl)]; exact hl), atI_nat e, q j _ ys e hy⟩
/-! ### _law_word -/
def spWord : Sp := fun vs H Q _ => ∃ (p : Addr) (n : Int) (xs : List V), vs = [.ref p] ∧ H p = some (.lst xs) ∧ PuOk n xs ∧ n ≤ 800 ∧
  ∀ (z : Str) (ys : List V) (H' : Hp), Wd z → PuOk (n + 10) ys → But p H H' → H' p = some (.lst ys) → Q (.str z) H'
theorem scWord : FnScope ["_law_purse_here", "_law_size", "_law_turn"] ["_law_purse_here"] (defScope sWord) := ⟨rfl, rfl, rfl, by decide +kernel, rfl, by decide +kernel, by decide +kernel⟩
theorem ok_word {f g : Addr} {fd fdD : FuncData} (F : FnP K "_law_word" sWord f fd) (GD : FnOk P w K mg base CX0 2 g fdD ["_law_purse_here", "_law_many"] spDraw) (FD : FnP K "_law_draw" sDraw g fdD) (hgD : mg "_law_draw" = some (.ref g)) (T : Tx K mg) :
    FnOk P w K mg base CX0 3 f fd ["_law_purse_here"] spWord := by
  have bD : Binds K fdD ["_law_purse_here", "_law_many"] [] := FD.bindsN fun _ _ _ _ _ _ us hl => match us, hl with | [_, _], _ => rfl
  refine F.ok scWord (fun vs H Q E h => ?_) (fun cdv A outer s H vs Q E hr h => ?_)
  · obtain ⟨_, _, _, rfl, _⟩ := h
    rfl
  · obtain ⟨p, n, xs, rfl, hp, hx, hn, q⟩ := h
    have gR := T.fr "range" (by decide +kernel)
    refine ⟨_, PSs.nox (pss_cons (ps_set (i := 1) scWord.nd rfl (Or.inl rfl) (pe_op op_add pe_int (pe_call GD hr rfl hgD FD.kp bD .nil pass0 (pa_cons (pv 0) (pa_cons
        (pe_ifExp (pt_cmpR op_eq (pe_call GD hr rfl hgD FD.kp bD .nil pass0 (pa_cons (pv 0) (pa_cons pe_int pa_nil))) pe_int (nomark _)) pe_int pe_int) pa_nil)))))
      (pss_one (ps_ret (pe_join pe_str (pe_lc (own := [("_law_turn", 2)]) (g := gName 2) (tt := tYes) rfl scWord.nd (pi_range1 rfl gR (pa_cons (pv 1) pa_nil)) (blkOk_by (own := [("_law_turn", 2)]) (N := ["_law_purse_here", "_law_size", "_law_turn"]) (sc := defScope sWord) (by decide +kernel))
        (fun _ _ _ _ _ => pg_name (i := 2) scWord.nd rfl (Or.inl rfl)) (fun _ _ _ _ _ => pts_nil)
        (fun _ _ _ _ _ => pe_item_str pe_str (pe_call GD hr rfl hgD FD.kp bD .nil pass0 (pa_cons (pv 0) (pa_cons pe_int pa_nil))) (fun _ _ => rfl))))))), ?_⟩
    refine ⟨_, rfl, _, rfl, p, 3, n, xs, rfl, hp, hx, by omega, by decide, by decide, fun r1 ys1 a1 b1 hy1 => ⟨rfl, _, rfl, ?_⟩⟩
    refine ite2 (fun _ => ?_) (fun _ => ?_)
    all_goals
      refine ⟨p, _, n + 1, ys1, rfl, upd_same, hy1, by omega, by decide, by decide, fun r2 ys2 a2 b2 hy2 => ?_⟩
      refine ⟨_, _, rfl, rfl, ⟨_, rfl⟩, _, rfl, _, rfl, by omega, by omega, fun D hD => ?_⟩
      have hp2 : upd (upd H p (.lst ys1)) p (.lst ys2) p = some (.lst ys2) := upd_same
      have npD : p ≠ D := ne_of_none hp2 hD
      refine lc_range (lo := 0) (n := (1 + r2).toNat) (fun i H' => ∃ (xs' : List V) (cs : List Nat), H' p = some (.lst xs') ∧ PuOk (n + 2 + (i : Nat)) xs' ∧ cs.length = i ∧ (∀ c ∈ cs, 97 ≤ c ∧ c ≤ 122) ∧ H' D = some (.lst ((cs.map one).map V.str)) ∧ But p H H')
        ⟨ys2, [], by rw [upd_ne npD]; exact hp2, hy2.mono (by omega), rfl, fun c z => absurd z (by simp), upd_same, fun b o nb e => ?_⟩ ?_ ?_
      · have e2 : upd (upd H p (.lst ys1)) p (.lst ys2) b = some o := by rw [upd_ne nb, upd_ne nb]; exact e
        rw [upd_ne (ne_of_none e2 hD)]
        exact e2
      · rintro i H' hi ⟨xs', cs, h1, h2, h3, h4, h5, h6⟩
        refine ⟨rfl, _, rfl, p, 26, n + 2 + (i : Nat), xs', rfl, h1, h2, by omega, by decide, by decide, fun r ys r0 r3 hy => ?_⟩
        have hl : (abc.length : Int) = 26 := by decide +kernel
        refine ⟨abc, r, 97 + r.toNat, rfl, rfl, r0, by omega, by omega, abc_at r0 r3, (cs.map one).map V.str, by rw [upd_ne (Ne.symm npD)]; exact h5, ?_, ys, cs ++ [97 + r.toNat], ?_, hy.mono (by push_cast; omega), by simp [h3], ?_, ?_, ?_⟩
        · rw [List.length_map, List.length_map, h3, sizeLine_eq]
          omega
        · rw [upd_ne npD]
          exact upd_same
        · intro c hc
          rcases List.mem_append.mp hc with z | z
          · exact h4 c z
          · have e := List.mem_singleton.mp z
            omega
        · rw [upd_same, List.map_append, List.map_append]
          rfl
        · intro b o nb e
          have e2 := h6 b o nb e
          have nD : b ≠ D := fun z => by
            have e3 : upd (upd H p (.lst ys1)) p (.lst ys2) b = some o := by rw [upd_ne nb, upd_ne nb]; exact e
            rw [z, hD] at e3
            cases e3
          rw [upd_ne nD, upd_ne nb]
          exact e2
      · rintro H' ⟨xs', cs, h1, h2, h3, h4, h5, h6⟩
        have e := join_codes cs
        refine ⟨_, D, cs.map one, rfl, rfl, Or.inl (SqL.of h5), ?_, q _ xs' H' ⟨?_, ?_⟩ (h2.mono (by omega)) h6 h1⟩
        · rw [ones_len, List.length_map, h3]
          have : (Str.ofString "").length = 0 := by decide +kernel
          rw [this]
          omega
        · rw [e, h3]
          omega
        · rw [e]
          exact h4
end
end K1
set_option Elab.async false
set_option linter.all false
set_option maxRecDepth 100000
set_option maxHeartbeats 4000000
namespace K1
open PySem PySem.Spec PyProof.Rows L2
section
variable {P : Program} {w : World} {K : PySem.W.Frag} {mg : Str → Option Value} {base : Heap}
theorem cut_ints (ns : List Int) (i j : Int) : cutV (ns.map V.int) (some i) (some j) = ((ns.drop (HT.sIx ns.length 0 (some i))).take (HT.sIx ns.length ns.length (some j) - HT.sIx ns.length 0 (some i))).map V.int := by
  unfold cutV
  rw [List.length_map, List.map_take, List.map_drop]
/-! ### _law_purse -/
def spPurse (K : PySem.W.Frag) : Sp := fun vs H Q _ => ∃ (a : Addr) (k : Int) (ns : List Int), vs = [.ref a, .int k] ∧ SqL K H a (ns.map V.int) ∧ 0 ≤ k ∧ k ≤ 2 ∧
  ∀ (r : Addr) (xs : List V) (H' : Hp), PuOk 0 xs → Same H H' → H r = none → H' r = some (.lst xs) → Q (.ref r) H'
theorem scPurse : FnScope ["_law_script", "_law_at", "_law_seed"] ["_law_script", "_law_at"] (defScope sPurse) := ⟨rfl, rfl, rfl, by decide +kernel, rfl, by decide +kernel, by decide +kernel⟩
theorem ok_purse {f : Addr} {fd : FuncData} (F : FnP K "_law_purse" sPurse f fd) (T : Tx K mg) : FnOk P w K mg base CX0 1 f fd ["_law_script", "_law_at"] (spPurse K) := by
  refine F.ok scPurse (fun vs H Q E h => ?_) (fun cdv A outer s H vs Q E hr h => ?_)
  · obtain ⟨_, _, _, rfl, _⟩ := h
    rfl
  · obtain ⟨a, k, ns, rfl, hS, k0, k1, q⟩ := h
    have gI := T.fr "int" (by decide +kernel)
    have gM := T.fr "max" (by decide +kernel)
    have gS := T.fr "sum" (by decide +kernel)
    refine ⟨_, PSs.nox (pss_cons (ps_set (i := 2) scPurse.nd rfl (Or.inl rfl) (pe_callB (cr_sum rfl) (by rfl) gS (by decide +kernel) (pa_cons (pe_slice sl_list (pv 0) (po_some (pv 1)) (po_some (pe_op op_add (pv 1) pe_int))) pa_nil)))
      (pss_one (ps_ret (pe_lst (pa_cons (pe_op op_mod (pe_callTy call_int1 (by rfl) gI (by decide +kernel) (pa_cons (pe_callB (call_max2 rfl) (by rfl) gM (by decide +kernel) (pa_cons (pe_op op_sub (pv 2) (pe_op op_pow pe_int pe_int)) (pa_cons pe_int pa_nil))) pa_nil)) (pe_op op_powB (pe_op op_pow pe_int pe_int) pe_int))
        (pa_cons (pe_op op_mod (pe_callTy call_int1 (by rfl) gI (by decide +kernel) (pa_cons (pv 2) pa_nil)) pe_int) (pa_cons pe_int (pa_cons (pv 1) pa_nil)))))))), ?_⟩
    refine ⟨_, rfl, _, rfl, _, rfl, _, rfl, _, _, rfl, rfl, _, rfl, a, _, rfl, hS, fun b hb => ?_⟩
    refine ⟨b, _, rfl, SqL.of (by rw [upd_same, cut_ints]), ?_⟩
    refine ⟨_, rfl, _, _, rfl, rfl, ⟨by decide, by decide, by decide +kernel⟩, _, _, rfl, rfl, _, _, rfl, Or.inl ⟨_, rfl, _, _, rfl, rfl, ⟨by decide, by decide, by decide +kernel⟩, _, _, rfl, rfl, ⟨by decide, by decide +kernel⟩, ?_⟩⟩
    refine ⟨_, _, rfl, rfl, (by show (0 : Int) < (10 ^ Int.toNat 60) ^ Int.toNat 8; decide +kernel), _, rfl, Or.inl ⟨_, rfl, _, _, rfl, rfl, (by show (0 : Int) < _; decide), _, rfl, (by show 4 ≤ sizeLine; decide +kernel), fun r hr => ?_⟩⟩
    refine q r _ _ ⟨_, _, _, _, rfl, Int.emod_nonneg _ (by decide +kernel), Int.emod_nonneg _ (by decide), Int.emod_lt_of_pos _ (by decide), by decide, by decide, k0, k1⟩ (fun c o e => ?_) ?_ upd_same
    · have e2 : upd H b (.lst (cutV (ns.map V.int) (some k) (some (k + 1)))) c = some o := by rw [upd_ne (ne_of_none e hb)]; exact e
      rw [upd_ne (ne_of_none e2 hr)]
      exact e2
    · have nrb : r ≠ b := fun z => by
        rw [z, upd_same] at hr
        cases hr
      rw [upd_ne nrb] at hr
      exact hr
/-! ### _law_purses -/
/-- purses at ps, new since H, the list of them at D -/
def PsAt (H H' : Hp) (D : Addr) (ps : List Addr) : Prop := Same H H' ∧ H' D = some (.lst (ps.map V.ref)) ∧ ps.Nodup ∧ ∀ p ∈ ps, H p = none ∧ p ≠ D ∧ ∃ xs, H' p = some (.lst xs) ∧ PuOk 0 xs
def spPurses (K : PySem.W.Frag) : Sp := fun vs H Q _ => ∃ (a : Addr) (ns : List Int), vs = [.ref a, .int 3] ∧ SqL K H a (ns.map V.int) ∧
  ∀ (D : Addr) (ps : List Addr) (H' : Hp), ps.length ≤ 3 → H D = none → PsAt H H' D ps → Q (.ref D) H'
theorem scPurses : FnScope ["_law_script", "_law_few", "_law_at"] ["_law_script", "_law_few"] (defScope sPurses) := ⟨rfl, rfl, rfl, by decide +kernel, rfl, by decide +kernel, by decide +kernel⟩
theorem ok_purses {f g : Addr} {fd fdP : FuncData} (F : FnP K "_law_purses" sPurses f fd) (FP : FnP K "_law_purse" sPurse g fdP) (hgP : mg "_law_purse" = some (.ref g)) (T : Tx K mg) : FnOk P w K mg base CX0 2 f fd ["_law_script", "_law_few"] (spPurses K) := by
  have GP : FnOk P w K mg base CX0 1 g fdP ["_law_script", "_law_at"] (spPurse K) := ok_purse FP T
  have bP : Binds K fdP ["_law_script", "_law_at"] [] := FP.bindsN fun _ _ _ _ _ _ us hl => match us, hl with | [_, _], _ => rfl
  refine F.ok scPurses (fun vs H Q E h => ?_) (fun cdv A outer s H vs Q E hr h => ?_)
  · obtain ⟨_, _, rfl, _⟩ := h
    rfl
  · obtain ⟨a, ns, rfl, hS, q⟩ := h
    have gR := T.fr "range" (by decide +kernel)
    have gMa := T.fr "max" (by decide +kernel)
    have gMi := T.fr "min" (by decide +kernel)
    have gL := T.fr "len" (by decide +kernel)
    refine ⟨_, PSs.nox (pss_one (ps_ret (pe_lc (own := [("_law_at", 2)]) (g := gName 2) (tt := tYes) rfl scPurses.nd
        (pi_range1 rfl gR (pa_cons (pe_callB (call_max2 rfl) (by rfl) gMa (by decide +kernel) (pa_cons pe_int (pa_cons (pe_callB (call_min2 rfl) (by rfl) gMi (by decide +kernel) (pa_cons (pv 1) (pa_cons (pe_callB call_len_seq (by rfl) gL PySem.boot_len (pa_cons (pv 0) pa_nil)) pa_nil))) pa_nil))) pa_nil))
        (blkOk_by (own := [("_law_at", 2)]) (N := ["_law_script", "_law_few", "_law_at"]) (sc := defScope sPurses) (by decide +kernel))
        (fun _ _ _ _ _ => pg_name (i := 2) scPurses.nd rfl (Or.inl rfl)) (fun _ _ _ _ _ => pts_nil)
        (fun _ _ _ _ _ => pe_call GP hr rfl hgP FP.kp bP .nil pass0 (pa_cons (pv 0) (pa_cons (pv 2) pa_nil)))))), ?_⟩
    have hm : ∀ z : Int, 0 ≤ z → (1 : Int) ≤ (if (if z < 3 then z else 3) > 1 then (if z < 3 then z else 3) else 1) ∧ (if (if z < 3 then z else 3) > 1 then (if z < 3 then z else 3) else 1) ≤ 3 := fun z hz => by
      by_cases h1 : z < 3
      · rw [if_pos h1]
        by_cases h2 : z > 1
        · rw [if_pos h2]; omega
        · rw [if_neg h2]; omega
      · rw [if_neg h1, if_pos (by decide)]; omega
    have hm2 := hm ((ns.map V.int).length : Nat) (by omega)
    refine ⟨_, rfl, _, rfl, a, _, rfl, Or.inl hS, _, _, rfl, _, _, rfl, _, rfl, by omega, by omega, fun D hD => ?_⟩
    generalize hn : (if (if (((ns.map V.int).length : Nat) : Int) < 3 then (((ns.map V.int).length : Nat) : Int) else 3) > 1 then (if (((ns.map V.int).length : Nat) : Int) < 3 then (((ns.map V.int).length : Nat) : Int) else 3) else 1) = n at hm2 ⊢
    refine lc_range (lo := 0) (n := n.toNat) (fun i H' => ∃ ps : List Addr, ps.length = i ∧ PsAt H H' D ps) ⟨[], rfl, fun b o e => ?_, upd_same, List.nodup_nil, fun p z => absurd z (by simp)⟩ ?_ ?_
    · rw [upd_ne (ne_of_none e hD)]
      exact e
    · rintro i H' hi ⟨ps, hl, s0, hd, nd, hp⟩
      refine ⟨rfl, _, rfl, _, rfl, a, _, ns, rfl, s0.seq hS, by omega, by omega, fun r xs H2 hx s1 hr2 h2 => ?_⟩
      have nrD : r ≠ D := fun z => by
        rw [z, hd] at hr2
        cases hr2
      have hr0 : H r = none := s0.free hr2
      refine ⟨ps.map V.ref, s1 _ _ hd, by rw [List.length_map, hl, sizeLine_eq]; omega, ps ++ [r], by simp [hl], fun b o e => ?_, ?_, ?_, ?_⟩
      · rw [upd_ne (ne_of_none e hD)]
        exact s1 _ _ (s0 _ _ e)
      · rw [upd_same, List.map_append]
        rfl
      · refine List.nodup_append.mpr ⟨nd, by simp, fun b hb c hc => ?_⟩
        have e : c = r := List.mem_singleton.mp hc
        rw [e]
        intro z
        obtain ⟨_, _, xs', e2, _⟩ := hp b hb
        rw [z, hr2] at e2
        cases e2
      · intro p hpm
        rcases List.mem_append.mp hpm with z | z
        · obtain ⟨e1, e2, xs', e3, e4⟩ := hp p z
          exact ⟨e1, e2, xs', by rw [upd_ne e2]; exact s1 _ _ e3, e4⟩
        · have e : p = r := List.mem_singleton.mp z
          rw [e]
          exact ⟨hr0, nrD, xs, by rw [upd_ne nrD]; exact h2, hx⟩
    · rintro H' ⟨ps, hl, h⟩
      exact q D ps H' (by omega) hD h
end
end K1
set_option Elab.async false
set_option linter.all false
set_option maxRecDepth 100000
set_option maxHeartbeats 8000000
namespace K1
open PySem PySem.Spec PyProof.Rows L2
/-! ### the text of an __init__ -/
def iArgs (p1 p2 p3 : Pos) : Arguments := { posonlyargs := [], args := [{ arg := "self", annotation := none, pos := p1 }, { arg := "value", annotation := none, pos := p2 }], vararg := none, kwonlyargs := [], kw_defaults := [], kwarg := none, defaults := [.Constant .none 0 p3] }
def iBody (p1 p2 p3 p4 : Pos) : List Stmt := [.Assign [.Attribute (.Name "self" p1) "value" p2] (.Name "value" p3) p4]
def iScope : Scope := { kind := .function, names := [("self", .local), ("value", .local)], isGenerator := false, isCoroutine := false, more := [] }
theorem ini_form (i : Nat) (h : i < 27) : ∃ p1 p2 p3 p4 p5 p6 p7, defArgs (sIni i) = iArgs p1 p2 p3 ∧ defBody (sIni i) = iBody p4 p5 p6 p7 ∧ defScope (sIni i) = iScope := by
  have e : i = 0 ∨ i = 1 ∨ i = 2 ∨ i = 3 ∨ i = 4 ∨ i = 5 ∨ i = 6 ∨ i = 7 ∨ i = 8 ∨ i = 9 ∨ i = 10 ∨ i = 11 ∨ i = 12 ∨ i = 13 ∨ i = 14 ∨ i = 15 ∨ i = 16 ∨ i = 17 ∨ i = 18 ∨ i = 19 ∨ i = 20 ∨ i = 21 ∨ i = 22 ∨ i = 23 ∨ i = 24 ∨ i = 25 ∨ i = 26 := by omega
  rcases e with rfl | rfl | rfl | rfl | rfl | rfl | rfl | rfl | rfl | rfl | rfl | rfl | rfl | rfl | rfl | rfl | rfl | rfl | rfl | rfl | rfl | rfl | rfl | rfl | rfl | rfl | rfl <;> exact ⟨_, _, _, _, _, _, _, rfl, rfl, rfl⟩
theorem scIni : FnScope ["self", "value"] ["self", "value"] iScope := ⟨rfl, rfl, rfl, by decide +kernel, rfl, by decide +kernel, by decide +kernel⟩
theorem fn_at (i : Nat) (h : i < 27) : fn[13 + i]? = some (dI i) := by
  unfold fn
  rw [List.getElem?_append_right (by show 13 ≤ 13 + i; omega)]
  show ((List.range 27).map dI)[13 + i - 13]? = _
  rw [Nat.add_sub_cancel_left, List.getElem?_map, List.getElem?_range h]
  rfl
section
variable {P : Program} {w : World} {K : PySem.W.Frag} {mg : Str → Option Value} {base : Heap}
theorem ok_ini {q : Str} {params : Arguments} {f : Addr} {fd : FuncData} {p1 p2 p3 p4 : Pos} (F : FunD K "__init__" q params (iBody p1 p2 p3 p4) iScope [.non] [] f fd) : FnOk P w K mg base CX0 1 f fd ["self", "value"] (spXI K) := by
  refine F.ok scIni (fun vs H Q E h => ?_) (fun cdv A outer s H vs Q E hr h => ?_)
  · obtain ⟨_, _, _, rfl, _⟩ := h
    rfl
  · obtain ⟨a, C, v, rfl, ha, hC, hn, q⟩ := h
    refine ⟨_, PSs.nox (pss_one (ps_ost (pv 0) (pv 1) rfl)), ?_⟩
    exact ⟨_, rfl, _, rfl, a, C, rfl, hC, hn, Or.inl ⟨ha, fun d nd ne => q d nd ne⟩⟩
/-- what the making of such an error wants: its class, its name, its __init__ and how that is called -/
structure Mkr (P : Program) (w : World) (K : PySem.W.Frag) (mg : Str → Option Value) (base : Heap) (i : Nat) : Prop where
  xv : XvC K (ca K i) (ia K i)
  gl : mg (cx i) = some (.ref (ca K i))
  fn : ∃ fd, FnOk P w K mg base CX0 1 (ia K i) fd ["self", "value"] (spXI K) ∧
    (∀ (s : Shared) (a : Addr) (u : Value), K.In s.heap → BindsTo s fd ⟨[.ref a, u], []⟩ [("self", .ref a), ("value", u)]) ∧
    (∀ (s : Shared) (a : Addr), K.In s.heap → BindsTo s fd ⟨[.ref a], []⟩ [("self", .ref a), ("value", .none)]) ∧
    (∀ (s : Shared) (a : Addr) (u : Value), K.In s.heap → BindsTo s fd ⟨[.ref a], [("value", u)]⟩ [("self", .ref a), ("value", u)])
theorem mkr_of (c : Says K) (T : Tx K mg) (i : Nat) (h : i < 27) : Mkr P w K mg base i := by
  obtain ⟨fd, F⟩ := c.def_ (13 + i) (d := dI i) (fn_at i h)
  obtain ⟨p1, p2, p3, p4, p5, p6, p7, e1, e2, e3⟩ := ini_form i h
  have F2 : FunD K "__init__" (cx i ++ ".__init__") (iArgs p1 p2 p3) (iBody p4 p5 p6 p7) iScope [.non] [] (ia K i) fd := by
    have F0 : FunD K "__init__" (cx i ++ ".__init__") (defArgs (sIni i)) (defBody (sIni i)) (defScope (sIni i)) [.non] [] (ia K i) fd := F
    rw [e1, e2, e3] at F0
    exact F0
  refine ⟨T.xv i h, (T.cls i (by omega)).1, fd, ok_ini F2, ?_, ?_, ?_⟩
  · obtain ⟨ds, r, b⟩ := F2.binds1 (ps := ["self", "value"]) 2 1 (List.cons_ne_nil _ _) rfl (fun T kV doc pm an cdv ct us its h1 h2 => match us, its, h1, h2 with | [_, _], [_], _, _ => ⟨_, rfl, rfl⟩)
    cases r
    exact fun s a u k => b s [.ref a, u] k rfl
  · obtain ⟨ds, r, b⟩ := F2.binds1 (ps := ["self", "value"]) 1 0 (List.cons_ne_nil _ _) rfl (fun T kV doc pm an cdv ct us its h1 h2 => match us, its, h1, h2 with | [_], [_], _, _ => ⟨_, rfl, rfl⟩)
    cases r with
    | cons r1 r2 =>
      cases r2
      cases r1
      exact fun s a k => b s [.ref a] k rfl
  · obtain ⟨its, b⟩ := F2.kbindsD (ps := ["self", "value"]) 1 ["value"] (fun us its ws => us ++ ws) (List.cons_ne_nil _ _) (fun r1 r2 r3 => r1.append r3)
      (fun T kV doc pm an cdv ct us its ws h1 h2 h3 => match us, its, ws, h1, h2, h3 with | [_], [_], [_], _, _, _ => ⟨_, rfl, rfl⟩)
    exact fun s a u k => b.to s [.ref a] [u] k rfl rfl
end
section
variable {X : Cx} {i : Nat} {x : Str} {p pos kpos : Pos} {e : Expr} {te : TE}
theorem pe_mk1 (Z : Mkr X.prog X.w X.K X.mg X.base i) (hr : Room 2 X.A) (hx : cx i = x) (hg : Gl X x) (he : PE X e te) (hs : starEach [e] X.env = (false, eval e X.env) :: starEach [] X.env := by rfl) (hdb : (x == ("__debug__" : Str)) = false := by decide) :
    PE X (.Call (.Name x p) [e] [] pos) (fun σ H Q => te σ H fun v H1 => tNew (ca X.K i) v H1 Q) := by
  obtain ⟨fd, G, b1, b0, bK⟩ := Z.fn
  exact pe_xv1 Z.xv G hr pass0 hg (hx ▸ Z.gl) b1 he hs hdb
theorem pe_mk0 (Z : Mkr X.prog X.w X.K X.mg X.base i) (hr : Room 2 X.A) (hx : cx i = x) (hg : Gl X x) (hdb : (x == ("__debug__" : Str)) = false := by decide) :
    PE X (.Call (.Name x p) [] [] pos) (fun _ H Q => tNew (ca X.K i) .non H Q) := by
  obtain ⟨fd, G, b1, b0, bK⟩ := Z.fn
  exact pe_xv0 Z.xv G hr pass0 hg (hx ▸ Z.gl) b0 hdb
theorem pe_mkK (Z : Mkr X.prog X.w X.K X.mg X.base i) (hr : Room 2 X.A) (hx : cx i = x) (hg : Gl X x) (he : PE X e te) (hdb : (x == ("__debug__" : Str)) = false := by decide) :
    PE X (.Call (.Name x p) [] [⟨some "value", e, kpos⟩] pos) (fun σ H Q => te σ H fun v H1 => tNew (ca X.K i) v H1 Q) := by
  obtain ⟨fd, G, b1, b0, bK⟩ := Z.fn
  exact pe_xvK Z.xv G hr pass0 hg (hx ▸ Z.gl) bK he hdb
end
/-! ### errors, one behind the other -/
theorem exo_ne_lst {e C : Addr} {d : Option Addr} {xs : List V} : exo e C d ≠ .lst xs := fun z => by
  have z' : HO.ext _ = HO.lst xs := z
  cases z'
theorem exd_ne_lst {e : Addr} {fs : List (Str × V)} {xs : List V} : exd e fs ≠ .lst xs := fun z => by
  have z' : HO.ext _ = HO.lst xs := z
  cases z'
theorem exV_same {C a : Addr} {v : V} {H H' : Hp} (x : ExV C a v H) (s : Same H H') : ExV C a v H' := by
  obtain ⟨d, e1, e2⟩ := x
  exact ⟨d, s _ _ e1, s _ _ e2⟩
theorem new_of {C : Addr} {v : V} {H : Hp} {Q : VK} (h : ∀ a H', H a = none → Same H H' → ExV C a v H' → Q (.ref a) H') : tNew C v H Q := fun a d na nd ne => by
  refine h a _ na (fun b o e => ?_) ⟨d, upd_same, ?_⟩
  · rw [upd_ne (ne_of_none e na), upd_ne (ne_of_none e nd)]
    exact e
  · rw [upd_ne ne]
    exact upd_same
def AlE (K : PySem.W.Frag) (v : V) (H : Hp) : Nat → List Addr → Prop
  | _, [] => True
  | k, a :: r => ExV (ca K k) a v H ∧ AlE K v H (k + 1) r
theorem al_same {K : PySem.W.Frag} {v : V} {H H' : Hp} (s : Same H H') : ∀ {as : List Addr} {k : Nat}, AlE K v H k as → AlE K v H' k as
  | [], _, _ => trivial
  | _ :: _, _, h => ⟨exV_same h.1 s, al_same s h.2⟩
theorem al_app {K : PySem.W.Frag} {v : V} {H : Hp} : ∀ {as bs : List Addr} {k : Nat}, AlE K v H k as → AlE K v H (k + as.length) bs → AlE K v H k (as ++ bs)
  | [], _, k, _, h => h
  | a :: r, bs, k, h1, h2 => ⟨h1.1, al_app h1.2 (by
      have e : k + 1 + r.length = k + (a :: r).length := by rw [List.length_cons]; omega
      rw [e]
      exact h2)⟩
theorem al_at {K : PySem.W.Frag} {v : V} {H : Hp} : ∀ {as : List Addr} {k : Nat}, AlE K v H k as → ∀ (i : Nat) (a : Addr), as[i]? = some a → ExV (ca K (k + i)) a v H
  | [], _, _, i, a, e => by simp at e
  | b :: r, k, h, 0, a, e => by
    have e2 : b = a := by simpa using e
    rw [← e2]
    exact h.1
  | b :: r, k, h, i + 1, a, e => by
    have q := al_at h.2 i a (by simpa using e)
    have e3 : k + 1 + i = k + (i + 1) := by omega
    rw [e3] at q
    exact q
/-- a list at L of the first n errors, their field v -/
def ErrL (K : PySem.W.Frag) (v : V) (H : Hp) (L : Addr) (n : Nat) : Prop := ∃ as : List Addr, as.length = n ∧ H L = some (.lst (as.map V.ref)) ∧ AlE K v H 0 as
theorem same_upd {H : Hp} {p : Addr} {o : HO} (n : H p = none) : Same H (upd H p o) := fun b u e => by
  rw [upd_ne (ne_of_none e n)]
  exact e
theorem same_trans {H1 H2 H3 : Hp} (a : Same H1 H2) (b : Same H2 H3) : Same H1 H3 := fun c o e => b _ _ (a _ _ e)
theorem new_c {C : Addr} {v : V} {t : TA} {σ : L2.St} {H : Hp} {Q : List V → Hp → Prop} (h : ∀ a H', H a = none → Same H H' → ExV C a v H' → t σ H' fun xs H2 => Q (.ref a :: xs) H2) : tCons (fun _ H Q => tNew C v H Q) t σ H Q := show tNew C v H (fun x H1 => t σ H1 fun xs H2 => Q (x :: xs) H2) from new_of h
theorem new_l {C : Addr} {v : V} {t : TA} {σ : L2.St} {H : Hp} {Q : VK} (h : ∀ a H', H a = none → Same H H' → ExV C a v H' → t σ H' fun xs H2 => (V.ref a :: xs).length ≤ sizeLine ∧ ∀ p, H2 p = none → Q (.ref p) (upd H2 p (.lst (V.ref a :: xs)))) : tLst (tCons (fun _ H Q => tNew C v H Q) t) σ H Q :=
  show tNew C v H (fun x H1 => t σ H1 fun xs H2 => (x :: xs).length ≤ sizeLine ∧ ∀ p, H2 p = none → Q (.ref p) (upd H2 p (.lst (x :: xs)))) from new_of h
theorem new_s {C : Addr} {v : V} {t : TA} {g : TG} {u : TS} {D : Ends} {σ : L2.St} {H : Hp} (h : tLst (tCons (fun _ H Q => tNew C v H Q) t) σ H fun x H1 => g x σ H1 (u D)) : tSeq (tAsg (tLst (tCons (fun _ H Q => tNew C v H Q) t)) g) u D σ H := h
/-- the first display is laid -/
theorem errL_new {K : PySem.W.Frag} {v : V} {H : Hp} {p : Addr} {as : List Addr} (n : H p = none) (h : AlE K v H 0 as) : ErrL K v (upd H p (.lst (as.map V.ref))) p as.length :=
  ⟨as, rfl, upd_same, al_same (same_upd n) h⟩
/-- a further display is laid behind it -/
theorem errL_cat {K : PySem.W.Frag} {v : V} {H : Hp} {p : Addr} {as bs : List Addr} {k : Nat} (n : H p = none) (hk : as.length = k) (h1 : AlE K v H 0 as) (h2 : AlE K v H k bs) : ErrL K v (upd H p (.lst (as.map V.ref ++ bs.map V.ref))) p (k + bs.length) :=
  ⟨as ++ bs, by rw [List.length_append, hk], by rw [upd_same, List.map_append], al_same (same_upd n) (al_app h1 (by rw [Nat.zero_add, hk]; exact h2))⟩

section
variable {P : Program} {w : World} {K : PySem.W.Frag} {mg : Str → Option Value} {base : Heap}
/-! ### _law_first -/
def spFirst (K : PySem.W.Frag) : Sp := fun vs H Q _ => ∃ v, vs = [v] ∧ ∀ (L : Addr) (H' : Hp), H L = none → Same H H' → ErrL K v H' L 27 → Q (.ref L) H'
theorem scFirst : FnScope ["_law_thing", "_law_found"] ["_law_thing"] (defScope sFirst) := ⟨rfl, rfl, rfl, by decide +kernel, rfl, by decide +kernel, by decide +kernel⟩
theorem ok_first {f : Addr} {fd : FuncData} (F : FnP K "_law_first" sFirst f fd) (Z : ∀ i, i < 27 → Mkr P w K mg base i) : FnOk P w K mg base CX0 3 f fd ["_law_thing"] (spFirst K) := by
  refine F.ok scFirst (fun vs H Q E h => ?_) (fun cdv A outer s H vs Q E hr h => ?_)
  · obtain ⟨_, rfl, _⟩ := h
    rfl
  · obtain ⟨v, rfl, q⟩ := h
    refine ⟨_, PSs.nox (pss_cons (ps_set (i := 1) scFirst.nd rfl (Or.inl rfl) (pe_lst (pa_cons (pe_mk1 (i := 0) (Z 0 (by decide)) hr rfl (by rfl) (pv 0)) (pa_cons (pe_mk1 (i := 1) (Z 1 (by decide)) hr rfl (by rfl) (pv 0)) (pa_cons (pe_mk1 (i := 2) (Z 2 (by decide)) hr rfl (by rfl) (pv 0)) (pa_cons (pe_mk1 (i := 3) (Z 3 (by decide)) hr rfl (by rfl) (pv 0)) pa_nil))))))
      (pss_cons (ps_set (i := 1) scFirst.nd rfl (Or.inl rfl) (pe_op op_cat (pv 1) (pe_lst (pa_cons (pe_mk1 (i := 4) (Z 4 (by decide)) hr rfl (by rfl) (pv 0)) (pa_cons (pe_mk1 (i := 5) (Z 5 (by decide)) hr rfl (by rfl) (pv 0)) (pa_cons (pe_mk1 (i := 6) (Z 6 (by decide)) hr rfl (by rfl) (pv 0)) (pa_cons (pe_mk1 (i := 7) (Z 7 (by decide)) hr rfl (by rfl) (pv 0)) pa_nil)))))))
      (pss_cons (ps_set (i := 1) scFirst.nd rfl (Or.inl rfl) (pe_op op_cat (pv 1) (pe_lst (pa_cons (pe_mk1 (i := 8) (Z 8 (by decide)) hr rfl (by rfl) (pv 0)) (pa_cons (pe_mk1 (i := 9) (Z 9 (by decide)) hr rfl (by rfl) (pv 0)) (pa_cons (pe_mk1 (i := 10) (Z 10 (by decide)) hr rfl (by rfl) (pv 0)) (pa_cons (pe_mk1 (i := 11) (Z 11 (by decide)) hr rfl (by rfl) (pv 0)) pa_nil)))))))
      (pss_cons (ps_set (i := 1) scFirst.nd rfl (Or.inl rfl) (pe_op op_cat (pv 1) (pe_lst (pa_cons (pe_mk1 (i := 12) (Z 12 (by decide)) hr rfl (by rfl) (pv 0)) (pa_cons (pe_mk1 (i := 13) (Z 13 (by decide)) hr rfl (by rfl) (pv 0)) (pa_cons (pe_mk1 (i := 14) (Z 14 (by decide)) hr rfl (by rfl) (pv 0)) (pa_cons (pe_mk1 (i := 15) (Z 15 (by decide)) hr rfl (by rfl) (pv 0)) pa_nil)))))))
      (pss_cons (ps_set (i := 1) scFirst.nd rfl (Or.inl rfl) (pe_op op_cat (pv 1) (pe_lst (pa_cons (pe_mk1 (i := 16) (Z 16 (by decide)) hr rfl (by rfl) (pv 0)) (pa_cons (pe_mk1 (i := 17) (Z 17 (by decide)) hr rfl (by rfl) (pv 0)) (pa_cons (pe_mk1 (i := 18) (Z 18 (by decide)) hr rfl (by rfl) (pv 0)) (pa_cons (pe_mk1 (i := 19) (Z 19 (by decide)) hr rfl (by rfl) (pv 0)) pa_nil)))))))
      (pss_cons (ps_set (i := 1) scFirst.nd rfl (Or.inl rfl) (pe_op op_cat (pv 1) (pe_lst (pa_cons (pe_mk1 (i := 20) (Z 20 (by decide)) hr rfl (by rfl) (pv 0)) (pa_cons (pe_mk1 (i := 21) (Z 21 (by decide)) hr rfl (by rfl) (pv 0)) (pa_cons (pe_mk1 (i := 22) (Z 22 (by decide)) hr rfl (by rfl) (pv 0)) (pa_cons (pe_mk1 (i := 23) (Z 23 (by decide)) hr rfl (by rfl) (pv 0)) pa_nil)))))))
      (pss_cons (ps_set (i := 1) scFirst.nd rfl (Or.inl rfl) (pe_op op_cat (pv 1) (pe_lst (pa_cons (pe_mk1 (i := 24) (Z 24 (by decide)) hr rfl (by rfl) (pv 0)) (pa_cons (pe_mk1 (i := 25) (Z 25 (by decide)) hr rfl (by rfl) (pv 0)) (pa_cons (pe_mk1 (i := 26) (Z 26 (by decide)) hr rfl (by rfl) (pv 0)) pa_nil))))))
      (pss_one (ps_ret (pv 1)))))))))), ?_⟩
    refine ⟨_, rfl, new_of fun a0 G0 n0 s0 x0 => ?_⟩
    refine ⟨_, rfl, new_of fun a1 G1 n1 s1 x1 => ?_⟩
    refine ⟨_, rfl, new_of fun a2 G2 n2 s2 x2 => ?_⟩
    refine ⟨_, rfl, new_of fun a3 G3 n3 s3 x3 => ?_⟩
    refine ⟨(by show 4 ≤ sizeLine; decide +kernel), fun l0 nl0 => ?_⟩
    have t0 : Same H G3 := (same_trans (same_trans (same_trans s0 s1) s2) s3)
    have al0 : AlE K v G3 0 [a0, a1, a2, a3] := ⟨(exV_same (exV_same (exV_same x0 s1) s2) s3), ⟨(exV_same (exV_same x1 s2) s3), ⟨(exV_same x2 s3), ⟨x3, trivial⟩⟩⟩⟩
    have er0 : ErrL K v (upd G3 l0 (.lst (([a0, a1, a2, a3] : List Addr).map V.ref))) l0 4 := errL_new nl0 al0
    have u0 : Same H (upd G3 l0 (.lst (([a0, a1, a2, a3] : List Addr).map V.ref))) := same_trans t0 (same_upd nl0)
    have z0 : H l0 = none := t0.free nl0
    generalize hh0 : upd G3 l0 (.lst (([a0, a1, a2, a3] : List Addr).map V.ref)) = W0 at er0 u0
    have hh0b : upd G3 l0 (.lst [.ref a0, .ref a1, .ref a2, .ref a3]) = W0 := hh0
    rw [hh0b]
    refine ⟨_, rfl, _, rfl, new_of fun a4 G4 n4 s4 x4 => ?_⟩
    refine ⟨_, rfl, new_of fun a5 G5 n5 s5 x5 => ?_⟩
    refine ⟨_, rfl, new_of fun a6 G6 n6 s6 x6 => ?_⟩
    refine ⟨_, rfl, new_of fun a7 G7 n7 s7 x7 => ?_⟩
    refine ⟨(by show 4 ≤ sizeLine; decide +kernel), fun l1 nl1 => ?_⟩
    have t1 : Same W0 G7 := (same_trans (same_trans (same_trans s4 s5) s6) s7)
    have al1 : AlE K v G7 4 [a4, a5, a6, a7] := ⟨(exV_same (exV_same (exV_same x4 s5) s6) s7), ⟨(exV_same (exV_same x5 s6) s7), ⟨(exV_same x6 s7), ⟨x7, trivial⟩⟩⟩⟩
    obtain ⟨as1, e1a, e1b, e1c⟩ := er0
    have f1 : upd G7 l1 (.lst [.ref a4, .ref a5, .ref a6, .ref a7]) l0 = some (.lst (as1.map V.ref)) := by rw [upd_ne (ne_of_none (t1 _ _ e1b) nl1)]; exact t1 _ _ e1b
    refine ⟨_, _, _, _, rfl, rfl, f1, upd_same, ?_, fun m1 nm1 => ?_⟩
    · rw [List.length_map, e1a, sizeLine_eq]; show 4 + 4 ≤ 16777216; decide
    have w1 : Same G7 (upd G7 l1 (.lst [.ref a4, .ref a5, .ref a6, .ref a7])) := same_upd nl1
    have er1 : ErrL K v (upd (upd G7 l1 (.lst [.ref a4, .ref a5, .ref a6, .ref a7])) m1 (.lst (as1.map V.ref ++ ([a4, a5, a6, a7] : List Addr).map V.ref))) m1 8 := errL_cat nm1 e1a (al_same w1 (al_same t1 e1c)) (al_same w1 al1)
    have u1 : Same H (upd (upd G7 l1 (.lst [.ref a4, .ref a5, .ref a6, .ref a7])) m1 (.lst (as1.map V.ref ++ ([a4, a5, a6, a7] : List Addr).map V.ref))) := same_trans u0 (same_trans t1 (same_trans w1 (same_upd nm1)))
    have z1 : H m1 = none := u0.free (t1.free (w1.free nm1))
    generalize hh1 : upd (upd G7 l1 (.lst [.ref a4, .ref a5, .ref a6, .ref a7])) m1 (.lst (as1.map V.ref ++ ([a4, a5, a6, a7] : List Addr).map V.ref)) = W1 at er1 u1
    have hh1b : upd (upd G7 l1 (.lst [.ref a4, .ref a5, .ref a6, .ref a7])) m1 (.lst (as1.map V.ref ++ [.ref a4, .ref a5, .ref a6, .ref a7])) = W1 := hh1
    rw [hh1b]
    refine ⟨_, rfl, _, rfl, new_of fun a8 G8 n8 s8 x8 => ?_⟩
    refine ⟨_, rfl, new_of fun a9 G9 n9 s9 x9 => ?_⟩
    refine ⟨_, rfl, new_of fun a10 G10 n10 s10 x10 => ?_⟩
    refine ⟨_, rfl, new_of fun a11 G11 n11 s11 x11 => ?_⟩
    refine ⟨(by show 4 ≤ sizeLine; decide +kernel), fun l2 nl2 => ?_⟩
    have t2 : Same W1 G11 := (same_trans (same_trans (same_trans s8 s9) s10) s11)
    have al2 : AlE K v G11 8 [a8, a9, a10, a11] := ⟨(exV_same (exV_same (exV_same x8 s9) s10) s11), ⟨(exV_same (exV_same x9 s10) s11), ⟨(exV_same x10 s11), ⟨x11, trivial⟩⟩⟩⟩
    obtain ⟨as2, e2a, e2b, e2c⟩ := er1
    have f2 : upd G11 l2 (.lst [.ref a8, .ref a9, .ref a10, .ref a11]) m1 = some (.lst (as2.map V.ref)) := by rw [upd_ne (ne_of_none (t2 _ _ e2b) nl2)]; exact t2 _ _ e2b
    refine ⟨_, _, _, _, rfl, rfl, f2, upd_same, ?_, fun m2 nm2 => ?_⟩
    · rw [List.length_map, e2a, sizeLine_eq]; show 8 + 4 ≤ 16777216; decide
    have w2 : Same G11 (upd G11 l2 (.lst [.ref a8, .ref a9, .ref a10, .ref a11])) := same_upd nl2
    have er2 : ErrL K v (upd (upd G11 l2 (.lst [.ref a8, .ref a9, .ref a10, .ref a11])) m2 (.lst (as2.map V.ref ++ ([a8, a9, a10, a11] : List Addr).map V.ref))) m2 12 := errL_cat nm2 e2a (al_same w2 (al_same t2 e2c)) (al_same w2 al2)
    have u2 : Same H (upd (upd G11 l2 (.lst [.ref a8, .ref a9, .ref a10, .ref a11])) m2 (.lst (as2.map V.ref ++ ([a8, a9, a10, a11] : List Addr).map V.ref))) := same_trans u1 (same_trans t2 (same_trans w2 (same_upd nm2)))
    have z2 : H m2 = none := u1.free (t2.free (w2.free nm2))
    generalize hh2 : upd (upd G11 l2 (.lst [.ref a8, .ref a9, .ref a10, .ref a11])) m2 (.lst (as2.map V.ref ++ ([a8, a9, a10, a11] : List Addr).map V.ref)) = W2 at er2 u2
    have hh2b : upd (upd G11 l2 (.lst [.ref a8, .ref a9, .ref a10, .ref a11])) m2 (.lst (as2.map V.ref ++ [.ref a8, .ref a9, .ref a10, .ref a11])) = W2 := hh2
    rw [hh2b]
    refine ⟨_, rfl, _, rfl, new_of fun a12 G12 n12 s12 x12 => ?_⟩
    refine ⟨_, rfl, new_of fun a13 G13 n13 s13 x13 => ?_⟩
    refine ⟨_, rfl, new_of fun a14 G14 n14 s14 x14 => ?_⟩
    refine ⟨_, rfl, new_of fun a15 G15 n15 s15 x15 => ?_⟩
    refine ⟨(by show 4 ≤ sizeLine; decide +kernel), fun l3 nl3 => ?_⟩
    have t3 : Same W2 G15 := (same_trans (same_trans (same_trans s12 s13) s14) s15)
    have al3 : AlE K v G15 12 [a12, a13, a14, a15] := ⟨(exV_same (exV_same (exV_same x12 s13) s14) s15), ⟨(exV_same (exV_same x13 s14) s15), ⟨(exV_same x14 s15), ⟨x15, trivial⟩⟩⟩⟩
    obtain ⟨as3, e3a, e3b, e3c⟩ := er2
    have f3 : upd G15 l3 (.lst [.ref a12, .ref a13, .ref a14, .ref a15]) m2 = some (.lst (as3.map V.ref)) := by rw [upd_ne (ne_of_none (t3 _ _ e3b) nl3)]; exact t3 _ _ e3b
    refine ⟨_, _, _, _, rfl, rfl, f3, upd_same, ?_, fun m3 nm3 => ?_⟩
    · rw [List.length_map, e3a, sizeLine_eq]; show 12 + 4 ≤ 16777216; decide
    have w3 : Same G15 (upd G15 l3 (.lst [.ref a12, .ref a13, .ref a14, .ref a15])) := same_upd nl3
    have er3 : ErrL K v (upd (upd G15 l3 (.lst [.ref a12, .ref a13, .ref a14, .ref a15])) m3 (.lst (as3.map V.ref ++ ([a12, a13, a14, a15] : List Addr).map V.ref))) m3 16 := errL_cat nm3 e3a (al_same w3 (al_same t3 e3c)) (al_same w3 al3)
    have u3 : Same H (upd (upd G15 l3 (.lst [.ref a12, .ref a13, .ref a14, .ref a15])) m3 (.lst (as3.map V.ref ++ ([a12, a13, a14, a15] : List Addr).map V.ref))) := same_trans u2 (same_trans t3 (same_trans w3 (same_upd nm3)))
    have z3 : H m3 = none := u2.free (t3.free (w3.free nm3))
    generalize hh3 : upd (upd G15 l3 (.lst [.ref a12, .ref a13, .ref a14, .ref a15])) m3 (.lst (as3.map V.ref ++ ([a12, a13, a14, a15] : List Addr).map V.ref)) = W3 at er3 u3
    have hh3b : upd (upd G15 l3 (.lst [.ref a12, .ref a13, .ref a14, .ref a15])) m3 (.lst (as3.map V.ref ++ [.ref a12, .ref a13, .ref a14, .ref a15])) = W3 := hh3
    rw [hh3b]
    refine ⟨_, rfl, _, rfl, new_of fun a16 G16 n16 s16 x16 => ?_⟩
    refine ⟨_, rfl, new_of fun a17 G17 n17 s17 x17 => ?_⟩
    refine ⟨_, rfl, new_of fun a18 G18 n18 s18 x18 => ?_⟩
    refine ⟨_, rfl, new_of fun a19 G19 n19 s19 x19 => ?_⟩
    refine ⟨(by show 4 ≤ sizeLine; decide +kernel), fun l4 nl4 => ?_⟩
    have t4 : Same W3 G19 := (same_trans (same_trans (same_trans s16 s17) s18) s19)
    have al4 : AlE K v G19 16 [a16, a17, a18, a19] := ⟨(exV_same (exV_same (exV_same x16 s17) s18) s19), ⟨(exV_same (exV_same x17 s18) s19), ⟨(exV_same x18 s19), ⟨x19, trivial⟩⟩⟩⟩
    obtain ⟨as4, e4a, e4b, e4c⟩ := er3
    have f4 : upd G19 l4 (.lst [.ref a16, .ref a17, .ref a18, .ref a19]) m3 = some (.lst (as4.map V.ref)) := by rw [upd_ne (ne_of_none (t4 _ _ e4b) nl4)]; exact t4 _ _ e4b
    refine ⟨_, _, _, _, rfl, rfl, f4, upd_same, ?_, fun m4 nm4 => ?_⟩
    · rw [List.length_map, e4a, sizeLine_eq]; show 16 + 4 ≤ 16777216; decide
    have w4 : Same G19 (upd G19 l4 (.lst [.ref a16, .ref a17, .ref a18, .ref a19])) := same_upd nl4
    have er4 : ErrL K v (upd (upd G19 l4 (.lst [.ref a16, .ref a17, .ref a18, .ref a19])) m4 (.lst (as4.map V.ref ++ ([a16, a17, a18, a19] : List Addr).map V.ref))) m4 20 := errL_cat nm4 e4a (al_same w4 (al_same t4 e4c)) (al_same w4 al4)
    have u4 : Same H (upd (upd G19 l4 (.lst [.ref a16, .ref a17, .ref a18, .ref a19])) m4 (.lst (as4.map V.ref ++ ([a16, a17, a18, a19] : List Addr).map V.ref))) := same_trans u3 (same_trans t4 (same_trans w4 (same_upd nm4)))
    have z4 : H m4 = none := u3.free (t4.free (w4.free nm4))
    generalize hh4 : upd (upd G19 l4 (.lst [.ref a16, .ref a17, .ref a18, .ref a19])) m4 (.lst (as4.map V.ref ++ ([a16, a17, a18, a19] : List Addr).map V.ref)) = W4 at er4 u4
    have hh4b : upd (upd G19 l4 (.lst [.ref a16, .ref a17, .ref a18, .ref a19])) m4 (.lst (as4.map V.ref ++ [.ref a16, .ref a17, .ref a18, .ref a19])) = W4 := hh4
    rw [hh4b]
    refine ⟨_, rfl, _, rfl, new_of fun a20 G20 n20 s20 x20 => ?_⟩
    refine ⟨_, rfl, new_of fun a21 G21 n21 s21 x21 => ?_⟩
    refine ⟨_, rfl, new_of fun a22 G22 n22 s22 x22 => ?_⟩
    refine ⟨_, rfl, new_of fun a23 G23 n23 s23 x23 => ?_⟩
    refine ⟨(by show 4 ≤ sizeLine; decide +kernel), fun l5 nl5 => ?_⟩
    have t5 : Same W4 G23 := (same_trans (same_trans (same_trans s20 s21) s22) s23)
    have al5 : AlE K v G23 20 [a20, a21, a22, a23] := ⟨(exV_same (exV_same (exV_same x20 s21) s22) s23), ⟨(exV_same (exV_same x21 s22) s23), ⟨(exV_same x22 s23), ⟨x23, trivial⟩⟩⟩⟩
    obtain ⟨as5, e5a, e5b, e5c⟩ := er4
    have f5 : upd G23 l5 (.lst [.ref a20, .ref a21, .ref a22, .ref a23]) m4 = some (.lst (as5.map V.ref)) := by rw [upd_ne (ne_of_none (t5 _ _ e5b) nl5)]; exact t5 _ _ e5b
    refine ⟨_, _, _, _, rfl, rfl, f5, upd_same, ?_, fun m5 nm5 => ?_⟩
    · rw [List.length_map, e5a, sizeLine_eq]; show 20 + 4 ≤ 16777216; decide
    have w5 : Same G23 (upd G23 l5 (.lst [.ref a20, .ref a21, .ref a22, .ref a23])) := same_upd nl5
    have er5 : ErrL K v (upd (upd G23 l5 (.lst [.ref a20, .ref a21, .ref a22, .ref a23])) m5 (.lst (as5.map V.ref ++ ([a20, a21, a22, a23] : List Addr).map V.ref))) m5 24 := errL_cat nm5 e5a (al_same w5 (al_same t5 e5c)) (al_same w5 al5)
    have u5 : Same H (upd (upd G23 l5 (.lst [.ref a20, .ref a21, .ref a22, .ref a23])) m5 (.lst (as5.map V.ref ++ ([a20, a21, a22, a23] : List Addr).map V.ref))) := same_trans u4 (same_trans t5 (same_trans w5 (same_upd nm5)))
    have z5 : H m5 = none := u4.free (t5.free (w5.free nm5))
    generalize hh5 : upd (upd G23 l5 (.lst [.ref a20, .ref a21, .ref a22, .ref a23])) m5 (.lst (as5.map V.ref ++ ([a20, a21, a22, a23] : List Addr).map V.ref)) = W5 at er5 u5
    have hh5b : upd (upd G23 l5 (.lst [.ref a20, .ref a21, .ref a22, .ref a23])) m5 (.lst (as5.map V.ref ++ [.ref a20, .ref a21, .ref a22, .ref a23])) = W5 := hh5
    rw [hh5b]
    refine ⟨_, rfl, _, rfl, new_of fun a24 G24 n24 s24 x24 => ?_⟩
    refine ⟨_, rfl, new_of fun a25 G25 n25 s25 x25 => ?_⟩
    refine ⟨_, rfl, new_of fun a26 G26 n26 s26 x26 => ?_⟩
    refine ⟨(by show 3 ≤ sizeLine; decide +kernel), fun l6 nl6 => ?_⟩
    have t6 : Same W5 G26 := (same_trans (same_trans s24 s25) s26)
    have al6 : AlE K v G26 24 [a24, a25, a26] := ⟨(exV_same (exV_same x24 s25) s26), ⟨(exV_same x25 s26), ⟨x26, trivial⟩⟩⟩
    obtain ⟨as6, e6a, e6b, e6c⟩ := er5
    have f6 : upd G26 l6 (.lst [.ref a24, .ref a25, .ref a26]) m5 = some (.lst (as6.map V.ref)) := by rw [upd_ne (ne_of_none (t6 _ _ e6b) nl6)]; exact t6 _ _ e6b
    refine ⟨_, _, _, _, rfl, rfl, f6, upd_same, ?_, fun m6 nm6 => ?_⟩
    · rw [List.length_map, e6a, sizeLine_eq]; show 24 + 3 ≤ 16777216; decide
    have w6 : Same G26 (upd G26 l6 (.lst [.ref a24, .ref a25, .ref a26])) := same_upd nl6
    have er6 : ErrL K v (upd (upd G26 l6 (.lst [.ref a24, .ref a25, .ref a26])) m6 (.lst (as6.map V.ref ++ ([a24, a25, a26] : List Addr).map V.ref))) m6 27 := errL_cat nm6 e6a (al_same w6 (al_same t6 e6c)) (al_same w6 al6)
    have u6 : Same H (upd (upd G26 l6 (.lst [.ref a24, .ref a25, .ref a26])) m6 (.lst (as6.map V.ref ++ ([a24, a25, a26] : List Addr).map V.ref))) := same_trans u5 (same_trans t6 (same_trans w6 (same_upd nm6)))
    have z6 : H m6 = none := u5.free (t6.free (w6.free nm6))
    generalize hh6 : upd (upd G26 l6 (.lst [.ref a24, .ref a25, .ref a26])) m6 (.lst (as6.map V.ref ++ ([a24, a25, a26] : List Addr).map V.ref)) = W6 at er6 u6
    have hh6b : upd (upd G26 l6 (.lst [.ref a24, .ref a25, .ref a26])) m6 (.lst (as6.map V.ref ++ [.ref a24, .ref a25, .ref a26])) = W6 := hh6
    rw [hh6b]
    exact ⟨_, rfl, q m6 _ z6 u6 er6⟩
end

section
variable {P : Program} {w : World} {K : PySem.W.Frag} {mg : Str → Option Value} {base : Heap}
/-! ### _law_called -/
def spCalled (K : PySem.W.Frag) : Sp := fun vs H Q _ => ∃ v, vs = [v] ∧ ∀ (L : Addr) (H' : Hp), H L = none → Same H H' → ErrL K v H' L 27 → Q (.ref L) H'
theorem scCalled : FnScope ["_law_thing", "_law_found"] ["_law_thing"] (defScope sCalled) := ⟨rfl, rfl, rfl, by decide +kernel, rfl, by decide +kernel, by decide +kernel⟩
theorem ok_called {f : Addr} {fd : FuncData} (F : FnP K "_law_called" sCalled f fd) (Z : ∀ i, i < 27 → Mkr P w K mg base i) : FnOk P w K mg base CX0 3 f fd ["_law_thing"] (spCalled K) := by
  refine F.ok scCalled (fun vs H Q E h => ?_) (fun cdv A outer s H vs Q E hr h => ?_)
  · obtain ⟨_, rfl, _⟩ := h
    rfl
  · obtain ⟨v, rfl, q⟩ := h
    refine ⟨_, PSs.nox (pss_cons (ps_set (i := 1) scCalled.nd rfl (Or.inl rfl) (pe_lst (pa_cons (pe_mkK (i := 0) (Z 0 (by decide)) hr rfl (by rfl) (pv 0)) (pa_cons (pe_mkK (i := 1) (Z 1 (by decide)) hr rfl (by rfl) (pv 0)) (pa_cons (pe_mkK (i := 2) (Z 2 (by decide)) hr rfl (by rfl) (pv 0)) pa_nil)))))
      (pss_cons (ps_set (i := 1) scCalled.nd rfl (Or.inl rfl) (pe_op op_cat (pv 1) (pe_lst (pa_cons (pe_mkK (i := 3) (Z 3 (by decide)) hr rfl (by rfl) (pv 0)) (pa_cons (pe_mkK (i := 4) (Z 4 (by decide)) hr rfl (by rfl) (pv 0)) (pa_cons (pe_mkK (i := 5) (Z 5 (by decide)) hr rfl (by rfl) (pv 0)) pa_nil))))))
      (pss_cons (ps_set (i := 1) scCalled.nd rfl (Or.inl rfl) (pe_op op_cat (pv 1) (pe_lst (pa_cons (pe_mkK (i := 6) (Z 6 (by decide)) hr rfl (by rfl) (pv 0)) (pa_cons (pe_mkK (i := 7) (Z 7 (by decide)) hr rfl (by rfl) (pv 0)) (pa_cons (pe_mkK (i := 8) (Z 8 (by decide)) hr rfl (by rfl) (pv 0)) pa_nil))))))
      (pss_cons (ps_set (i := 1) scCalled.nd rfl (Or.inl rfl) (pe_op op_cat (pv 1) (pe_lst (pa_cons (pe_mkK (i := 9) (Z 9 (by decide)) hr rfl (by rfl) (pv 0)) (pa_cons (pe_mkK (i := 10) (Z 10 (by decide)) hr rfl (by rfl) (pv 0)) (pa_cons (pe_mkK (i := 11) (Z 11 (by decide)) hr rfl (by rfl) (pv 0)) pa_nil))))))
      (pss_cons (ps_set (i := 1) scCalled.nd rfl (Or.inl rfl) (pe_op op_cat (pv 1) (pe_lst (pa_cons (pe_mkK (i := 12) (Z 12 (by decide)) hr rfl (by rfl) (pv 0)) (pa_cons (pe_mkK (i := 13) (Z 13 (by decide)) hr rfl (by rfl) (pv 0)) (pa_cons (pe_mkK (i := 14) (Z 14 (by decide)) hr rfl (by rfl) (pv 0)) pa_nil))))))
      (pss_cons (ps_set (i := 1) scCalled.nd rfl (Or.inl rfl) (pe_op op_cat (pv 1) (pe_lst (pa_cons (pe_mkK (i := 15) (Z 15 (by decide)) hr rfl (by rfl) (pv 0)) (pa_cons (pe_mkK (i := 16) (Z 16 (by decide)) hr rfl (by rfl) (pv 0)) (pa_cons (pe_mkK (i := 17) (Z 17 (by decide)) hr rfl (by rfl) (pv 0)) pa_nil))))))
      (pss_cons (ps_set (i := 1) scCalled.nd rfl (Or.inl rfl) (pe_op op_cat (pv 1) (pe_lst (pa_cons (pe_mkK (i := 18) (Z 18 (by decide)) hr rfl (by rfl) (pv 0)) (pa_cons (pe_mkK (i := 19) (Z 19 (by decide)) hr rfl (by rfl) (pv 0)) (pa_cons (pe_mkK (i := 20) (Z 20 (by decide)) hr rfl (by rfl) (pv 0)) pa_nil))))))
      (pss_cons (ps_set (i := 1) scCalled.nd rfl (Or.inl rfl) (pe_op op_cat (pv 1) (pe_lst (pa_cons (pe_mkK (i := 21) (Z 21 (by decide)) hr rfl (by rfl) (pv 0)) (pa_cons (pe_mkK (i := 22) (Z 22 (by decide)) hr rfl (by rfl) (pv 0)) (pa_cons (pe_mkK (i := 23) (Z 23 (by decide)) hr rfl (by rfl) (pv 0)) pa_nil))))))
      (pss_cons (ps_set (i := 1) scCalled.nd rfl (Or.inl rfl) (pe_op op_cat (pv 1) (pe_lst (pa_cons (pe_mkK (i := 24) (Z 24 (by decide)) hr rfl (by rfl) (pv 0)) (pa_cons (pe_mkK (i := 25) (Z 25 (by decide)) hr rfl (by rfl) (pv 0)) (pa_cons (pe_mkK (i := 26) (Z 26 (by decide)) hr rfl (by rfl) (pv 0)) pa_nil))))))
      (pss_one (ps_ret (pv 1)))))))))))), ?_⟩
    refine ⟨_, rfl, new_of fun a0 G0 n0 s0 x0 => ?_⟩
    refine ⟨_, rfl, new_of fun a1 G1 n1 s1 x1 => ?_⟩
    refine ⟨_, rfl, new_of fun a2 G2 n2 s2 x2 => ?_⟩
    refine ⟨(by show 3 ≤ sizeLine; decide +kernel), fun l0 nl0 => ?_⟩
    have t0 : Same H G2 := (same_trans (same_trans s0 s1) s2)
    have al0 : AlE K v G2 0 [a0, a1, a2] := ⟨(exV_same (exV_same x0 s1) s2), ⟨(exV_same x1 s2), ⟨x2, trivial⟩⟩⟩
    have er0 : ErrL K v (upd G2 l0 (.lst (([a0, a1, a2] : List Addr).map V.ref))) l0 3 := errL_new nl0 al0
    have u0 : Same H (upd G2 l0 (.lst (([a0, a1, a2] : List Addr).map V.ref))) := same_trans t0 (same_upd nl0)
    have z0 : H l0 = none := t0.free nl0
    generalize hh0 : upd G2 l0 (.lst (([a0, a1, a2] : List Addr).map V.ref)) = W0 at er0 u0
    have hh0b : upd G2 l0 (.lst [.ref a0, .ref a1, .ref a2]) = W0 := hh0
    rw [hh0b]
    refine ⟨_, rfl, _, rfl, new_of fun a3 G3 n3 s3 x3 => ?_⟩
    refine ⟨_, rfl, new_of fun a4 G4 n4 s4 x4 => ?_⟩
    refine ⟨_, rfl, new_of fun a5 G5 n5 s5 x5 => ?_⟩
    refine ⟨(by show 3 ≤ sizeLine; decide +kernel), fun l1 nl1 => ?_⟩
    have t1 : Same W0 G5 := (same_trans (same_trans s3 s4) s5)
    have al1 : AlE K v G5 3 [a3, a4, a5] := ⟨(exV_same (exV_same x3 s4) s5), ⟨(exV_same x4 s5), ⟨x5, trivial⟩⟩⟩
    obtain ⟨as1, e1a, e1b, e1c⟩ := er0
    have f1 : upd G5 l1 (.lst [.ref a3, .ref a4, .ref a5]) l0 = some (.lst (as1.map V.ref)) := by rw [upd_ne (ne_of_none (t1 _ _ e1b) nl1)]; exact t1 _ _ e1b
    refine ⟨_, _, _, _, rfl, rfl, f1, upd_same, ?_, fun m1 nm1 => ?_⟩
    · rw [List.length_map, e1a, sizeLine_eq]; show 3 + 3 ≤ 16777216; decide
    have w1 : Same G5 (upd G5 l1 (.lst [.ref a3, .ref a4, .ref a5])) := same_upd nl1
    have er1 : ErrL K v (upd (upd G5 l1 (.lst [.ref a3, .ref a4, .ref a5])) m1 (.lst (as1.map V.ref ++ ([a3, a4, a5] : List Addr).map V.ref))) m1 6 := errL_cat nm1 e1a (al_same w1 (al_same t1 e1c)) (al_same w1 al1)
    have u1 : Same H (upd (upd G5 l1 (.lst [.ref a3, .ref a4, .ref a5])) m1 (.lst (as1.map V.ref ++ ([a3, a4, a5] : List Addr).map V.ref))) := same_trans u0 (same_trans t1 (same_trans w1 (same_upd nm1)))
    have z1 : H m1 = none := u0.free (t1.free (w1.free nm1))
    generalize hh1 : upd (upd G5 l1 (.lst [.ref a3, .ref a4, .ref a5])) m1 (.lst (as1.map V.ref ++ ([a3, a4, a5] : List Addr).map V.ref)) = W1 at er1 u1
    have hh1b : upd (upd G5 l1 (.lst [.ref a3, .ref a4, .ref a5])) m1 (.lst (as1.map V.ref ++ [.ref a3, .ref a4, .ref a5])) = W1 := hh1
    rw [hh1b]
    refine ⟨_, rfl, _, rfl, new_of fun a6 G6 n6 s6 x6 => ?_⟩
    refine ⟨_, rfl, new_of fun a7 G7 n7 s7 x7 => ?_⟩
    refine ⟨_, rfl, new_of fun a8 G8 n8 s8 x8 => ?_⟩
    refine ⟨(by show 3 ≤ sizeLine; decide +kernel), fun l2 nl2 => ?_⟩
    have t2 : Same W1 G8 := (same_trans (same_trans s6 s7) s8)
    have al2 : AlE K v G8 6 [a6, a7, a8] := ⟨(exV_same (exV_same x6 s7) s8), ⟨(exV_same x7 s8), ⟨x8, trivial⟩⟩⟩
    obtain ⟨as2, e2a, e2b, e2c⟩ := er1
    have f2 : upd G8 l2 (.lst [.ref a6, .ref a7, .ref a8]) m1 = some (.lst (as2.map V.ref)) := by rw [upd_ne (ne_of_none (t2 _ _ e2b) nl2)]; exact t2 _ _ e2b
    refine ⟨_, _, _, _, rfl, rfl, f2, upd_same, ?_, fun m2 nm2 => ?_⟩
    · rw [List.length_map, e2a, sizeLine_eq]; show 6 + 3 ≤ 16777216; decide
    have w2 : Same G8 (upd G8 l2 (.lst [.ref a6, .ref a7, .ref a8])) := same_upd nl2
    have er2 : ErrL K v (upd (upd G8 l2 (.lst [.ref a6, .ref a7, .ref a8])) m2 (.lst (as2.map V.ref ++ ([a6, a7, a8] : List Addr).map V.ref))) m2 9 := errL_cat nm2 e2a (al_same w2 (al_same t2 e2c)) (al_same w2 al2)
    have u2 : Same H (upd (upd G8 l2 (.lst [.ref a6, .ref a7, .ref a8])) m2 (.lst (as2.map V.ref ++ ([a6, a7, a8] : List Addr).map V.ref))) := same_trans u1 (same_trans t2 (same_trans w2 (same_upd nm2)))
    have z2 : H m2 = none := u1.free (t2.free (w2.free nm2))
    generalize hh2 : upd (upd G8 l2 (.lst [.ref a6, .ref a7, .ref a8])) m2 (.lst (as2.map V.ref ++ ([a6, a7, a8] : List Addr).map V.ref)) = W2 at er2 u2
    have hh2b : upd (upd G8 l2 (.lst [.ref a6, .ref a7, .ref a8])) m2 (.lst (as2.map V.ref ++ [.ref a6, .ref a7, .ref a8])) = W2 := hh2
    rw [hh2b]
    refine ⟨_, rfl, _, rfl, new_of fun a9 G9 n9 s9 x9 => ?_⟩
    refine ⟨_, rfl, new_of fun a10 G10 n10 s10 x10 => ?_⟩
    refine ⟨_, rfl, new_of fun a11 G11 n11 s11 x11 => ?_⟩
    refine ⟨(by show 3 ≤ sizeLine; decide +kernel), fun l3 nl3 => ?_⟩
    have t3 : Same W2 G11 := (same_trans (same_trans s9 s10) s11)
    have al3 : AlE K v G11 9 [a9, a10, a11] := ⟨(exV_same (exV_same x9 s10) s11), ⟨(exV_same x10 s11), ⟨x11, trivial⟩⟩⟩
    obtain ⟨as3, e3a, e3b, e3c⟩ := er2
    have f3 : upd G11 l3 (.lst [.ref a9, .ref a10, .ref a11]) m2 = some (.lst (as3.map V.ref)) := by rw [upd_ne (ne_of_none (t3 _ _ e3b) nl3)]; exact t3 _ _ e3b
    refine ⟨_, _, _, _, rfl, rfl, f3, upd_same, ?_, fun m3 nm3 => ?_⟩
    · rw [List.length_map, e3a, sizeLine_eq]; show 9 + 3 ≤ 16777216; decide
    have w3 : Same G11 (upd G11 l3 (.lst [.ref a9, .ref a10, .ref a11])) := same_upd nl3
    have er3 : ErrL K v (upd (upd G11 l3 (.lst [.ref a9, .ref a10, .ref a11])) m3 (.lst (as3.map V.ref ++ ([a9, a10, a11] : List Addr).map V.ref))) m3 12 := errL_cat nm3 e3a (al_same w3 (al_same t3 e3c)) (al_same w3 al3)
    have u3 : Same H (upd (upd G11 l3 (.lst [.ref a9, .ref a10, .ref a11])) m3 (.lst (as3.map V.ref ++ ([a9, a10, a11] : List Addr).map V.ref))) := same_trans u2 (same_trans t3 (same_trans w3 (same_upd nm3)))
    have z3 : H m3 = none := u2.free (t3.free (w3.free nm3))
    generalize hh3 : upd (upd G11 l3 (.lst [.ref a9, .ref a10, .ref a11])) m3 (.lst (as3.map V.ref ++ ([a9, a10, a11] : List Addr).map V.ref)) = W3 at er3 u3
    have hh3b : upd (upd G11 l3 (.lst [.ref a9, .ref a10, .ref a11])) m3 (.lst (as3.map V.ref ++ [.ref a9, .ref a10, .ref a11])) = W3 := hh3
    rw [hh3b]
    refine ⟨_, rfl, _, rfl, new_of fun a12 G12 n12 s12 x12 => ?_⟩
    refine ⟨_, rfl, new_of fun a13 G13 n13 s13 x13 => ?_⟩
    refine ⟨_, rfl, new_of fun a14 G14 n14 s14 x14 => ?_⟩
    refine ⟨(by show 3 ≤ sizeLine; decide +kernel), fun l4 nl4 => ?_⟩
    have t4 : Same W3 G14 := (same_trans (same_trans s12 s13) s14)
    have al4 : AlE K v G14 12 [a12, a13, a14] := ⟨(exV_same (exV_same x12 s13) s14), ⟨(exV_same x13 s14), ⟨x14, trivial⟩⟩⟩
    obtain ⟨as4, e4a, e4b, e4c⟩ := er3
    have f4 : upd G14 l4 (.lst [.ref a12, .ref a13, .ref a14]) m3 = some (.lst (as4.map V.ref)) := by rw [upd_ne (ne_of_none (t4 _ _ e4b) nl4)]; exact t4 _ _ e4b
    refine ⟨_, _, _, _, rfl, rfl, f4, upd_same, ?_, fun m4 nm4 => ?_⟩
    · rw [List.length_map, e4a, sizeLine_eq]; show 12 + 3 ≤ 16777216; decide
    have w4 : Same G14 (upd G14 l4 (.lst [.ref a12, .ref a13, .ref a14])) := same_upd nl4
    have er4 : ErrL K v (upd (upd G14 l4 (.lst [.ref a12, .ref a13, .ref a14])) m4 (.lst (as4.map V.ref ++ ([a12, a13, a14] : List Addr).map V.ref))) m4 15 := errL_cat nm4 e4a (al_same w4 (al_same t4 e4c)) (al_same w4 al4)
    have u4 : Same H (upd (upd G14 l4 (.lst [.ref a12, .ref a13, .ref a14])) m4 (.lst (as4.map V.ref ++ ([a12, a13, a14] : List Addr).map V.ref))) := same_trans u3 (same_trans t4 (same_trans w4 (same_upd nm4)))
    have z4 : H m4 = none := u3.free (t4.free (w4.free nm4))
    generalize hh4 : upd (upd G14 l4 (.lst [.ref a12, .ref a13, .ref a14])) m4 (.lst (as4.map V.ref ++ ([a12, a13, a14] : List Addr).map V.ref)) = W4 at er4 u4
    have hh4b : upd (upd G14 l4 (.lst [.ref a12, .ref a13, .ref a14])) m4 (.lst (as4.map V.ref ++ [.ref a12, .ref a13, .ref a14])) = W4 := hh4
    rw [hh4b]
    refine ⟨_, rfl, _, rfl, new_of fun a15 G15 n15 s15 x15 => ?_⟩
    refine ⟨_, rfl, new_of fun a16 G16 n16 s16 x16 => ?_⟩
    refine ⟨_, rfl, new_of fun a17 G17 n17 s17 x17 => ?_⟩
    refine ⟨(by show 3 ≤ sizeLine; decide +kernel), fun l5 nl5 => ?_⟩
    have t5 : Same W4 G17 := (same_trans (same_trans s15 s16) s17)
    have al5 : AlE K v G17 15 [a15, a16, a17] := ⟨(exV_same (exV_same x15 s16) s17), ⟨(exV_same x16 s17), ⟨x17, trivial⟩⟩⟩
    obtain ⟨as5, e5a, e5b, e5c⟩ := er4
    have f5 : upd G17 l5 (.lst [.ref a15, .ref a16, .ref a17]) m4 = some (.lst (as5.map V.ref)) := by rw [upd_ne (ne_of_none (t5 _ _ e5b) nl5)]; exact t5 _ _ e5b
    refine ⟨_, _, _, _, rfl, rfl, f5, upd_same, ?_, fun m5 nm5 => ?_⟩
    · rw [List.length_map, e5a, sizeLine_eq]; show 15 + 3 ≤ 16777216; decide
    have w5 : Same G17 (upd G17 l5 (.lst [.ref a15, .ref a16, .ref a17])) := same_upd nl5
    have er5 : ErrL K v (upd (upd G17 l5 (.lst [.ref a15, .ref a16, .ref a17])) m5 (.lst (as5.map V.ref ++ ([a15, a16, a17] : List Addr).map V.ref))) m5 18 := errL_cat nm5 e5a (al_same w5 (al_same t5 e5c)) (al_same w5 al5)
    have u5 : Same H (upd (upd G17 l5 (.lst [.ref a15, .ref a16, .ref a17])) m5 (.lst (as5.map V.ref ++ ([a15, a16, a17] : List Addr).map V.ref))) := same_trans u4 (same_trans t5 (same_trans w5 (same_upd nm5)))
    have z5 : H m5 = none := u4.free (t5.free (w5.free nm5))
    generalize hh5 : upd (upd G17 l5 (.lst [.ref a15, .ref a16, .ref a17])) m5 (.lst (as5.map V.ref ++ ([a15, a16, a17] : List Addr).map V.ref)) = W5 at er5 u5
    have hh5b : upd (upd G17 l5 (.lst [.ref a15, .ref a16, .ref a17])) m5 (.lst (as5.map V.ref ++ [.ref a15, .ref a16, .ref a17])) = W5 := hh5
    rw [hh5b]
    refine ⟨_, rfl, _, rfl, new_of fun a18 G18 n18 s18 x18 => ?_⟩
    refine ⟨_, rfl, new_of fun a19 G19 n19 s19 x19 => ?_⟩
    refine ⟨_, rfl, new_of fun a20 G20 n20 s20 x20 => ?_⟩
    refine ⟨(by show 3 ≤ sizeLine; decide +kernel), fun l6 nl6 => ?_⟩
    have t6 : Same W5 G20 := (same_trans (same_trans s18 s19) s20)
    have al6 : AlE K v G20 18 [a18, a19, a20] := ⟨(exV_same (exV_same x18 s19) s20), ⟨(exV_same x19 s20), ⟨x20, trivial⟩⟩⟩
    obtain ⟨as6, e6a, e6b, e6c⟩ := er5
    have f6 : upd G20 l6 (.lst [.ref a18, .ref a19, .ref a20]) m5 = some (.lst (as6.map V.ref)) := by rw [upd_ne (ne_of_none (t6 _ _ e6b) nl6)]; exact t6 _ _ e6b
    refine ⟨_, _, _, _, rfl, rfl, f6, upd_same, ?_, fun m6 nm6 => ?_⟩
    · rw [List.length_map, e6a, sizeLine_eq]; show 18 + 3 ≤ 16777216; decide
    have w6 : Same G20 (upd G20 l6 (.lst [.ref a18, .ref a19, .ref a20])) := same_upd nl6
    have er6 : ErrL K v (upd (upd G20 l6 (.lst [.ref a18, .ref a19, .ref a20])) m6 (.lst (as6.map V.ref ++ ([a18, a19, a20] : List Addr).map V.ref))) m6 21 := errL_cat nm6 e6a (al_same w6 (al_same t6 e6c)) (al_same w6 al6)
    have u6 : Same H (upd (upd G20 l6 (.lst [.ref a18, .ref a19, .ref a20])) m6 (.lst (as6.map V.ref ++ ([a18, a19, a20] : List Addr).map V.ref))) := same_trans u5 (same_trans t6 (same_trans w6 (same_upd nm6)))
    have z6 : H m6 = none := u5.free (t6.free (w6.free nm6))
    generalize hh6 : upd (upd G20 l6 (.lst [.ref a18, .ref a19, .ref a20])) m6 (.lst (as6.map V.ref ++ ([a18, a19, a20] : List Addr).map V.ref)) = W6 at er6 u6
    have hh6b : upd (upd G20 l6 (.lst [.ref a18, .ref a19, .ref a20])) m6 (.lst (as6.map V.ref ++ [.ref a18, .ref a19, .ref a20])) = W6 := hh6
    rw [hh6b]
    refine ⟨_, rfl, _, rfl, new_of fun a21 G21 n21 s21 x21 => ?_⟩
    refine ⟨_, rfl, new_of fun a22 G22 n22 s22 x22 => ?_⟩
    refine ⟨_, rfl, new_of fun a23 G23 n23 s23 x23 => ?_⟩
    refine ⟨(by show 3 ≤ sizeLine; decide +kernel), fun l7 nl7 => ?_⟩
    have t7 : Same W6 G23 := (same_trans (same_trans s21 s22) s23)
    have al7 : AlE K v G23 21 [a21, a22, a23] := ⟨(exV_same (exV_same x21 s22) s23), ⟨(exV_same x22 s23), ⟨x23, trivial⟩⟩⟩
    obtain ⟨as7, e7a, e7b, e7c⟩ := er6
    have f7 : upd G23 l7 (.lst [.ref a21, .ref a22, .ref a23]) m6 = some (.lst (as7.map V.ref)) := by rw [upd_ne (ne_of_none (t7 _ _ e7b) nl7)]; exact t7 _ _ e7b
    refine ⟨_, _, _, _, rfl, rfl, f7, upd_same, ?_, fun m7 nm7 => ?_⟩
    · rw [List.length_map, e7a, sizeLine_eq]; show 21 + 3 ≤ 16777216; decide
    have w7 : Same G23 (upd G23 l7 (.lst [.ref a21, .ref a22, .ref a23])) := same_upd nl7
    have er7 : ErrL K v (upd (upd G23 l7 (.lst [.ref a21, .ref a22, .ref a23])) m7 (.lst (as7.map V.ref ++ ([a21, a22, a23] : List Addr).map V.ref))) m7 24 := errL_cat nm7 e7a (al_same w7 (al_same t7 e7c)) (al_same w7 al7)
    have u7 : Same H (upd (upd G23 l7 (.lst [.ref a21, .ref a22, .ref a23])) m7 (.lst (as7.map V.ref ++ ([a21, a22, a23] : List Addr).map V.ref))) := same_trans u6 (same_trans t7 (same_trans w7 (same_upd nm7)))
    have z7 : H m7 = none := u6.free (t7.free (w7.free nm7))
    generalize hh7 : upd (upd G23 l7 (.lst [.ref a21, .ref a22, .ref a23])) m7 (.lst (as7.map V.ref ++ ([a21, a22, a23] : List Addr).map V.ref)) = W7 at er7 u7
    have hh7b : upd (upd G23 l7 (.lst [.ref a21, .ref a22, .ref a23])) m7 (.lst (as7.map V.ref ++ [.ref a21, .ref a22, .ref a23])) = W7 := hh7
    rw [hh7b]
    refine ⟨_, rfl, _, rfl, new_of fun a24 G24 n24 s24 x24 => ?_⟩
    refine ⟨_, rfl, new_of fun a25 G25 n25 s25 x25 => ?_⟩
    refine ⟨_, rfl, new_of fun a26 G26 n26 s26 x26 => ?_⟩
    refine ⟨(by show 3 ≤ sizeLine; decide +kernel), fun l8 nl8 => ?_⟩
    have t8 : Same W7 G26 := (same_trans (same_trans s24 s25) s26)
    have al8 : AlE K v G26 24 [a24, a25, a26] := ⟨(exV_same (exV_same x24 s25) s26), ⟨(exV_same x25 s26), ⟨x26, trivial⟩⟩⟩
    obtain ⟨as8, e8a, e8b, e8c⟩ := er7
    have f8 : upd G26 l8 (.lst [.ref a24, .ref a25, .ref a26]) m7 = some (.lst (as8.map V.ref)) := by rw [upd_ne (ne_of_none (t8 _ _ e8b) nl8)]; exact t8 _ _ e8b
    refine ⟨_, _, _, _, rfl, rfl, f8, upd_same, ?_, fun m8 nm8 => ?_⟩
    · rw [List.length_map, e8a, sizeLine_eq]; show 24 + 3 ≤ 16777216; decide
    have w8 : Same G26 (upd G26 l8 (.lst [.ref a24, .ref a25, .ref a26])) := same_upd nl8
    have er8 : ErrL K v (upd (upd G26 l8 (.lst [.ref a24, .ref a25, .ref a26])) m8 (.lst (as8.map V.ref ++ ([a24, a25, a26] : List Addr).map V.ref))) m8 27 := errL_cat nm8 e8a (al_same w8 (al_same t8 e8c)) (al_same w8 al8)
    have u8 : Same H (upd (upd G26 l8 (.lst [.ref a24, .ref a25, .ref a26])) m8 (.lst (as8.map V.ref ++ ([a24, a25, a26] : List Addr).map V.ref))) := same_trans u7 (same_trans t8 (same_trans w8 (same_upd nm8)))
    have z8 : H m8 = none := u7.free (t8.free (w8.free nm8))
    generalize hh8 : upd (upd G26 l8 (.lst [.ref a24, .ref a25, .ref a26])) m8 (.lst (as8.map V.ref ++ ([a24, a25, a26] : List Addr).map V.ref)) = W8 at er8 u8
    have hh8b : upd (upd G26 l8 (.lst [.ref a24, .ref a25, .ref a26])) m8 (.lst (as8.map V.ref ++ [.ref a24, .ref a25, .ref a26])) = W8 := hh8
    rw [hh8b]
    exact ⟨_, rfl, q m8 _ z8 u8 er8⟩
end

section
variable {P : Program} {w : World} {K : PySem.W.Frag} {mg : Str → Option Value} {base : Heap}
/-! ### _law_bare -/
def spBare (K : PySem.W.Frag) : Sp := fun vs H Q _ => vs = [] ∧ ∀ (L : Addr) (H' : Hp), H L = none → Same H H' → ErrL K .non H' L 27 → Q (.ref L) H'
theorem scBare : FnScope ["_law_found"] [] (defScope sBare) := ⟨rfl, rfl, rfl, by decide +kernel, rfl, by decide +kernel, by decide +kernel⟩
theorem ok_bare {f : Addr} {fd : FuncData} (F : FnP K "_law_bare" sBare f fd) (Z : ∀ i, i < 27 → Mkr P w K mg base i) : FnOk P w K mg base CX0 3 f fd [] (spBare K) := by
  refine F.ok scBare (fun vs H Q E h => ?_) (fun cdv A outer s H vs Q E hr h => ?_)
  · obtain ⟨rfl, _⟩ := h
    rfl
  · obtain ⟨rfl, q⟩ := h
    refine ⟨_, PSs.nox (pss_cons (ps_set (i := 0) scBare.nd rfl (Or.inl rfl) (pe_lst (pa_cons (pe_mk0 (i := 0) (Z 0 (by decide)) hr rfl (by rfl)) (pa_cons (pe_mk0 (i := 1) (Z 1 (by decide)) hr rfl (by rfl)) (pa_cons (pe_mk0 (i := 2) (Z 2 (by decide)) hr rfl (by rfl)) (pa_cons (pe_mk0 (i := 3) (Z 3 (by decide)) hr rfl (by rfl)) (pa_cons (pe_mk0 (i := 4) (Z 4 (by decide)) hr rfl (by rfl)) (pa_cons (pe_mk0 (i := 5) (Z 5 (by decide)) hr rfl (by rfl)) pa_nil))))))))
      (pss_cons (ps_set (i := 0) scBare.nd rfl (Or.inl rfl) (pe_op op_cat (pv 0) (pe_lst (pa_cons (pe_mk0 (i := 6) (Z 6 (by decide)) hr rfl (by rfl)) (pa_cons (pe_mk0 (i := 7) (Z 7 (by decide)) hr rfl (by rfl)) (pa_cons (pe_mk0 (i := 8) (Z 8 (by decide)) hr rfl (by rfl)) (pa_cons (pe_mk0 (i := 9) (Z 9 (by decide)) hr rfl (by rfl)) (pa_cons (pe_mk0 (i := 10) (Z 10 (by decide)) hr rfl (by rfl)) pa_nil))))))))
      (pss_cons (ps_set (i := 0) scBare.nd rfl (Or.inl rfl) (pe_op op_cat (pv 0) (pe_lst (pa_cons (pe_mk0 (i := 11) (Z 11 (by decide)) hr rfl (by rfl)) (pa_cons (pe_mk0 (i := 12) (Z 12 (by decide)) hr rfl (by rfl)) (pa_cons (pe_mk0 (i := 13) (Z 13 (by decide)) hr rfl (by rfl)) (pa_cons (pe_mk0 (i := 14) (Z 14 (by decide)) hr rfl (by rfl)) (pa_cons (pe_mk0 (i := 15) (Z 15 (by decide)) hr rfl (by rfl)) (pa_cons (pe_mk0 (i := 16) (Z 16 (by decide)) hr rfl (by rfl)) pa_nil)))))))))
      (pss_cons (ps_set (i := 0) scBare.nd rfl (Or.inl rfl) (pe_op op_cat (pv 0) (pe_lst (pa_cons (pe_mk0 (i := 17) (Z 17 (by decide)) hr rfl (by rfl)) (pa_cons (pe_mk0 (i := 18) (Z 18 (by decide)) hr rfl (by rfl)) (pa_cons (pe_mk0 (i := 19) (Z 19 (by decide)) hr rfl (by rfl)) (pa_cons (pe_mk0 (i := 20) (Z 20 (by decide)) hr rfl (by rfl)) (pa_cons (pe_mk0 (i := 21) (Z 21 (by decide)) hr rfl (by rfl)) pa_nil))))))))
      (pss_cons (ps_set (i := 0) scBare.nd rfl (Or.inl rfl) (pe_op op_cat (pv 0) (pe_lst (pa_cons (pe_mk0 (i := 22) (Z 22 (by decide)) hr rfl (by rfl)) (pa_cons (pe_mk0 (i := 23) (Z 23 (by decide)) hr rfl (by rfl)) (pa_cons (pe_mk0 (i := 24) (Z 24 (by decide)) hr rfl (by rfl)) (pa_cons (pe_mk0 (i := 25) (Z 25 (by decide)) hr rfl (by rfl)) (pa_cons (pe_mk0 (i := 26) (Z 26 (by decide)) hr rfl (by rfl)) pa_nil))))))))
      (pss_one (ps_ret (pv 0)))))))), ?_⟩
    refine new_s ?_
    refine new_l fun a0 G0 n0 s0 x0 => ?_
    refine new_c fun a1 G1 n1 s1 x1 => ?_
    refine new_c fun a2 G2 n2 s2 x2 => ?_
    refine new_c fun a3 G3 n3 s3 x3 => ?_
    refine new_c fun a4 G4 n4 s4 x4 => ?_
    refine new_c fun a5 G5 n5 s5 x5 => ?_
    refine ⟨(by show 6 ≤ sizeLine; decide +kernel), fun l0 nl0 => ?_⟩
    have t0 : Same H G5 := (same_trans (same_trans (same_trans (same_trans (same_trans s0 s1) s2) s3) s4) s5)
    have al0 : AlE K .non G5 0 [a0, a1, a2, a3, a4, a5] := ⟨(exV_same (exV_same (exV_same (exV_same (exV_same x0 s1) s2) s3) s4) s5), ⟨(exV_same (exV_same (exV_same (exV_same x1 s2) s3) s4) s5), ⟨(exV_same (exV_same (exV_same x2 s3) s4) s5), ⟨(exV_same (exV_same x3 s4) s5), ⟨(exV_same x4 s5), ⟨x5, trivial⟩⟩⟩⟩⟩⟩
    have er0 : ErrL K .non (upd G5 l0 (.lst (([a0, a1, a2, a3, a4, a5] : List Addr).map V.ref))) l0 6 := errL_new nl0 al0
    have u0 : Same H (upd G5 l0 (.lst (([a0, a1, a2, a3, a4, a5] : List Addr).map V.ref))) := same_trans t0 (same_upd nl0)
    have z0 : H l0 = none := t0.free nl0
    generalize hh0 : upd G5 l0 (.lst (([a0, a1, a2, a3, a4, a5] : List Addr).map V.ref)) = W0 at er0 u0
    have hh0b : upd G5 l0 (.lst [.ref a0, .ref a1, .ref a2, .ref a3, .ref a4, .ref a5]) = W0 := hh0
    rw [hh0b]
    refine ⟨_, rfl, ?_⟩
    refine new_l fun a6 G6 n6 s6 x6 => ?_
    refine new_c fun a7 G7 n7 s7 x7 => ?_
    refine new_c fun a8 G8 n8 s8 x8 => ?_
    refine new_c fun a9 G9 n9 s9 x9 => ?_
    refine new_c fun a10 G10 n10 s10 x10 => ?_
    refine ⟨(by show 5 ≤ sizeLine; decide +kernel), fun l1 nl1 => ?_⟩
    have t1 : Same W0 G10 := (same_trans (same_trans (same_trans (same_trans s6 s7) s8) s9) s10)
    have al1 : AlE K .non G10 6 [a6, a7, a8, a9, a10] := ⟨(exV_same (exV_same (exV_same (exV_same x6 s7) s8) s9) s10), ⟨(exV_same (exV_same (exV_same x7 s8) s9) s10), ⟨(exV_same (exV_same x8 s9) s10), ⟨(exV_same x9 s10), ⟨x10, trivial⟩⟩⟩⟩⟩
    obtain ⟨as1, e1a, e1b, e1c⟩ := er0
    have f1 : upd G10 l1 (.lst [.ref a6, .ref a7, .ref a8, .ref a9, .ref a10]) l0 = some (.lst (as1.map V.ref)) := by rw [upd_ne (ne_of_none (t1 _ _ e1b) nl1)]; exact t1 _ _ e1b
    refine ⟨_, _, _, _, rfl, rfl, f1, upd_same, ?_, fun m1 nm1 => ?_⟩
    · rw [List.length_map, e1a, sizeLine_eq]; show 6 + 5 ≤ 16777216; decide
    have w1 : Same G10 (upd G10 l1 (.lst [.ref a6, .ref a7, .ref a8, .ref a9, .ref a10])) := same_upd nl1
    have er1 : ErrL K .non (upd (upd G10 l1 (.lst [.ref a6, .ref a7, .ref a8, .ref a9, .ref a10])) m1 (.lst (as1.map V.ref ++ ([a6, a7, a8, a9, a10] : List Addr).map V.ref))) m1 11 := errL_cat nm1 e1a (al_same w1 (al_same t1 e1c)) (al_same w1 al1)
    have u1 : Same H (upd (upd G10 l1 (.lst [.ref a6, .ref a7, .ref a8, .ref a9, .ref a10])) m1 (.lst (as1.map V.ref ++ ([a6, a7, a8, a9, a10] : List Addr).map V.ref))) := same_trans u0 (same_trans t1 (same_trans w1 (same_upd nm1)))
    have z1 : H m1 = none := u0.free (t1.free (w1.free nm1))
    generalize hh1 : upd (upd G10 l1 (.lst [.ref a6, .ref a7, .ref a8, .ref a9, .ref a10])) m1 (.lst (as1.map V.ref ++ ([a6, a7, a8, a9, a10] : List Addr).map V.ref)) = W1 at er1 u1
    have hh1b : upd (upd G10 l1 (.lst [.ref a6, .ref a7, .ref a8, .ref a9, .ref a10])) m1 (.lst (as1.map V.ref ++ [.ref a6, .ref a7, .ref a8, .ref a9, .ref a10])) = W1 := hh1
    rw [hh1b]
    refine ⟨_, rfl, ?_⟩
    refine new_l fun a11 G11 n11 s11 x11 => ?_
    refine new_c fun a12 G12 n12 s12 x12 => ?_
    refine new_c fun a13 G13 n13 s13 x13 => ?_
    refine new_c fun a14 G14 n14 s14 x14 => ?_
    refine new_c fun a15 G15 n15 s15 x15 => ?_
    refine new_c fun a16 G16 n16 s16 x16 => ?_
    refine ⟨(by show 6 ≤ sizeLine; decide +kernel), fun l2 nl2 => ?_⟩
    have t2 : Same W1 G16 := (same_trans (same_trans (same_trans (same_trans (same_trans s11 s12) s13) s14) s15) s16)
    have al2 : AlE K .non G16 11 [a11, a12, a13, a14, a15, a16] := ⟨(exV_same (exV_same (exV_same (exV_same (exV_same x11 s12) s13) s14) s15) s16), ⟨(exV_same (exV_same (exV_same (exV_same x12 s13) s14) s15) s16), ⟨(exV_same (exV_same (exV_same x13 s14) s15) s16), ⟨(exV_same (exV_same x14 s15) s16), ⟨(exV_same x15 s16), ⟨x16, trivial⟩⟩⟩⟩⟩⟩
    obtain ⟨as2, e2a, e2b, e2c⟩ := er1
    have f2 : upd G16 l2 (.lst [.ref a11, .ref a12, .ref a13, .ref a14, .ref a15, .ref a16]) m1 = some (.lst (as2.map V.ref)) := by rw [upd_ne (ne_of_none (t2 _ _ e2b) nl2)]; exact t2 _ _ e2b
    refine ⟨_, _, _, _, rfl, rfl, f2, upd_same, ?_, fun m2 nm2 => ?_⟩
    · rw [List.length_map, e2a, sizeLine_eq]; show 11 + 6 ≤ 16777216; decide
    have w2 : Same G16 (upd G16 l2 (.lst [.ref a11, .ref a12, .ref a13, .ref a14, .ref a15, .ref a16])) := same_upd nl2
    have er2 : ErrL K .non (upd (upd G16 l2 (.lst [.ref a11, .ref a12, .ref a13, .ref a14, .ref a15, .ref a16])) m2 (.lst (as2.map V.ref ++ ([a11, a12, a13, a14, a15, a16] : List Addr).map V.ref))) m2 17 := errL_cat nm2 e2a (al_same w2 (al_same t2 e2c)) (al_same w2 al2)
    have u2 : Same H (upd (upd G16 l2 (.lst [.ref a11, .ref a12, .ref a13, .ref a14, .ref a15, .ref a16])) m2 (.lst (as2.map V.ref ++ ([a11, a12, a13, a14, a15, a16] : List Addr).map V.ref))) := same_trans u1 (same_trans t2 (same_trans w2 (same_upd nm2)))
    have z2 : H m2 = none := u1.free (t2.free (w2.free nm2))
    generalize hh2 : upd (upd G16 l2 (.lst [.ref a11, .ref a12, .ref a13, .ref a14, .ref a15, .ref a16])) m2 (.lst (as2.map V.ref ++ ([a11, a12, a13, a14, a15, a16] : List Addr).map V.ref)) = W2 at er2 u2
    have hh2b : upd (upd G16 l2 (.lst [.ref a11, .ref a12, .ref a13, .ref a14, .ref a15, .ref a16])) m2 (.lst (as2.map V.ref ++ [.ref a11, .ref a12, .ref a13, .ref a14, .ref a15, .ref a16])) = W2 := hh2
    rw [hh2b]
    refine ⟨_, rfl, ?_⟩
    refine new_l fun a17 G17 n17 s17 x17 => ?_
    refine new_c fun a18 G18 n18 s18 x18 => ?_
    refine new_c fun a19 G19 n19 s19 x19 => ?_
    refine new_c fun a20 G20 n20 s20 x20 => ?_
    refine new_c fun a21 G21 n21 s21 x21 => ?_
    refine ⟨(by show 5 ≤ sizeLine; decide +kernel), fun l3 nl3 => ?_⟩
    have t3 : Same W2 G21 := (same_trans (same_trans (same_trans (same_trans s17 s18) s19) s20) s21)
    have al3 : AlE K .non G21 17 [a17, a18, a19, a20, a21] := ⟨(exV_same (exV_same (exV_same (exV_same x17 s18) s19) s20) s21), ⟨(exV_same (exV_same (exV_same x18 s19) s20) s21), ⟨(exV_same (exV_same x19 s20) s21), ⟨(exV_same x20 s21), ⟨x21, trivial⟩⟩⟩⟩⟩
    obtain ⟨as3, e3a, e3b, e3c⟩ := er2
    have f3 : upd G21 l3 (.lst [.ref a17, .ref a18, .ref a19, .ref a20, .ref a21]) m2 = some (.lst (as3.map V.ref)) := by rw [upd_ne (ne_of_none (t3 _ _ e3b) nl3)]; exact t3 _ _ e3b
    refine ⟨_, _, _, _, rfl, rfl, f3, upd_same, ?_, fun m3 nm3 => ?_⟩
    · rw [List.length_map, e3a, sizeLine_eq]; show 17 + 5 ≤ 16777216; decide
    have w3 : Same G21 (upd G21 l3 (.lst [.ref a17, .ref a18, .ref a19, .ref a20, .ref a21])) := same_upd nl3
    have er3 : ErrL K .non (upd (upd G21 l3 (.lst [.ref a17, .ref a18, .ref a19, .ref a20, .ref a21])) m3 (.lst (as3.map V.ref ++ ([a17, a18, a19, a20, a21] : List Addr).map V.ref))) m3 22 := errL_cat nm3 e3a (al_same w3 (al_same t3 e3c)) (al_same w3 al3)
    have u3 : Same H (upd (upd G21 l3 (.lst [.ref a17, .ref a18, .ref a19, .ref a20, .ref a21])) m3 (.lst (as3.map V.ref ++ ([a17, a18, a19, a20, a21] : List Addr).map V.ref))) := same_trans u2 (same_trans t3 (same_trans w3 (same_upd nm3)))
    have z3 : H m3 = none := u2.free (t3.free (w3.free nm3))
    generalize hh3 : upd (upd G21 l3 (.lst [.ref a17, .ref a18, .ref a19, .ref a20, .ref a21])) m3 (.lst (as3.map V.ref ++ ([a17, a18, a19, a20, a21] : List Addr).map V.ref)) = W3 at er3 u3
    have hh3b : upd (upd G21 l3 (.lst [.ref a17, .ref a18, .ref a19, .ref a20, .ref a21])) m3 (.lst (as3.map V.ref ++ [.ref a17, .ref a18, .ref a19, .ref a20, .ref a21])) = W3 := hh3
    rw [hh3b]
    refine ⟨_, rfl, ?_⟩
    refine new_l fun a22 G22 n22 s22 x22 => ?_
    refine new_c fun a23 G23 n23 s23 x23 => ?_
    refine new_c fun a24 G24 n24 s24 x24 => ?_
    refine new_c fun a25 G25 n25 s25 x25 => ?_
    refine new_c fun a26 G26 n26 s26 x26 => ?_
    refine ⟨(by show 5 ≤ sizeLine; decide +kernel), fun l4 nl4 => ?_⟩
    have t4 : Same W3 G26 := (same_trans (same_trans (same_trans (same_trans s22 s23) s24) s25) s26)
    have al4 : AlE K .non G26 22 [a22, a23, a24, a25, a26] := ⟨(exV_same (exV_same (exV_same (exV_same x22 s23) s24) s25) s26), ⟨(exV_same (exV_same (exV_same x23 s24) s25) s26), ⟨(exV_same (exV_same x24 s25) s26), ⟨(exV_same x25 s26), ⟨x26, trivial⟩⟩⟩⟩⟩
    obtain ⟨as4, e4a, e4b, e4c⟩ := er3
    have f4 : upd G26 l4 (.lst [.ref a22, .ref a23, .ref a24, .ref a25, .ref a26]) m3 = some (.lst (as4.map V.ref)) := by rw [upd_ne (ne_of_none (t4 _ _ e4b) nl4)]; exact t4 _ _ e4b
    refine ⟨_, _, _, _, rfl, rfl, f4, upd_same, ?_, fun m4 nm4 => ?_⟩
    · rw [List.length_map, e4a, sizeLine_eq]; show 22 + 5 ≤ 16777216; decide
    have w4 : Same G26 (upd G26 l4 (.lst [.ref a22, .ref a23, .ref a24, .ref a25, .ref a26])) := same_upd nl4
    have er4 : ErrL K .non (upd (upd G26 l4 (.lst [.ref a22, .ref a23, .ref a24, .ref a25, .ref a26])) m4 (.lst (as4.map V.ref ++ ([a22, a23, a24, a25, a26] : List Addr).map V.ref))) m4 27 := errL_cat nm4 e4a (al_same w4 (al_same t4 e4c)) (al_same w4 al4)
    have u4 : Same H (upd (upd G26 l4 (.lst [.ref a22, .ref a23, .ref a24, .ref a25, .ref a26])) m4 (.lst (as4.map V.ref ++ ([a22, a23, a24, a25, a26] : List Addr).map V.ref))) := same_trans u3 (same_trans t4 (same_trans w4 (same_upd nm4)))
    have z4 : H m4 = none := u3.free (t4.free (w4.free nm4))
    generalize hh4 : upd (upd G26 l4 (.lst [.ref a22, .ref a23, .ref a24, .ref a25, .ref a26])) m4 (.lst (as4.map V.ref ++ ([a22, a23, a24, a25, a26] : List Addr).map V.ref)) = W4 at er4 u4
    have hh4b : upd (upd G26 l4 (.lst [.ref a22, .ref a23, .ref a24, .ref a25, .ref a26])) m4 (.lst (as4.map V.ref ++ [.ref a22, .ref a23, .ref a24, .ref a25, .ref a26])) = W4 := hh4
    rw [hh4b]
    exact ⟨_, rfl, q m4 _ z4 u4 er4⟩
end

end K1
set_option Elab.async false
set_option linter.all false
set_option maxRecDepth 100000
set_option maxHeartbeats 8000000
namespace L2
open PySem PySem.Spec PyProof.Rows
/-- an exception of the class at C stands at a: bare, or with one field -/
def ExI (C a : Addr) (H : Hp) : Prop := H a = some (exo a C none) ∨ ∃ v, ExV C a v H
def rIsY (K : PySem.W.Frag) : List V → Hp → VK → Prop := fun xs H Q => ∃ (a C : Addr) (c : V) (cv : Value) (b : Bool), xs = [.ref a, c] ∧ ClsV c cv ∧ ExcC K C ∧ ExI C a H ∧ PySem.W.kitOne K (.ref C) cv = some b ∧ Q (.bl b) H
section
variable {X : Cx}
theorem call_isY : CallR X (.builtin "isinstance") (rIsY X.K) := by
  intro pins s σ H xs us Q I r h
  obtain ⟨a, C, c, cv, b, rfl, kc, T, x, e, q⟩ := h
  rcases x with ea | ⟨v, x⟩
  · obtain ⟨u1, u2, rfl, r1, r2⟩ := vals2 r
    have e2 := kc.eq r2
    subst e2
    obtain rfl : u1 = Value.ref a := r1
    obtain ⟨t1, ho⟩ := exo_at I.hok ea
    exact PySem.W.kia_one (PySem.Xv.kit_of_exc T) I.kIn ⟨_, none, ho, rfl, rfl, trivial⟩ e (fun z => nomatch z) fun tk => ⟨.bl b, H, I.tok tk, rfl, q⟩
  · exact call_isX pins s σ H _ us Q I r ⟨a, C, v, c, cv, b, rfl, kc, T, x, e, q⟩
/-- C() of an own class without own __init__ -/
theorem pe_xn0 {C : Addr} {bmB : List Value} {B newId initId : String} {x : Str} {p pos : Pos} (F : ExcBaseFacts B newId initId bmB) (q : PySem.W.excIn X.K C bmB newId = true) (gC : X.mg x = some (.ref C)) (kC : PySem.W.keepIn X.K (.ref C) = true) (hg : Gl X x)
    (hdb : (x == ("__debug__" : Str)) = false := by decide) : PE X (.Call (.Name x p) [] [] pos) (fun σ H Q => ∀ a, H a = none → Q (.ref a) (upd H a (exo a C none))) := by
  refine ⟨fun pins s σ H Q I h => ?_⟩
  refine wpAny_Call_Name_kw (ld_glob I hg gC ?_ hdb)
  refine PySem.W.callWith_K0 I.kIn kC ?_
  show wpAny _ _ (call (.ref C) []) _ _ _
  obtain ⟨bm, N, nm, qn, bs, hdct, sn, sub, ab, col, dd, k0, k1, k2, k3, k5, mN, hC, hN, hni, T⟩ := exc_obj I.kIn q
  refine wpAny_call_exc_subT F T hC hN hni (fun h' a hm => ?_) (Nat.zero_le _)
  have hn : H a = none := I.hok.gone hm.new
  obtain ⟨t, ht, _, _⟩ := hm.there
  exact ⟨.ref a, upd H a (exo a C none), I.laidN hm.keeps hm.new hn (exo_ok ht), rfl, h a hn⟩
end
end L2
namespace K1
open PySem PySem.Spec PyProof.Rows L2
theorem exI_same {C a : Addr} {H H' : Hp} (x : ExI C a H) (s : Same H H') : ExI C a H' := by
  rcases x with e | ⟨v, x⟩
  · exact Or.inl (s _ _ e)
  · exact Or.inr ⟨v, exV_same x s⟩
section
variable {P : Program} {w : World} {K : PySem.W.Frag} {mg : Str → Option Value} {base : Heap}
/-! ### _law_is_error -/
def spIsErr (K : PySem.W.Frag) : Sp := fun vs H Q _ => ∃ (a : Addr) (i : Nat), vs = [.ref a] ∧ i < 30 ∧ ExI (ca K i) a H ∧ Q (.bl true) H
theorem scIsErr : FnScope ["_law_error"] ["_law_error"] (defScope sIsErr) := ⟨rfl, rfl, rfl, by decide +kernel, rfl, by decide +kernel, by decide +kernel⟩
theorem ok_isErr {f : Addr} {fd : FuncData} (F : FnP K "_law_is_error" sIsErr f fd) (T : Tx K mg) : FnOk P w K mg base CX0 1 f fd ["_law_error"] (spIsErr K) := by
  refine F.ok scIsErr (fun vs H Q E h => ?_) (fun cdv A outer s H vs Q E hr h => ?_)
  · obtain ⟨_, _, rfl, _⟩ := h
    rfl
  · obtain ⟨a, i, rfl, hi, x, q⟩ := h
    have gIs := T.fr "isinstance" (by decide +kernel)
    have gV := T.fr "ValueError" (by decide +kernel)
    have g29 := (T.cls 29 (by decide)).1
    obtain ⟨_, hE, _, kV, kG, _⟩ := T.cls i hi
    refine ⟨_, PSs.nox (pss_one (ps_ret (pe_and (pe_callB call_isY (by rfl) gIs (by decide +kernel) (pa_cons (pv 0) (pa_cons (pe_glob (by rfl) g29 (v := .ref (ca K 29)) rfl) pa_nil)))
      (pe_one (pe_callB call_isY (by rfl) gIs (by decide +kernel) (pa_cons (pv 0) (pa_cons (pe_bltn (v := .ty "ValueError") (by rfl) gV (by decide +kernel) rfl) pa_nil))))))), ?_⟩
    exact ⟨_, rfl, a, _, _, _, _, rfl, ClsV.own _, hE, x, kG, _, rfl, _, rfl, a, _, _, _, _, rfl, ClsV.ty _, hE, x, kV, q⟩
theorem rng2 (f : Nat → V) (k : Nat) : (List.range k).map f ++ [f k, f (k + 1)] = (List.range (k + 2)).map f := by
  rw [show k + 2 = (k + 1) + 1 from rfl, List.range_succ, List.range_succ, List.map_append, List.map_append, List.append_assoc]
  rfl
theorem rng3 (f : Nat → V) (k : Nat) : (List.range k).map f ++ [f k, f (k + 1), f (k + 2)] = (List.range (k + 3)).map f := by
  rw [show k + 3 = ((k + 1) + 1) + 1 from rfl, List.range_succ, List.range_succ, List.range_succ, List.map_append, List.map_append, List.map_append, List.append_assoc, List.append_assoc]
  rfl
/-! ### _law_code -/
def spCode (K : PySem.W.Frag) : Sp := fun vs H Q _ => ∃ (a : Addr) (i : Nat), vs = [.ref a] ∧ i < 30 ∧ ExI (ca K i) a H ∧ ∀ (D : Addr) (H' : Hp), H D = none → Same H H' → H' D = some (.lst (if i < 29 then [.int (i : Nat)] else [])) → Q (.ref D) H'
theorem scCode : FnScope ["_law_error", "_law_found", "_law_at"] ["_law_error"] (defScope sCode) := ⟨rfl, rfl, rfl, by decide +kernel, rfl, by decide +kernel, by decide +kernel⟩
theorem ok_code {f : Addr} {fd : FuncData} (F : FnP K "_law_code" sCode f fd) (T : Tx K mg) : FnOk P w K mg base CX0 1 f fd ["_law_error"] (spCode K) := by
  refine F.ok scCode (fun vs H Q E h => ?_) (fun cdv A outer s H vs Q E hr h => ?_)
  · obtain ⟨_, _, rfl, _⟩ := h
    rfl
  · obtain ⟨a, i, rfl, hi, x, q⟩ := h
    have gIs := T.fr "isinstance" (by decide +kernel)
    have gR := T.fr "range" (by decide +kernel)
    have gL := T.fr "len" (by decide +kernel)
    obtain ⟨_, hE, _, _, _, kk⟩ := T.cls i hi

    refine ⟨_, PSs.nox (pss_cons (ps_set (i := 1) scCode.nd rfl (Or.inr rfl) (pe_lst (pa_cons (pe_callB call_isY (by rfl) gIs (by decide +kernel) (pa_cons (pv 0) (pa_cons (pe_glob (by rfl) (T.cls 0 (by decide)).1 (v := .ref (ca K 0)) rfl) pa_nil))) (pa_cons (pe_callB call_isY (by rfl) gIs (by decide +kernel) (pa_cons (pv 0) (pa_cons (pe_glob (by rfl) (T.cls 1 (by decide)).1 (v := .ref (ca K 1)) rfl) pa_nil))) pa_nil))))
      (pss_cons (ps_set (i := 1) scCode.nd rfl (Or.inr rfl) (pe_op op_cat (pv 1) (pe_lst (pa_cons (pe_callB call_isY (by rfl) gIs (by decide +kernel) (pa_cons (pv 0) (pa_cons (pe_glob (by rfl) (T.cls 2 (by decide)).1 (v := .ref (ca K 2)) rfl) pa_nil))) (pa_cons (pe_callB call_isY (by rfl) gIs (by decide +kernel) (pa_cons (pv 0) (pa_cons (pe_glob (by rfl) (T.cls 3 (by decide)).1 (v := .ref (ca K 3)) rfl) pa_nil))) pa_nil)))))
      (pss_cons (ps_set (i := 1) scCode.nd rfl (Or.inr rfl) (pe_op op_cat (pv 1) (pe_lst (pa_cons (pe_callB call_isY (by rfl) gIs (by decide +kernel) (pa_cons (pv 0) (pa_cons (pe_glob (by rfl) (T.cls 4 (by decide)).1 (v := .ref (ca K 4)) rfl) pa_nil))) (pa_cons (pe_callB call_isY (by rfl) gIs (by decide +kernel) (pa_cons (pv 0) (pa_cons (pe_glob (by rfl) (T.cls 5 (by decide)).1 (v := .ref (ca K 5)) rfl) pa_nil))) pa_nil)))))
      (pss_cons (ps_set (i := 1) scCode.nd rfl (Or.inr rfl) (pe_op op_cat (pv 1) (pe_lst (pa_cons (pe_callB call_isY (by rfl) gIs (by decide +kernel) (pa_cons (pv 0) (pa_cons (pe_glob (by rfl) (T.cls 6 (by decide)).1 (v := .ref (ca K 6)) rfl) pa_nil))) (pa_cons (pe_callB call_isY (by rfl) gIs (by decide +kernel) (pa_cons (pv 0) (pa_cons (pe_glob (by rfl) (T.cls 7 (by decide)).1 (v := .ref (ca K 7)) rfl) pa_nil))) pa_nil)))))
      (pss_cons (ps_set (i := 1) scCode.nd rfl (Or.inr rfl) (pe_op op_cat (pv 1) (pe_lst (pa_cons (pe_callB call_isY (by rfl) gIs (by decide +kernel) (pa_cons (pv 0) (pa_cons (pe_glob (by rfl) (T.cls 8 (by decide)).1 (v := .ref (ca K 8)) rfl) pa_nil))) (pa_cons (pe_callB call_isY (by rfl) gIs (by decide +kernel) (pa_cons (pv 0) (pa_cons (pe_glob (by rfl) (T.cls 9 (by decide)).1 (v := .ref (ca K 9)) rfl) pa_nil))) pa_nil)))))
      (pss_cons (ps_set (i := 1) scCode.nd rfl (Or.inr rfl) (pe_op op_cat (pv 1) (pe_lst (pa_cons (pe_callB call_isY (by rfl) gIs (by decide +kernel) (pa_cons (pv 0) (pa_cons (pe_glob (by rfl) (T.cls 10 (by decide)).1 (v := .ref (ca K 10)) rfl) pa_nil))) (pa_cons (pe_callB call_isY (by rfl) gIs (by decide +kernel) (pa_cons (pv 0) (pa_cons (pe_glob (by rfl) (T.cls 11 (by decide)).1 (v := .ref (ca K 11)) rfl) pa_nil))) pa_nil)))))
      (pss_cons (ps_set (i := 1) scCode.nd rfl (Or.inr rfl) (pe_op op_cat (pv 1) (pe_lst (pa_cons (pe_callB call_isY (by rfl) gIs (by decide +kernel) (pa_cons (pv 0) (pa_cons (pe_glob (by rfl) (T.cls 12 (by decide)).1 (v := .ref (ca K 12)) rfl) pa_nil))) (pa_cons (pe_callB call_isY (by rfl) gIs (by decide +kernel) (pa_cons (pv 0) (pa_cons (pe_glob (by rfl) (T.cls 13 (by decide)).1 (v := .ref (ca K 13)) rfl) pa_nil))) pa_nil)))))
      (pss_cons (ps_set (i := 1) scCode.nd rfl (Or.inr rfl) (pe_op op_cat (pv 1) (pe_lst (pa_cons (pe_callB call_isY (by rfl) gIs (by decide +kernel) (pa_cons (pv 0) (pa_cons (pe_glob (by rfl) (T.cls 14 (by decide)).1 (v := .ref (ca K 14)) rfl) pa_nil))) (pa_cons (pe_callB call_isY (by rfl) gIs (by decide +kernel) (pa_cons (pv 0) (pa_cons (pe_glob (by rfl) (T.cls 15 (by decide)).1 (v := .ref (ca K 15)) rfl) pa_nil))) pa_nil)))))
      (pss_cons (ps_set (i := 1) scCode.nd rfl (Or.inr rfl) (pe_op op_cat (pv 1) (pe_lst (pa_cons (pe_callB call_isY (by rfl) gIs (by decide +kernel) (pa_cons (pv 0) (pa_cons (pe_glob (by rfl) (T.cls 16 (by decide)).1 (v := .ref (ca K 16)) rfl) pa_nil))) (pa_cons (pe_callB call_isY (by rfl) gIs (by decide +kernel) (pa_cons (pv 0) (pa_cons (pe_glob (by rfl) (T.cls 17 (by decide)).1 (v := .ref (ca K 17)) rfl) pa_nil))) pa_nil)))))
      (pss_cons (ps_set (i := 1) scCode.nd rfl (Or.inr rfl) (pe_op op_cat (pv 1) (pe_lst (pa_cons (pe_callB call_isY (by rfl) gIs (by decide +kernel) (pa_cons (pv 0) (pa_cons (pe_glob (by rfl) (T.cls 18 (by decide)).1 (v := .ref (ca K 18)) rfl) pa_nil))) (pa_cons (pe_callB call_isY (by rfl) gIs (by decide +kernel) (pa_cons (pv 0) (pa_cons (pe_glob (by rfl) (T.cls 19 (by decide)).1 (v := .ref (ca K 19)) rfl) pa_nil))) pa_nil)))))
      (pss_cons (ps_set (i := 1) scCode.nd rfl (Or.inr rfl) (pe_op op_cat (pv 1) (pe_lst (pa_cons (pe_callB call_isY (by rfl) gIs (by decide +kernel) (pa_cons (pv 0) (pa_cons (pe_glob (by rfl) (T.cls 20 (by decide)).1 (v := .ref (ca K 20)) rfl) pa_nil))) (pa_cons (pe_callB call_isY (by rfl) gIs (by decide +kernel) (pa_cons (pv 0) (pa_cons (pe_glob (by rfl) (T.cls 21 (by decide)).1 (v := .ref (ca K 21)) rfl) pa_nil))) pa_nil)))))
      (pss_cons (ps_set (i := 1) scCode.nd rfl (Or.inr rfl) (pe_op op_cat (pv 1) (pe_lst (pa_cons (pe_callB call_isY (by rfl) gIs (by decide +kernel) (pa_cons (pv 0) (pa_cons (pe_glob (by rfl) (T.cls 22 (by decide)).1 (v := .ref (ca K 22)) rfl) pa_nil))) (pa_cons (pe_callB call_isY (by rfl) gIs (by decide +kernel) (pa_cons (pv 0) (pa_cons (pe_glob (by rfl) (T.cls 23 (by decide)).1 (v := .ref (ca K 23)) rfl) pa_nil))) pa_nil)))))
      (pss_cons (ps_set (i := 1) scCode.nd rfl (Or.inr rfl) (pe_op op_cat (pv 1) (pe_lst (pa_cons (pe_callB call_isY (by rfl) gIs (by decide +kernel) (pa_cons (pv 0) (pa_cons (pe_glob (by rfl) (T.cls 24 (by decide)).1 (v := .ref (ca K 24)) rfl) pa_nil))) (pa_cons (pe_callB call_isY (by rfl) gIs (by decide +kernel) (pa_cons (pv 0) (pa_cons (pe_glob (by rfl) (T.cls 25 (by decide)).1 (v := .ref (ca K 25)) rfl) pa_nil))) (pa_cons (pe_callB call_isY (by rfl) gIs (by decide +kernel) (pa_cons (pv 0) (pa_cons (pe_glob (by rfl) (T.cls 26 (by decide)).1 (v := .ref (ca K 26)) rfl) pa_nil))) pa_nil))))))
      (pss_cons (ps_set (i := 1) scCode.nd rfl (Or.inr rfl) (pe_op op_cat (pv 1) (pe_lst (pa_cons (pe_callB call_isY (by rfl) gIs (by decide +kernel) (pa_cons (pv 0) (pa_cons (pe_glob (by rfl) (T.cls 27 (by decide)).1 (v := .ref (ca K 27)) rfl) pa_nil))) (pa_cons (pe_callB call_isY (by rfl) gIs (by decide +kernel) (pa_cons (pv 0) (pa_cons (pe_glob (by rfl) (T.cls 28 (by decide)).1 (v := .ref (ca K 28)) rfl) pa_nil))) pa_nil)))))
      (pss_one (ps_ret (pe_lc (own := [("_law_at", 2)]) (g := gName 2) (tt := tB (tOp (rIxL K) (tVar 1) (tVar 2))) rfl scCode.nd (pi_range1 rfl gR (pa_cons (pe_callB call_len_seq (by rfl) gL PySem.boot_len (pa_cons (pv 1) pa_nil)) pa_nil))
        (blkOk_by (own := [("_law_at", 2)]) (N := ["_law_error", "_law_found", "_law_at"]) (sc := defScope sCode) (by decide +kernel))
        (fun _ _ _ _ _ => pg_name (i := 2) scCode.nd rfl (Or.inl rfl)) (fun _ _ _ _ _ => pts_one (pt_val (pe_ix ix_list (pv 1) (pv 2) (fun _ _ => rfl)))) (fun _ _ _ _ _ => pv 2)))))))))))))))))), ?_⟩
    have hb : ∃ Bs : Nat → List V, (∀ k, (Bs k).length = k) ∧ [V.bl (decide (i = 0)), V.bl (decide (i = 1))] = Bs 2 ∧ (∀ k, Bs k ++ [V.bl (decide (i = k)), V.bl (decide (i = k + 1))] = Bs (k + 2)) ∧ (∀ k, Bs k ++ [V.bl (decide (i = k)), V.bl (decide (i = k + 1)), V.bl (decide (i = k + 2))] = Bs (k + 3)) ∧ ∀ j, j < 29 → (Bs 29)[j]? = some (V.bl (decide (i = j))) :=
      ⟨fun k => (List.range k).map fun j => V.bl (decide (i = j)), fun k => by rw [List.length_map, List.length_range], rfl, fun k => rng2 _ k, fun k => rng3 _ k, fun j hj => by rw [List.getElem?_map, List.getElem?_range hj]; rfl⟩
    obtain ⟨Bs, bl, b0, b2, b3, b29⟩ := hb
    refine ⟨_, rfl, a, _, _, _, _, rfl, ClsV.own _, hE, x, kk 0 (by decide), _, rfl, a, _, _, _, _, rfl, ClsV.own _, hE, x, kk 1 (by decide), (by show 2 ≤ sizeLine; decide +kernel), fun l0 nl0 => ?_⟩
    obtain ⟨W0, hW0, u0, e0⟩ : ∃ W, upd H l0 (.lst [.bl (decide (i = 0)), .bl (decide (i = 1))]) = W ∧ Same H W ∧ W l0 = some (.lst (Bs 2)) := ⟨_, rfl, same_upd nl0, by rw [upd_same, b0]⟩
    rw [hW0]
    refine ⟨_, rfl, _, rfl, a, _, _, _, _, rfl, ClsV.own _, hE, (exI_same x u0), kk 2 (by decide), _, rfl, a, _, _, _, _, rfl, ClsV.own _, hE, (exI_same x u0), kk 3 (by decide), (by show 2 ≤ sizeLine; decide +kernel), fun l1 nl1 => ?_⟩
    have f1 : upd W0 l1 (.lst [.bl (decide (i = 2)), .bl (decide (i = 3))]) l0 = some (.lst (Bs 2)) := (upd_ne (ne_of_none e0 nl1)).trans e0
    refine ⟨_, _, _, _, rfl, rfl, f1, upd_same, ?_, fun m1 nm1 => ?_⟩
    · rw [bl, sizeLine_eq]; show 2 + 2 ≤ 16777216; decide
    obtain ⟨W1, hW1, u1, e1⟩ : ∃ W, upd (upd W0 l1 (.lst [.bl (decide (i = 2)), .bl (decide (i = 3))])) m1 (.lst (Bs 2 ++ [.bl (decide (i = 2)), .bl (decide (i = 3))])) = W ∧ Same H W ∧ W m1 = some (.lst (Bs 4)) := ⟨_, rfl, same_trans u0 (same_trans (same_upd nl1) (same_upd nm1)), by rw [upd_same]; exact congrArg (fun z => some (HO.lst z)) (b2 2)⟩
    rw [hW1]
    refine ⟨_, rfl, _, rfl, a, _, _, _, _, rfl, ClsV.own _, hE, (exI_same x u1), kk 4 (by decide), _, rfl, a, _, _, _, _, rfl, ClsV.own _, hE, (exI_same x u1), kk 5 (by decide), (by show 2 ≤ sizeLine; decide +kernel), fun l2 nl2 => ?_⟩
    have f2 : upd W1 l2 (.lst [.bl (decide (i = 4)), .bl (decide (i = 5))]) m1 = some (.lst (Bs 4)) := (upd_ne (ne_of_none e1 nl2)).trans e1
    refine ⟨_, _, _, _, rfl, rfl, f2, upd_same, ?_, fun m2 nm2 => ?_⟩
    · rw [bl, sizeLine_eq]; show 4 + 2 ≤ 16777216; decide
    obtain ⟨W2, hW2, u2, e2⟩ : ∃ W, upd (upd W1 l2 (.lst [.bl (decide (i = 4)), .bl (decide (i = 5))])) m2 (.lst (Bs 4 ++ [.bl (decide (i = 4)), .bl (decide (i = 5))])) = W ∧ Same H W ∧ W m2 = some (.lst (Bs 6)) := ⟨_, rfl, same_trans u1 (same_trans (same_upd nl2) (same_upd nm2)), by rw [upd_same]; exact congrArg (fun z => some (HO.lst z)) (b2 4)⟩
    rw [hW2]
    refine ⟨_, rfl, _, rfl, a, _, _, _, _, rfl, ClsV.own _, hE, (exI_same x u2), kk 6 (by decide), _, rfl, a, _, _, _, _, rfl, ClsV.own _, hE, (exI_same x u2), kk 7 (by decide), (by show 2 ≤ sizeLine; decide +kernel), fun l3 nl3 => ?_⟩
    have f3 : upd W2 l3 (.lst [.bl (decide (i = 6)), .bl (decide (i = 7))]) m2 = some (.lst (Bs 6)) := (upd_ne (ne_of_none e2 nl3)).trans e2
    refine ⟨_, _, _, _, rfl, rfl, f3, upd_same, ?_, fun m3 nm3 => ?_⟩
    · rw [bl, sizeLine_eq]; show 6 + 2 ≤ 16777216; decide
    obtain ⟨W3, hW3, u3, e3⟩ : ∃ W, upd (upd W2 l3 (.lst [.bl (decide (i = 6)), .bl (decide (i = 7))])) m3 (.lst (Bs 6 ++ [.bl (decide (i = 6)), .bl (decide (i = 7))])) = W ∧ Same H W ∧ W m3 = some (.lst (Bs 8)) := ⟨_, rfl, same_trans u2 (same_trans (same_upd nl3) (same_upd nm3)), by rw [upd_same]; exact congrArg (fun z => some (HO.lst z)) (b2 6)⟩
    rw [hW3]
    refine ⟨_, rfl, _, rfl, a, _, _, _, _, rfl, ClsV.own _, hE, (exI_same x u3), kk 8 (by decide), _, rfl, a, _, _, _, _, rfl, ClsV.own _, hE, (exI_same x u3), kk 9 (by decide), (by show 2 ≤ sizeLine; decide +kernel), fun l4 nl4 => ?_⟩
    have f4 : upd W3 l4 (.lst [.bl (decide (i = 8)), .bl (decide (i = 9))]) m3 = some (.lst (Bs 8)) := (upd_ne (ne_of_none e3 nl4)).trans e3
    refine ⟨_, _, _, _, rfl, rfl, f4, upd_same, ?_, fun m4 nm4 => ?_⟩
    · rw [bl, sizeLine_eq]; show 8 + 2 ≤ 16777216; decide
    obtain ⟨W4, hW4, u4, e4⟩ : ∃ W, upd (upd W3 l4 (.lst [.bl (decide (i = 8)), .bl (decide (i = 9))])) m4 (.lst (Bs 8 ++ [.bl (decide (i = 8)), .bl (decide (i = 9))])) = W ∧ Same H W ∧ W m4 = some (.lst (Bs 10)) := ⟨_, rfl, same_trans u3 (same_trans (same_upd nl4) (same_upd nm4)), by rw [upd_same]; exact congrArg (fun z => some (HO.lst z)) (b2 8)⟩
    rw [hW4]
    refine ⟨_, rfl, _, rfl, a, _, _, _, _, rfl, ClsV.own _, hE, (exI_same x u4), kk 10 (by decide), _, rfl, a, _, _, _, _, rfl, ClsV.own _, hE, (exI_same x u4), kk 11 (by decide), (by show 2 ≤ sizeLine; decide +kernel), fun l5 nl5 => ?_⟩
    have f5 : upd W4 l5 (.lst [.bl (decide (i = 10)), .bl (decide (i = 11))]) m4 = some (.lst (Bs 10)) := (upd_ne (ne_of_none e4 nl5)).trans e4
    refine ⟨_, _, _, _, rfl, rfl, f5, upd_same, ?_, fun m5 nm5 => ?_⟩
    · rw [bl, sizeLine_eq]; show 10 + 2 ≤ 16777216; decide
    obtain ⟨W5, hW5, u5, e5⟩ : ∃ W, upd (upd W4 l5 (.lst [.bl (decide (i = 10)), .bl (decide (i = 11))])) m5 (.lst (Bs 10 ++ [.bl (decide (i = 10)), .bl (decide (i = 11))])) = W ∧ Same H W ∧ W m5 = some (.lst (Bs 12)) := ⟨_, rfl, same_trans u4 (same_trans (same_upd nl5) (same_upd nm5)), by rw [upd_same]; exact congrArg (fun z => some (HO.lst z)) (b2 10)⟩
    rw [hW5]
    refine ⟨_, rfl, _, rfl, a, _, _, _, _, rfl, ClsV.own _, hE, (exI_same x u5), kk 12 (by decide), _, rfl, a, _, _, _, _, rfl, ClsV.own _, hE, (exI_same x u5), kk 13 (by decide), (by show 2 ≤ sizeLine; decide +kernel), fun l6 nl6 => ?_⟩
    have f6 : upd W5 l6 (.lst [.bl (decide (i = 12)), .bl (decide (i = 13))]) m5 = some (.lst (Bs 12)) := (upd_ne (ne_of_none e5 nl6)).trans e5
    refine ⟨_, _, _, _, rfl, rfl, f6, upd_same, ?_, fun m6 nm6 => ?_⟩
    · rw [bl, sizeLine_eq]; show 12 + 2 ≤ 16777216; decide
    obtain ⟨W6, hW6, u6, e6⟩ : ∃ W, upd (upd W5 l6 (.lst [.bl (decide (i = 12)), .bl (decide (i = 13))])) m6 (.lst (Bs 12 ++ [.bl (decide (i = 12)), .bl (decide (i = 13))])) = W ∧ Same H W ∧ W m6 = some (.lst (Bs 14)) := ⟨_, rfl, same_trans u5 (same_trans (same_upd nl6) (same_upd nm6)), by rw [upd_same]; exact congrArg (fun z => some (HO.lst z)) (b2 12)⟩
    rw [hW6]
    refine ⟨_, rfl, _, rfl, a, _, _, _, _, rfl, ClsV.own _, hE, (exI_same x u6), kk 14 (by decide), _, rfl, a, _, _, _, _, rfl, ClsV.own _, hE, (exI_same x u6), kk 15 (by decide), (by show 2 ≤ sizeLine; decide +kernel), fun l7 nl7 => ?_⟩
    have f7 : upd W6 l7 (.lst [.bl (decide (i = 14)), .bl (decide (i = 15))]) m6 = some (.lst (Bs 14)) := (upd_ne (ne_of_none e6 nl7)).trans e6
    refine ⟨_, _, _, _, rfl, rfl, f7, upd_same, ?_, fun m7 nm7 => ?_⟩
    · rw [bl, sizeLine_eq]; show 14 + 2 ≤ 16777216; decide
    obtain ⟨W7, hW7, u7, e7⟩ : ∃ W, upd (upd W6 l7 (.lst [.bl (decide (i = 14)), .bl (decide (i = 15))])) m7 (.lst (Bs 14 ++ [.bl (decide (i = 14)), .bl (decide (i = 15))])) = W ∧ Same H W ∧ W m7 = some (.lst (Bs 16)) := ⟨_, rfl, same_trans u6 (same_trans (same_upd nl7) (same_upd nm7)), by rw [upd_same]; exact congrArg (fun z => some (HO.lst z)) (b2 14)⟩
    rw [hW7]
    refine ⟨_, rfl, _, rfl, a, _, _, _, _, rfl, ClsV.own _, hE, (exI_same x u7), kk 16 (by decide), _, rfl, a, _, _, _, _, rfl, ClsV.own _, hE, (exI_same x u7), kk 17 (by decide), (by show 2 ≤ sizeLine; decide +kernel), fun l8 nl8 => ?_⟩
    have f8 : upd W7 l8 (.lst [.bl (decide (i = 16)), .bl (decide (i = 17))]) m7 = some (.lst (Bs 16)) := (upd_ne (ne_of_none e7 nl8)).trans e7
    refine ⟨_, _, _, _, rfl, rfl, f8, upd_same, ?_, fun m8 nm8 => ?_⟩
    · rw [bl, sizeLine_eq]; show 16 + 2 ≤ 16777216; decide
    obtain ⟨W8, hW8, u8, e8⟩ : ∃ W, upd (upd W7 l8 (.lst [.bl (decide (i = 16)), .bl (decide (i = 17))])) m8 (.lst (Bs 16 ++ [.bl (decide (i = 16)), .bl (decide (i = 17))])) = W ∧ Same H W ∧ W m8 = some (.lst (Bs 18)) := ⟨_, rfl, same_trans u7 (same_trans (same_upd nl8) (same_upd nm8)), by rw [upd_same]; exact congrArg (fun z => some (HO.lst z)) (b2 16)⟩
    rw [hW8]
    refine ⟨_, rfl, _, rfl, a, _, _, _, _, rfl, ClsV.own _, hE, (exI_same x u8), kk 18 (by decide), _, rfl, a, _, _, _, _, rfl, ClsV.own _, hE, (exI_same x u8), kk 19 (by decide), (by show 2 ≤ sizeLine; decide +kernel), fun l9 nl9 => ?_⟩
    have f9 : upd W8 l9 (.lst [.bl (decide (i = 18)), .bl (decide (i = 19))]) m8 = some (.lst (Bs 18)) := (upd_ne (ne_of_none e8 nl9)).trans e8
    refine ⟨_, _, _, _, rfl, rfl, f9, upd_same, ?_, fun m9 nm9 => ?_⟩
    · rw [bl, sizeLine_eq]; show 18 + 2 ≤ 16777216; decide
    obtain ⟨W9, hW9, u9, e9⟩ : ∃ W, upd (upd W8 l9 (.lst [.bl (decide (i = 18)), .bl (decide (i = 19))])) m9 (.lst (Bs 18 ++ [.bl (decide (i = 18)), .bl (decide (i = 19))])) = W ∧ Same H W ∧ W m9 = some (.lst (Bs 20)) := ⟨_, rfl, same_trans u8 (same_trans (same_upd nl9) (same_upd nm9)), by rw [upd_same]; exact congrArg (fun z => some (HO.lst z)) (b2 18)⟩
    rw [hW9]
    refine ⟨_, rfl, _, rfl, a, _, _, _, _, rfl, ClsV.own _, hE, (exI_same x u9), kk 20 (by decide), _, rfl, a, _, _, _, _, rfl, ClsV.own _, hE, (exI_same x u9), kk 21 (by decide), (by show 2 ≤ sizeLine; decide +kernel), fun l10 nl10 => ?_⟩
    have f10 : upd W9 l10 (.lst [.bl (decide (i = 20)), .bl (decide (i = 21))]) m9 = some (.lst (Bs 20)) := (upd_ne (ne_of_none e9 nl10)).trans e9
    refine ⟨_, _, _, _, rfl, rfl, f10, upd_same, ?_, fun m10 nm10 => ?_⟩
    · rw [bl, sizeLine_eq]; show 20 + 2 ≤ 16777216; decide
    obtain ⟨W10, hW10, u10, e10⟩ : ∃ W, upd (upd W9 l10 (.lst [.bl (decide (i = 20)), .bl (decide (i = 21))])) m10 (.lst (Bs 20 ++ [.bl (decide (i = 20)), .bl (decide (i = 21))])) = W ∧ Same H W ∧ W m10 = some (.lst (Bs 22)) := ⟨_, rfl, same_trans u9 (same_trans (same_upd nl10) (same_upd nm10)), by rw [upd_same]; exact congrArg (fun z => some (HO.lst z)) (b2 20)⟩
    rw [hW10]
    refine ⟨_, rfl, _, rfl, a, _, _, _, _, rfl, ClsV.own _, hE, (exI_same x u10), kk 22 (by decide), _, rfl, a, _, _, _, _, rfl, ClsV.own _, hE, (exI_same x u10), kk 23 (by decide), (by show 2 ≤ sizeLine; decide +kernel), fun l11 nl11 => ?_⟩
    have f11 : upd W10 l11 (.lst [.bl (decide (i = 22)), .bl (decide (i = 23))]) m10 = some (.lst (Bs 22)) := (upd_ne (ne_of_none e10 nl11)).trans e10
    refine ⟨_, _, _, _, rfl, rfl, f11, upd_same, ?_, fun m11 nm11 => ?_⟩
    · rw [bl, sizeLine_eq]; show 22 + 2 ≤ 16777216; decide
    obtain ⟨W11, hW11, u11, e11⟩ : ∃ W, upd (upd W10 l11 (.lst [.bl (decide (i = 22)), .bl (decide (i = 23))])) m11 (.lst (Bs 22 ++ [.bl (decide (i = 22)), .bl (decide (i = 23))])) = W ∧ Same H W ∧ W m11 = some (.lst (Bs 24)) := ⟨_, rfl, same_trans u10 (same_trans (same_upd nl11) (same_upd nm11)), by rw [upd_same]; exact congrArg (fun z => some (HO.lst z)) (b2 22)⟩
    rw [hW11]
    refine ⟨_, rfl, _, rfl, a, _, _, _, _, rfl, ClsV.own _, hE, (exI_same x u11), kk 24 (by decide), _, rfl, a, _, _, _, _, rfl, ClsV.own _, hE, (exI_same x u11), kk 25 (by decide), _, rfl, a, _, _, _, _, rfl, ClsV.own _, hE, (exI_same x u11), kk 26 (by decide), (by show 3 ≤ sizeLine; decide +kernel), fun l12 nl12 => ?_⟩
    have f12 : upd W11 l12 (.lst [.bl (decide (i = 24)), .bl (decide (i = 25)), .bl (decide (i = 26))]) m11 = some (.lst (Bs 24)) := (upd_ne (ne_of_none e11 nl12)).trans e11
    refine ⟨_, _, _, _, rfl, rfl, f12, upd_same, ?_, fun m12 nm12 => ?_⟩
    · rw [bl, sizeLine_eq]; show 24 + 3 ≤ 16777216; decide
    obtain ⟨W12, hW12, u12, e12⟩ : ∃ W, upd (upd W11 l12 (.lst [.bl (decide (i = 24)), .bl (decide (i = 25)), .bl (decide (i = 26))])) m12 (.lst (Bs 24 ++ [.bl (decide (i = 24)), .bl (decide (i = 25)), .bl (decide (i = 26))])) = W ∧ Same H W ∧ W m12 = some (.lst (Bs 27)) := ⟨_, rfl, same_trans u11 (same_trans (same_upd nl12) (same_upd nm12)), by rw [upd_same]; exact congrArg (fun z => some (HO.lst z)) (b3 24)⟩
    rw [hW12]
    refine ⟨_, rfl, _, rfl, a, _, _, _, _, rfl, ClsV.own _, hE, (exI_same x u12), kk 27 (by decide), _, rfl, a, _, _, _, _, rfl, ClsV.own _, hE, (exI_same x u12), kk 28 (by decide), (by show 2 ≤ sizeLine; decide +kernel), fun l13 nl13 => ?_⟩
    have f13 : upd W12 l13 (.lst [.bl (decide (i = 27)), .bl (decide (i = 28))]) m12 = some (.lst (Bs 27)) := (upd_ne (ne_of_none e12 nl13)).trans e12
    refine ⟨_, _, _, _, rfl, rfl, f13, upd_same, ?_, fun m13 nm13 => ?_⟩
    · rw [bl, sizeLine_eq]; show 27 + 2 ≤ 16777216; decide
    obtain ⟨W13, hW13, u13, e13⟩ : ∃ W, upd (upd W12 l13 (.lst [.bl (decide (i = 27)), .bl (decide (i = 28))])) m13 (.lst (Bs 27 ++ [.bl (decide (i = 27)), .bl (decide (i = 28))])) = W ∧ Same H W ∧ W m13 = some (.lst (Bs 29)) := ⟨_, rfl, same_trans u12 (same_trans (same_upd nl13) (same_upd nm13)), by rw [upd_same]; exact congrArg (fun z => some (HO.lst z)) (b2 27)⟩
    rw [hW13]
    refine ⟨_, rfl, m13, _, rfl, Or.inl (SqL.of e13), _, rfl, by rw [bl]; decide, by rw [bl]; decide, fun D hD => ?_⟩
    refine lc_range (lo := 0) (n := (Bs 29).length) (fun j H' => H' D = some (.lst (if i < j then [.int (i : Nat)] else [])) ∧ Same W13 H') ⟨upd_same, same_upd hD⟩ ?_ ?_
    · rintro j H' hj ⟨h1, h2⟩
      have hj29 : j < 29 := by rw [bl] at hj; exact hj
      have at_ : atI (Bs 29) (0 + (j : Nat)) = some (.bl (decide (i = j))) := by
        rw [Int.zero_add]
        exact atI_nat (b29 j hj29)
      refine ⟨rfl, _, rfl, _, rfl, m13, _, _, _, rfl, rfl, SqL.of (h2 _ _ e13), at_, _, rfl, ?_⟩
      by_cases e : i = j
      · rw [decide_eq_true e]
        refine ⟨_, rfl, _, h1, ?_, ?_, ?_⟩
        · rw [if_neg (by omega)]
          show 0 < sizeLine
          decide +kernel
        · rw [if_neg (by omega), if_pos (by omega), upd_same]
          show some (HO.lst [V.int (0 + (j : Nat))]) = _
          rw [Int.zero_add, e]
        · intro b o z
          have nb : b ≠ D := ne_of_none z hD
          rw [upd_ne nb]
          exact h2 _ _ z
      · rw [decide_eq_false e]
        refine ⟨?_, h2⟩
        rw [h1]
        by_cases l : i < j
        · rw [if_pos l, if_pos (by omega)]
        · rw [if_neg l, if_neg (by omega)]
    · rintro H' ⟨h1, h2⟩
      rw [bl] at h1
      exact q D H' (u13.free hD) (same_trans u13 h2) h1
end
end K1
set_option Elab.async false
set_option linter.all false
set_option maxRecDepth 100000
set_option maxHeartbeats 8000000
namespace K1
open PySem PySem.Spec PyProof.Rows L2
theorem ifF {c : Prop} [Decidable c] {p q : Prop} (h : ¬ c) (hq : q) : if c then p else q := by
  rw [if_neg h]
  exact hq
theorem ifT {c : Prop} [Decidable c] {p q : Prop} (h : c) (hp : p) : if c then p else q := by
  rw [if_pos h]
  exact hp
def dsFrom (k : Nat) : Nat → List PyData
  | 0 => []
  | n + 1 => .list [.int (k : Nat)] :: dsFrom (k + 1) n
theorem dp_all {K : PySem.W.Frag} {H : Hp} : ∀ (cs : List Addr) (k0 : Nat), (∀ k c, cs[k]? = some c → H c = some (.lst [.int ((k0 + k : Nat) : Int)])) → DpAll K H (cs.map V.ref) (dsFrom k0 cs.length)
  | [], _, _ => .nil
  | c :: cs, k0, h => .cons (.lst (SqL.of (h 0 c rfl)) (.cons (.int _) .nil)) (dp_all cs (k0 + 1) fun k d e => by
      have q := h (k + 1) d (by simpa using e)
      have e2 : k0 + 1 + k = k0 + (k + 1) := by omega
      rw [e2]
      exact q)
theorem dp_list {K : PySem.W.Frag} {H : Hp} {D : Addr} {cs : List Addr} {n : Nat} (hl : cs.length = n) (hD : H D = some (.lst (cs.map V.ref))) (h : ∀ k c, cs[k]? = some c → H c = some (.lst [.int ((k : Nat) : Int)])) : Dp K H (.ref D) (.list (dsFrom 0 n)) := by
  subst hl
  exact .lst (SqL.of hD) (dp_all cs 0 fun k c e => by rw [Nat.zero_add]; exact h k c e)
theorem ds_eqv : PyData.eqv (.list (dsFrom 0 27)) (.list (dsFrom 0 27)) = true := by decide +kernel
theorem ds_shaped : SeqAt.shaped (.list (dsFrom 0 27)) = true := by decide +kernel
abbrev tFv (K : PySem.W.Frag) (te : TE) : TE := fun σ H Q => te σ H fun x H1 => ∃ (a C : Addr) (v : V), x = .ref a ∧ XfC K C ∧ PySem.W.findIn K (.ref C) "value" = some none ∧ ExV C a v H1 ∧ Q v H1
abbrev rRep : List V → Hp → VK → Prop := fun xs H Q => ∃ v d, xs = [v] ∧ Da H v d ∧ d.showable = true ∧ d.depth ≤ 60 ∧ d.shown.length ≤ sizeLine ∧ Q (.str d.shown) H
abbrev tCond (K : PySem.W.Frag) : TT := tOr (tNot (tB (tCall (spIsErr K) [] E0 (tCons (tVar 2) tNil)))) (tTest (tOp rNe (tCB rRep (tCons (tFv K (tVar 2)) tNil)) (tVar 1)))
section
variable {P : Program} {w : World} {K : PySem.W.Frag} {mg : Str → Option Value} {base : Heap}
/-- v is data that is shown so -/
def Shows (H : Hp) (v : V) (z : Str) : Prop := ∃ d, Da H v d ∧ d.showable = true ∧ d.depth ≤ 60 ∧ d.shown.length ≤ sizeLine ∧ d.shown = z
def spRight (K : PySem.W.Frag) : Sp := fun vs H Q _ => ∃ (L : Addr) (z : Str) (v : V), vs = [.ref L, .str z] ∧ ErrL K v H L 27 ∧ Shows H v z ∧ ∀ H', Same H H' → Q (.bl true) H'
theorem scRight : FnScope ["_law_some", "_law_noted", "_law_error", "_law_at"] ["_law_some", "_law_noted"] (defScope sRight) := ⟨rfl, rfl, rfl, by decide +kernel, rfl, by decide +kernel, by decide +kernel⟩
theorem ok_right {f gC gI : Addr} {fd fdC fdI : FuncData} (F : FnP K "_law_right" sRight f fd) (GC : FnOk P w K mg base CX0 1 gC fdC ["_law_error"] (spCode K)) (FC : FnP K "_law_code" sCode gC fdC) (hgC : mg "_law_code" = some (.ref gC))
    (GI : FnOk P w K mg base CX0 1 gI fdI ["_law_error"] (spIsErr K)) (FI : FnP K "_law_is_error" sIsErr gI fdI) (hgI : mg "_law_is_error" = some (.ref gI)) (T : Tx K mg) : FnG P w K mg base 2 f fd ["_law_some", "_law_noted"] (spRight K) := by
  have bC : Binds K fdC ["_law_error"] [] := FC.bindsN fun _ _ _ _ _ _ us hl => match us, hl with | [_], _ => rfl
  have bI : Binds K fdI ["_law_error"] [] := FI.bindsN fun _ _ _ _ _ _ us hl => match us, hl with | [_], _ => rfl
  refine F.okG scRight (fun vs H Q E h => ?_) (fun cdv A outer s H vs Q E hgd hr h => ?_)
  · obtain ⟨_, _, _, rfl, _⟩ := h
    rfl
  · obtain ⟨L, z, v, rfl, ⟨as, hl, hL, hal⟩, ⟨d, hd, d1, d2, d3, rfl⟩, q⟩ := h
    have gR := T.fr "range" (by decide +kernel)
    have gRep := T.fr "repr" (by decide +kernel)
    have hu : (A.deeper (envOfC "_law_right" (defScope sRight) s.heap.objs.size f cdv)).units + 65 < cLine := by
      have := hr.un
      omega
    have hu64 : (A.deeper (envOfC "_law_right" (defScope sRight) s.heap.objs.size f cdv)).units + 64 < cLine := by omega
    refine ⟨_, PSs.nox (pss_cons (ps_if (pt_cmpR (op_neD hu64)
          (pe_lc (own := [("_law_error", 2)]) (g := gName 2) (tt := tYes) rfl scRight.nd (pi_list (pv 0)) (blkOk_by (own := [("_law_error", 2)]) (N := ["_law_some", "_law_noted", "_law_error", "_law_at"]) (sc := defScope sRight) (by decide +kernel))
            (fun _ _ _ _ _ => pg_name (i := 2) scRight.nd rfl (Or.inl rfl)) (fun _ _ _ _ _ => pts_nil) (fun _ _ _ _ _ => pe_call GC hr rfl hgC FC.kp bC .nil pass0 (pa_cons (pv 2) pa_nil)))
          (pe_lc (own := [("_law_at", 3)]) (g := gName 3) (tt := tYes) rfl scRight.nd (pi_range1 rfl gR (pa_cons pe_int pa_nil)) (blkOk_by (own := [("_law_at", 3)]) (N := ["_law_some", "_law_noted", "_law_error", "_law_at"]) (sc := defScope sRight) (by decide +kernel))
            (fun _ _ _ _ _ => pg_name (i := 3) scRight.nd rfl (Or.inl rfl)) (fun _ _ _ _ _ => pts_nil) (fun _ _ _ _ _ => pe_lst (pa_cons (pv 3) pa_nil))) (nomark _))
        (pss_one (ps_ret pe_bl)) pss_nil)
      (pss_one (ps_ret (pe_cmpR (op_eqD hu64)
          (pe_lc (own := [("_law_error", 2)]) (g := gName 2) (tt := tCond K) rfl scRight.nd (pi_list (pv 0)) (blkOk_by (own := [("_law_error", 2)]) (N := ["_law_some", "_law_noted", "_law_error", "_law_at"]) (sc := defScope sRight) (by decide +kernel))
            (fun _ _ _ _ _ => pg_name (i := 2) scRight.nd rfl (Or.inl rfl))
            (fun _ _ _ _ _ => pts_one (PW.pt (pw_or (pt_not (pt_val (pe_call GI hr rfl hgI FI.kp bI .nil pass0 (pa_cons (pv 2) pa_nil)))) (pw_or1 (pt_cmpR op_ne (pe_callB (call_reprD hgd hu T.sm) (by rfl) gRep (by decide +kernel) (pa_cons (pe_xvF (pv 2)) pa_nil)) (pv 1) (nomark _))))))
            (fun _ _ _ _ _ => pv 2))
          (pe_lst pa_nil) (nomark _))))), ?_⟩
    have hn : as.length = (as.map V.ref).length := (List.length_map _).symm
    have ref_at : ∀ {j : Nat} {y : V}, (as.map V.ref)[j]? = some y → ∃ a, y = .ref a ∧ as[j]? = some a ∧ j < 27 ∧ ExV (ca K j) a v H := fun {j y} e => by
      rw [List.getElem?_map] at e
      cases e2 : as[j]? with
      | none =>
        rw [e2] at e
        cases e
      | some a =>
        rw [e2] at e
        have x := al_at hal j a e2
        rw [Nat.zero_add] at x
        have lt := (List.getElem?_eq_some_iff.mp e2).1
        exact ⟨a, (Option.some.inj e).symm, rfl, by omega, x⟩
    -- the codes
    refine ⟨_, rfl, L, rfl, ⟨_, SqL.of hL⟩, fun D1 nD1 => ?_⟩
    refine lc_list (K := K) (a := L) (xs := as.map V.ref) (fun j H' => Same H H' ∧ ∃ cs : List Addr, cs.length = j ∧ H' D1 = some (.lst (cs.map V.ref)) ∧ ∀ k c, cs[k]? = some c → c ≠ D1 ∧ H' c = some (.lst [.int ((k : Nat) : Int)]))
      ⟨same_upd nD1, [], rfl, upd_same, fun k c e => by simp at e⟩ (fun j H' _ h => SqL.of (h.1 _ _ hL)) ?_ ?_
    · rintro j y H' hj ⟨s1, cs, hcl, hD1, hcs⟩
      obtain ⟨a, rfl, ea, hj27, xa⟩ := ref_at hj
      refine ⟨rfl, _, rfl, a, j, rfl, by omega, Or.inr ⟨v, exV_same xa s1⟩, fun D H2 nD s2 eD => ?_⟩
      rw [if_pos (by omega)] at eD
      have nDD : D ≠ D1 := fun z => by
        rw [z, hD1] at nD
        cases nD
      refine ⟨cs.map V.ref, s2 _ _ hD1, by rw [List.length_map, hcl, sizeLine_eq]; omega, ?_, cs ++ [D], by simp [hcl], by rw [upd_same, List.map_append]; rfl, fun k c e => ?_⟩
      · intro b o z
        rw [upd_ne (ne_of_none z nD1)]
        exact s2 _ _ (s1 _ _ z)
      · by_cases hk : k < cs.length
        · rw [List.getElem?_append_left hk] at e
          obtain ⟨n1, n2⟩ := hcs k c e
          exact ⟨n1, by rw [upd_ne n1]; exact s2 _ _ n2⟩
        · rw [List.getElem?_append_right (by omega)] at e
          have e2 : k - cs.length = 0 := by
            have := (List.getElem?_eq_some_iff.mp e).1
            simp at this
            omega
          rw [e2] at e
          have e3 : D = c := Option.some.inj (show some D = some c from e)
          have e4 : k = j := by omega
          rw [← e3, e4]
          exact ⟨nDD, by rw [upd_ne nDD]; exact eD⟩
    rintro H1 ⟨s1, cs, hcl, hD1, hcs⟩
    have hcl27 : cs.length = 27 := by rw [hcl, List.length_map, hl]
    -- the places
    refine ⟨_, rfl, by decide, by decide, fun D2 nD2 => ?_⟩
    refine lc_range (lo := 0) (n := 27) (fun j H' => Same H1 H' ∧ ∃ ds : List Addr, ds.length = j ∧ H' D2 = some (.lst (ds.map V.ref)) ∧ ∀ k c, ds[k]? = some c → c ≠ D2 ∧ H' c = some (.lst [.int ((k : Nat) : Int)]))
      ⟨same_upd nD2, [], rfl, upd_same, fun k c e => by simp at e⟩ ?_ ?_
    · rintro j H' hj ⟨s2, ds, hdl, hD2, hds⟩
      refine ⟨rfl, _, rfl, (by show 1 ≤ sizeLine; decide +kernel), fun l nl => ?_⟩
      have nlD : l ≠ D2 := fun z => by
        rw [z, hD2] at nl
        cases nl
      refine ⟨ds.map V.ref, by rw [upd_ne (Ne.symm nlD)]; exact hD2, by rw [List.length_map, hdl, sizeLine_eq]; omega, ?_, ds ++ [l], by simp [hdl], by rw [upd_same, List.map_append]; rfl, fun k c e => ?_⟩
      · intro b o z
        rw [upd_ne (ne_of_none z nD2), upd_ne (ne_of_none (s2 _ _ z) nl)]
        exact s2 _ _ z
      · by_cases hk : k < ds.length
        · rw [List.getElem?_append_left hk] at e
          obtain ⟨n1, n2⟩ := hds k c e
          exact ⟨n1, by rw [upd_ne n1, upd_ne (ne_of_none n2 nl)]; exact n2⟩
        · rw [List.getElem?_append_right (by omega)] at e
          have e2 : k - ds.length = 0 := by
            have := (List.getElem?_eq_some_iff.mp e).1
            simp at this
            omega
          rw [e2] at e
          have e3 : l = c := Option.some.inj (show some l = some c from e)
          have e4 : k = j := by omega
          rw [← e3, e4]
          refine ⟨nlD, ?_⟩
          rw [upd_ne nlD, upd_same, Int.zero_add]
    rintro H2 ⟨s2, ds, hdl, hD2, hds⟩
    refine ⟨_, _, dp_list hcl27 (s2 _ _ hD1) (fun k c e => s2 _ _ (hcs k c e).2), dp_list hdl hD2 (fun k c e => (hds k c e).2), ds_shaped, ds_shaped, _, rfl, ?_⟩
    refine ifF (by rw [ds_eqv]; decide) ?_
    -- the wrong ones
    have s3 : Same H H2 := same_trans s1 s2
    refine ⟨_, rfl, L, rfl, ⟨_, SqL.of (s3 _ _ hL)⟩, fun D3 nD3 => ?_⟩
    refine lc_list (K := K) (a := L) (xs := as.map V.ref) (fun j H' => Same H2 H' ∧ H' D3 = some (.lst [])) ⟨same_upd nD3, upd_same⟩ (fun j H' _ h => SqL.of (h.1 _ _ (s3 _ _ hL))) ?_ ?_
    · rintro j y H' hj ⟨s4, hD3⟩
      obtain ⟨a, rfl, ea, hj27, xa⟩ := ref_at hj
      have xa' : ExV (ca K j) a v H' := exV_same xa (same_trans s3 s4)
      refine ⟨rfl, _, rfl, a, j, rfl, by omega, Or.inr ⟨v, xa'⟩, _, rfl, ifF (by decide) ?_⟩
      refine ⟨_, rfl, a, _, v, rfl, (T.cls j (by omega)).2.2.1, (T.xv j hj27).noV, xa', v, d, rfl, da_same (same_trans s3 s4) hd, d1, d2, d3, _, rfl, rfl, _, rfl, ?_⟩
      refine ifF (by simp) ⟨s4, hD3⟩
    rintro H3 ⟨s4, hD3⟩
    refine ⟨Nat.zero_le _, fun l nl => ?_⟩
    refine ⟨.list [], .list [], .lst (SqL.of (by rw [upd_ne (ne_of_none hD3 nl)]; exact hD3)) .nil, .lst (SqL.of upd_same) .nil, by decide +kernel, by decide +kernel, ?_⟩
    have e : PyData.eqv (.list []) (.list []) = true := by decide +kernel
    rw [e]
    exact q _ (same_trans s3 (same_trans s4 (same_upd nl)))
end
end K1
set_option Elab.async false
set_option linter.all false
set_option maxRecDepth 100000
set_option maxHeartbeats 8000000
namespace K1
open PySem PySem.Spec PyProof.Rows L2
theorem lt1 (a : Str) : (listText [a]).length = a.length + 2 := by
  show ((((("[" : Str) ++ ("" : Str)) ++ a) ++ ("]" : Str)) : Str).length = _
  simp only [strLen_append]
  have h1 : ("[" : Str).length = 1 := by decide +kernel
  have h2 : ("" : Str).length = 0 := by decide +kernel
  have h3 : ("]" : Str).length = 1 := by decide +kernel
  omega
theorem lt2 (a b : Str) : (listText [a, b]).length = a.length + b.length + 4 := by
  show (((((((("[" : Str) ++ ("" : Str)) ++ a)) ++ (", " : Str)) ++ b) ++ ("]" : Str)) : Str).length = _
  simp only [strLen_append]
  have h1 : ("[" : Str).length = 1 := by decide +kernel
  have h2 : ("" : Str).length = 0 := by decide +kernel
  have h3 : ("]" : Str).length = 1 := by decide +kernel
  have h4 : (", " : Str).length = 2 := by decide +kernel
  omega
theorem lt3 (a b c : Str) : (listText [a, b, c]).length = a.length + b.length + c.length + 6 := by
  show (((((((((("[" : Str) ++ ("" : Str)) ++ a)) ++ (", " : Str)) ++ b) ++ (", " : Str)) ++ c) ++ ("]" : Str)) : Str).length = _
  simp only [strLen_append]
  have h1 : ("[" : Str).length = 1 := by decide +kernel
  have h2 : ("" : Str).length = 0 := by decide +kernel
  have h3 : ("]" : Str).length = 1 := by decide +kernel
  have h4 : (", " : Str).length = 2 := by decide +kernel
  omega
theorem tt2 (a b : Str) : (tupleText [a, b]).length = a.length + b.length + 4 := by
  show ((("(" : Str) ++ (a ++ (", " : Str) ++ b)) ++ (")" : Str)).length = _
  simp only [strLen_append]
  have h1 : ("(" : Str).length = 1 := by decide +kernel
  have h3 : (")" : Str).length = 1 := by decide +kernel
  have h4 : (", " : Str).length = 2 := by decide +kernel
  omega
theorem tt5 (a b c d e : Str) : (tupleText [a, b, c, d, e]).length = a.length + b.length + c.length + d.length + e.length + 10 := by
  show ((("(" : Str) ++ (a ++ (", " : Str) ++ (b ++ (", " : Str) ++ (c ++ (", " : Str) ++ (d ++ (", " : Str) ++ e))))) ++ (")" : Str)).length = _
  simp only [strLen_append]
  have h1 : ("(" : Str).length = 1 := by decide +kernel
  have h3 : (")" : Str).length = 1 := by decide +kernel
  have h4 : (", " : Str).length = 2 := by decide +kernel
  omega
theorem dt1 (a : Str) : (dictText [a]).length = a.length + 2 := by
  show ((("{" : Str) ++ a) ++ ("}" : Str)).length = _
  simp only [strLen_append]
  have h1 : ("{" : Str).length = 1 := by decide +kernel
  have h3 : ("}" : Str).length = 1 := by decide +kernel
  omega
theorem dt2 (a b : Str) : (dictText [a, b]).length = a.length + b.length + 4 := by
  show ((("{" : Str) ++ (a ++ (", " : Str) ++ b)) ++ ("}" : Str)).length = _
  simp only [strLen_append]
  have h1 : ("{" : Str).length = 1 := by decide +kernel
  have h3 : ("}" : Str).length = 1 := by decide +kernel
  have h4 : (", " : Str).length = 2 := by decide +kernel
  omega
theorem kv_len (a b : Str) : (a ++ ": " ++ b).length = a.length + b.length + 2 := by
  simp only [strLen_append]
  have h4 : (": " : Str).length = 2 := by decide +kernel
  omega
theorem wd_len {z : Str} (h : Wd z) : (reprText z).length ≤ 82 := by
  have e := StrLaws.reprText_len z (fun c hc => Nat.lt_of_le_of_lt (h.2 c hc).2 (by decide))
  have l := h.1
  rw [← str_length] at l
  omega
theorem c_later : (reprText "later").length = 7 := by decide +kernel
theorem c_LATER : (reprText "LATER").length = 7 := by decide +kernel
theorem c_in : (reprText "in").length = 4 := by decide +kernel
theorem c_out : (reprText "out").length = 5 := by decide +kernel
theorem c_1 : (Str.ofString (toString (1 : Int))).length = 1 := by decide +kernel
theorem c_2 : (Str.ofString (toString (2 : Int))).length = 1 := by decide +kernel
theorem int_len {i : Int} (h : i.natAbs < 2 ^ 40) : (Str.ofString (toString i)).length ≤ sizeLine := int_text_fits10 (Nat.lt_of_lt_of_le h (by decide +kernel))
theorem int_log {i : Int} (h : i.natAbs < 2 ^ 40) : i.natAbs.log2 < 1920 := by
  by_cases h0 : i.natAbs = 0
  · rw [h0]
    decide
  · exact Nat.lt_of_lt_of_le ((Nat.log2_lt h0).mpr h) (by decide)
/-- what was drawn: the kinds; H0: the heap ahead of their making -/
inductive Th (H0 H : Hp) (w : Str) : V → Prop
  | non : Th H0 H w .non
  | bl (b : Bool) : Th H0 H w (.bl b)
  | int (i : Int) (h : i.natAbs < 2 ^ 40) : Th H0 H w (.int i)
  | str : Th H0 H w (.str w)
  | t5 {t : Addr} : H t = some (.tup [.str w, .str "in", .str "out", .int 1, .int 2]) → Th H0 H w (.ref t)
  | t2 {t l : Addr} : H t = some (.tup [.str w, .ref l]) → H l = some (.lst [.str w]) → H0 l = none → Th H0 H w (.ref t)
  | dc {d l : Addr} : H d = some (.dK [(Sum.inr w, .ref l)]) → H l = some (.lst [.str w]) → H0 d = none → H0 l = none → Th H0 H w (.ref d)
  | ls {l : Addr} : H l = some (.lst [.str w]) → H0 l = none → Th H0 H w (.ref l)
  | ll {l a d : Addr} : H l = some (.lst [.ref a, .ref d]) → H a = some (.lst [.str w]) → H d = some (.dK [(Sum.inr "out", .str w)]) → H0 l = none → Th H0 H w (.ref l)
theorem th_same {H0 H H' : Hp} {w : Str} {z : V} (h : Th H0 H w z) (s : Same H H') : Th H0 H' w z := by
  cases h with
  | non => exact .non
  | bl b => exact .bl b
  | int i h => exact .int i h
  | str => exact .str
  | t5 h => exact .t5 (s _ _ h)
  | t2 h1 h2 h3 => exact .t2 (s _ _ h1) (s _ _ h2) h3
  | dc h1 h2 h3 h4 => exact .dc (s _ _ h1) (s _ _ h2) h3 h4
  | ls h1 h2 => exact .ls (s _ _ h1) h2
  | ll h1 h2 h3 h4 => exact .ll (s _ _ h1) (s _ _ h2) (s _ _ h3) h4
theorem shows_of {H : Hp} {v : V} {d : PyData} (h : Da H v d) (h1 : d.showable = true) (h2 : d.depth ≤ 60) (h3 : d.shown.length ≤ sizeLine) : Shows H v d.shown := ⟨d, h, h1, h2, h3, rfl⟩
theorem shows_same {H H' : Hp} {v : V} {z : Str} (h : Shows H v z) (s : Same H H') : Shows H' v z := by
  obtain ⟨d, h1, h2, h3, h4, h5⟩ := h
  exact ⟨d, da_same s h1, h2, h3, h4, h5⟩
def dW (w : Str) : PyData := .list [.str w]
def dT5 (w : Str) : PyData := .tuple [.str w, .str "in", .str "out", .int 1, .int 2]
def dOut (w : Str) : PyData := .dict [(.str "out", .str w)]
theorem th_shows {H0 H : Hp} {w : Str} {z : V} (hw : Wd w) (h : Th H0 H w z) : ∃ s, Shows H z s := by
  have lw := wd_len hw
  have sl := sizeLine_eq
  cases h with
  | non => exact ⟨_, shows_of .non rfl (by simp [PyData.depth, PyData.depthAll, PyData.depthKv, dT5]) (by decide +kernel)⟩
  | bl b => exact ⟨_, shows_of (.bl b) rfl (by simp [PyData.depth, PyData.depthAll, PyData.depthKv, dT5]) (by cases b <;> decide +kernel)⟩
  | int i h => exact ⟨_, shows_of (.int i) (decide_eq_true (int_log h)) (by simp [PyData.depth, PyData.depthAll, PyData.depthKv, dT5]) (int_len h)⟩
  | str => exact ⟨_, shows_of (.str w) rfl (by simp [PyData.depth, PyData.depthAll, PyData.depthKv, dT5]) (by show (reprText w).length ≤ _; omega)⟩
  | t5 h =>
    refine ⟨_, shows_of (d := dT5 w) (.tup h (.cons (.str _) (.cons (.str _) (.cons (.str _) (.cons (.int _) (.cons (.int _) .nil)))))) (by show (true && (true && (true && (_ && (_ && true))))) = true; decide) (by simp [PyData.depth, PyData.depthAll, PyData.depthKv, dT5]) ?_⟩
    show (tupleText [reprText w, reprText "in", reprText "out", Str.ofString (toString (1 : Int)), Str.ofString (toString (2 : Int))]).length ≤ _
    rw [tt5, c_in, c_out, c_1, c_2]
    omega
  | t2 h1 h2 h3 =>
    refine ⟨_, shows_of (d := .tuple [.str w, .list [.str w]]) (.tup h1 (.cons (.str _) (.cons (.lst h2 (.cons (.str _) .nil)) .nil))) rfl (by simp [PyData.depth, PyData.depthAll, PyData.depthKv, dT5]) ?_⟩
    show (tupleText [reprText w, listText [reprText w]]).length ≤ _
    rw [tt2, lt1]
    omega
  | dc h1 h2 h3 h4 =>
    refine ⟨_, shows_of (d := .dict [(.str w, .list [.str w])]) (.dct h1 (.cons (.lst h2 (.cons (.str _) .nil)) .nil)) rfl (by simp [PyData.depth, PyData.depthAll, PyData.depthKv, dT5]) ?_⟩
    show (dictText [reprText w ++ ": " ++ listText [reprText w]]).length ≤ _
    rw [dt1, kv_len, lt1]
    omega
  | ls h1 h2 =>
    refine ⟨_, shows_of (d := .list [.str w]) (.lst h1 (.cons (.str _) .nil)) rfl (by simp [PyData.depth, PyData.depthAll, PyData.depthKv, dT5]) ?_⟩
    show (listText [reprText w]).length ≤ _
    rw [lt1]
    omega
  | ll h1 h2 h3 h4 =>
    refine ⟨_, shows_of (d := .list [.list [.str w], .dict [(.str "out", .str w)]]) (.lst h1 (.cons (.lst h2 (.cons (.str _) .nil)) (.cons (.dct h3 (.cons (.str _) .nil)) .nil))) rfl (by simp [PyData.depth, PyData.depthAll, PyData.depthKv, dT5]) ?_⟩
    show (listText [listText [reprText w], dictText [reprText "out" ++ ": " ++ reprText w]]).length ≤ _
    rw [lt2, lt1, dt1, kv_len, c_out]
    omega
end K1
set_option Elab.async false
set_option linter.all false
set_option maxRecDepth 100000
set_option maxHeartbeats 8000000
namespace K1
open PySem PySem.Spec PyProof.Rows L2
theorem weak {X : Cx} {st : List Stmt} {t t' : TS} (h : PSs X st t) (w : ∀ D σ H, t' D σ H → t D σ H) : PSs X st t' := ⟨fun pins s σ H D I q => h.run pins s σ H D I (w D σ H q)⟩
def forBody (s : Stmt) : List Stmt := match s with
  | .For _ _ b _ _ => b
  | _ => []
def bst (i : Nat) : Stmt := (forBody ((defBody sLaw).getD 0 (.Pass ⟨0, 0, 0, 0⟩))).getD i (.Pass ⟨0, 0, 0, 0⟩)
def lst (i : Nat) : Stmt := (defBody sLaw).getD i (.Pass ⟨0, 0, 0, 0⟩)
abbrev NL : List Str := ["_law_script", "_law_purse_here", "_law_word_here", "_law_plain", "_law_thing", "_law_noted", "_law_some", "_law_called_here", "_law_later", "_law_rest", "_law_error"]
theorem scLaw : FnScope NL ["_law_script"] (defScope sLaw) := ⟨rfl, rfl, rfl, by decide +kernel, rfl, by decide +kernel, by decide +kernel⟩
abbrev LX (P : Program) (w : World) (K : PySem.W.Frag) (mg : Str → Option Value) (base : Heap) (f : Addr) (cdv : Value) (A : Around) (outer : List Env) (s : Shared) (H : Hp) (E : XK) : Cx := (cxOf CX0 P w K mg base NL "law" (defScope sLaw) f cdv A outer s H E).nox
/-- a def of the text that keeps a promise, as it is called -/
def Fz (P : Program) (w : World) (K : PySem.W.Frag) (mg : Str → Option Value) (base : Heap) (x : Str) (k : Nat) (ps : List Str) (sp : Sp) : Prop :=
  ∃ (g : Addr) (fd : FuncData), FnOk P w K mg base CX0 k g fd ps sp ∧ mg x = some (.ref g) ∧ PySem.W.keepIn K (.ref g) = true ∧ Binds K fd ps []
def FzG (P : Program) (w : World) (K : PySem.W.Frag) (mg : Str → Option Value) (base : Heap) (x : Str) (k : Nat) (ps : List Str) (sp : Sp) : Prop :=
  ∃ (g : Addr) (fd : FuncData), FnG P w K mg base k g fd ps sp ∧ mg x = some (.ref g) ∧ PySem.W.keepIn K (.ref g) = true ∧ Binds K fd ps []
section
variable {X : Cx} {x : Str} {k : Nat} {ps : List Str} {sp : Sp} {p pos : Pos} {e : Expr} {es : List Expr} {t : TA}
theorem pe_fz (Z : Fz X.prog X.w X.K X.mg X.base x k ps sp) (hr : Room k X.A) (hg : Gl X x) (ha : PA X (e :: es) t) (hdb : (x == ("__debug__" : Str)) = false := by decide)
    (he : starEach (e :: es) X.env = (false, eval e X.env) :: starEach es X.env := by rfl) (hpl : (backTo pos (starEach es X.env)).any (·.1) = false := by rfl) : PE X (.Call (.Name x p) (e :: es) [] pos) (tCall sp [] E0 t) := by
  obtain ⟨g, fd, F, hm, hk, hb⟩ := Z
  exact pe_call F hr hg hm hk hb .nil pass0 ha hdb he hpl
theorem pe_fz0 (Z : Fz X.prog X.w X.K X.mg X.base x k ps sp) (hr : Room k X.A) (hg : Gl X x) (hdb : (x == ("__debug__" : Str)) = false := by decide) : PE X (.Call (.Name x p) [] [] pos) (tCall sp [] E0 tNil) := by
  obtain ⟨g, fd, F, hm, hk, hb⟩ := Z
  exact pe_call0 F hr hg hm hk hb .nil pass0 hdb
theorem pe_fzG (Z : FzG X.prog X.w X.K X.mg X.base x k ps sp) (hgd : X.A.guards = some []) (hr : Room k X.A) (hg : Gl X x) (ha : PA X (e :: es) t) (hdb : (x == ("__debug__" : Str)) = false := by decide)
    (he : starEach (e :: es) X.env = (false, eval e X.env) :: starEach es X.env := by rfl) (hpl : (backTo pos (starEach es X.env)).any (·.1) = false := by rfl) : PE X (.Call (.Name x p) (e :: es) [] pos) (fun σ H Q => t σ H fun vs H1 => sp vs H1 Q E0) := by
  obtain ⟨g, fd, F, hm, hk, hb⟩ := Z
  exact pe_callG F hgd hr hg hm hk hb ha hdb he hpl
end
structure LawEnv (P : Program) (w : World) (K : PySem.W.Frag) (mg : Str → Option Value) (base : Heap) : Prop where
  T : Tx K mg
  purses : Fz P w K mg base "_law_purses" 2 ["_law_script", "_law_few"] (spPurses K)
  word : Fz P w K mg base "_law_word" 3 ["_law_purse_here"] spWord
  oneOf : Fz P w K mg base "_law_one_of" 3 ["_law_purse_here", "_law_some"] spOneOf
  first : Fz P w K mg base "_law_first" 3 ["_law_thing"] (spFirst K)
  called : Fz P w K mg base "_law_called" 3 ["_law_thing"] (spCalled K)
  bare : Fz P w K mg base "_law_bare" 3 [] (spBare K)
  code : Fz P w K mg base "_law_code" 1 ["_law_error"] (spCode K)
  isErr : Fz P w K mg base "_law_is_error" 1 ["_law_error"] (spIsErr K)
  right : FzG P w K mg base "_law_right" 2 ["_law_some", "_law_noted"] (spRight K)
theorem dict_laid {A : Hp} {d l : Addr} {o o2 : HO} (nd : A d = none) (nl : upd A d (.dK []) l = none) : Same A (upd (upd (upd A d (.dK [])) l o) d o2) ∧ upd (upd (upd A d (.dK [])) l o) d o2 d = some o2 ∧ upd (upd (upd A d (.dK [])) l o) d o2 l = some o ∧ A l = none ∧ upd (upd A d (.dK [])) l o d = some (.dK []) := by
  have ndl : d ≠ l := ne_of_none upd_same nl
  refine ⟨fun b u e => ?_, upd_same, by rw [upd_ne (Ne.symm ndl)]; exact upd_same, by rw [upd_ne (Ne.symm ndl)] at nl; exact nl, by rw [upd_ne ndl]; exact upd_same⟩
  have e1 : upd A d (.dK []) b = some u := by rw [upd_ne (ne_of_none e nd)]; exact e
  rw [upd_ne (ne_of_none e nd), upd_ne (ne_of_none e1 nl)]
  exact e1
section
variable {P : Program} {w : World} {K : PySem.W.Frag} {mg : Str → Option Value} {base : Heap} {f : Addr} {cdv : Value} {A : Around} {outer : List Env} {s : Shared} {Hl : Hp} {E : XK}
/-- the purse's word, the plain things, the thing that is drawn -/
def tB1 (u : TS) : TS := fun D σ H => ∃ (o0 o2 o3 o4 o5 o6 o7 o8 o9 oe : Option V) (p : Addr) (xs : List V), σ = [o0, some (.ref p), o2, o3, o4, o5, o6, o7, o8, o9, oe] ∧ H p = some (.lst xs) ∧ PuOk 0 xs ∧
  ∀ (wd : Str) (z : V) (o3' : Option V) (H' : Hp), Wd wd → But p H H' → Th H H' wd z → u D [o0, some (.ref p), some (.str wd), o3', some z, o5, o6, o7, o8, o9, oe] H'
theorem blk1 (L : LawEnv P w K mg base) (hr : Room 3 (A.deeper (envOfC "law" (defScope sLaw) s.heap.objs.size f cdv))) {rest : List Stmt} {u : TS} (hu : PSs (LX P w K mg base f cdv A outer s Hl E) rest u) :
    PSs (LX P w K mg base f cdv A outer s Hl E) (bst 0 :: bst 1 :: bst 2 :: rest) (tB1 u) := by
  refine weak (t := tSeq _ (tSeq _ (tSeq _ u))) (pss_cons (ps_set (i := 2) scLaw.nd rfl (Or.inl rfl) (pe_fz L.word hr (by rfl) (pa_cons (pv 1) pa_nil)))
    (pss_cons (ps_set (i := 3) scLaw.nd rfl (Or.inl rfl) (pe_lst (pa_cons pe_non (pa_cons pe_bl (pa_cons pe_bl (pa_cons pe_int (pa_cons (pv 2) (pa_cons (pe_un un_neg (pe_ix ix_list (pv 1) pe_int (fun _ _ => rfl)))
      (pa_cons (pe_tup (pa_cons (pv 2) (pa_cons pe_str (pa_cons pe_str (pa_cons pe_int (pa_cons pe_int pa_nil))))))
      (pa_cons (pe_tup (pa_cons (pv 2) (pa_cons (pe_lst (pa_cons (pv 2) pa_nil)) pa_nil)))
      (pa_cons (pe_disp (pps_cons (pv 2) (pe_lst (pa_cons (pv 2) pa_nil)) pps_nil) (by rfl) (by rfl) (fun z => by cases z) (by decide)) pa_nil)))))))))))
    (pss_cons (ps_set (i := 4) scLaw.nd rfl (Or.inl rfl) (pe_fz L.oneOf hr (by rfl) (pa_cons (pv 1) (pa_cons (pe_op op_cat (pv 3) (pe_lst
      (pa_cons (pe_lst (pa_cons (pv 2) pa_nil)) (pa_cons (pe_lst (pa_cons (pe_lst (pa_cons (pv 2) pa_nil)) (pa_cons (pe_disp (pps_cons pe_str (pv 2) pps_nil) (by rfl) (by rfl) (fun z => by cases z) (by decide)) pa_nil))) pa_nil)))) pa_nil))))
    hu))) ?_
  rintro D σ H ⟨o0, o2, o3, o4, o5, o6, o7, o8, o9, oe, p, xs, rfl, hp, hx, q⟩
  refine ⟨_, rfl, p, 0, xs, rfl, hp, hx, by decide, fun wd ys A0 hw hy b0 hp0 => ?_⟩
  obtain ⟨pa, ps, pt, pk, rfl, a0, s0, s1, t0, t1, k0, k1⟩ := hy
  have sz1 : 1 ≤ sizeLine := by decide +kernel
  have sz2 : 2 ≤ sizeLine := by decide +kernel
  have sz5 : 5 ≤ sizeLine := by decide +kernel
  have sz9 : 9 ≤ sizeLine := by decide +kernel
  refine ⟨_, rfl, _, rfl, p, _, 1, _, rfl, rfl, SqL.of hp0, rfl, _, rfl, ?_⟩
  -- the tuple of five
  refine ⟨_, rfl, sz5, fun t5 n5 => ?_⟩
  have S1 : Same A0 (upd A0 t5 (.tup [.str wd, .str "in", .str "out", .int 1, .int 2])) := same_upd n5
  have e5 : upd A0 t5 (.tup [.str wd, .str "in", .str "out", .int 1, .int 2]) t5 = some (.tup [.str wd, .str "in", .str "out", .int 1, .int 2]) := upd_same
  generalize upd A0 t5 (.tup [.str wd, .str "in", .str "out", .int 1, .int 2]) = A1 at S1 e5 ⊢
  -- the tuple of two
  refine ⟨_, rfl, _, rfl, sz1, fun l7 n7 => ?_⟩
  have S2 : Same A0 (upd A1 l7 (.lst [.str wd])) := same_trans S1 (same_upd n7)
  have e5 := same_upd (o := .lst [.str wd]) n7 _ _ e5
  have e7 : upd A1 l7 (.lst [.str wd]) l7 = some (.lst [.str wd]) := upd_same
  have f7 : A0 l7 = none := S1.free n7
  generalize upd A1 l7 (.lst [.str wd]) = A2 at S2 e5 e7 ⊢
  refine ⟨sz2, fun t7 m7 => ?_⟩
  have S3 : Same A0 (upd A2 t7 (.tup [.str wd, .ref l7])) := same_trans S2 (same_upd m7)
  have e5 := same_upd (o := .tup [.str wd, .ref l7]) m7 _ _ e5
  have e7 := same_upd (o := .tup [.str wd, .ref l7]) m7 _ _ e7
  have d7 : upd A2 t7 (.tup [.str wd, .ref l7]) t7 = some (.tup [.str wd, .ref l7]) := upd_same
  generalize upd A2 t7 (.tup [.str wd, .ref l7]) = A3 at S3 e5 e7 d7 ⊢
  -- the dictionary
  refine fun d8 n8 => ⟨_, rfl, _, rfl, sz1, fun l8 m8 => ?_⟩
  obtain ⟨S34, e8d, e8l, f8l, e8o⟩ := dict_laid (o := .lst [.str wd]) (o2 := .dK [(Sum.inr wd, .ref l8)]) n8 m8
  refine ⟨e8o, [(Sum.inr wd, .ref l8)], rfl, (by show 1 ≤ 15; decide), ?_⟩
  have S4 := same_trans S3 S34
  have e5 := S34 _ _ e5
  have e7 := S34 _ _ e7
  have d7 := S34 _ _ d7
  have f8d : A0 d8 = none := S3.free n8
  have f8l : A0 l8 = none := S3.free f8l
  have em : (mergeK [] [((Sum.inr wd : Key), V.ref l8)]) = [((Sum.inr wd : Key), V.ref l8)] := rfl
  rw [em]
  generalize upd (upd (upd A3 d8 (.dK [])) l8 (.lst [.str wd])) d8 (.dK [(Sum.inr wd, .ref l8)]) = A4 at S4 S34 e5 e7 d7 e8d e8l ⊢
  -- the plain ones
  refine ⟨sz9, fun pl npl => ?_⟩
  have SS := same_upd (o := HO.lst [.non, .bl true, .bl false, .int 0, .str wd, .int (-ps), .ref t5, .ref t7, .ref d8]) npl
  have S5 := same_trans S4 SS
  have e5 := SS _ _ e5
  have e7 := SS _ _ e7
  have d7 := SS _ _ d7
  have e8d := SS _ _ e8d
  have e8l := SS _ _ e8l
  have epl : upd A4 pl (HO.lst [.non, .bl true, .bl false, .int 0, .str wd, .int (-ps), .ref t5, .ref t7, .ref d8]) pl = some (.lst [.non, .bl true, .bl false, .int 0, .str wd, .int (-ps), .ref t5, .ref t7, .ref d8]) := upd_same
  generalize upd A4 pl (HO.lst [.non, .bl true, .bl false, .int 0, .str wd, .int (-ps), .ref t5, .ref t7, .ref d8]) = A5 at SS S5 e5 e7 d7 e8d e8l epl ⊢
  -- a list of the word
  refine ⟨_, rfl, _, rfl, _, rfl, sz1, fun l9 n9 => ?_⟩
  have SS := same_upd (o := HO.lst [.str wd]) n9
  have f9 : A0 l9 = none := S5.free n9
  have S6 := same_trans S5 SS
  have e5 := SS _ _ e5
  have e7 := SS _ _ e7
  have d7 := SS _ _ d7
  have e8d := SS _ _ e8d
  have e8l := SS _ _ e8l
  have epl := SS _ _ epl
  have e9 : upd A5 l9 (.lst [.str wd]) l9 = some (.lst [.str wd]) := upd_same
  generalize upd A5 l9 (.lst [.str wd]) = A6 at SS S6 e5 e7 d7 e8d e8l epl e9 ⊢
  -- a list in a list
  refine ⟨_, rfl, sz1, fun la na => ?_⟩
  have SS := same_upd (o := HO.lst [.str wd]) na
  have S7 := same_trans S6 SS
  have e5 := SS _ _ e5
  have e7 := SS _ _ e7
  have d7 := SS _ _ d7
  have e8d := SS _ _ e8d
  have e8l := SS _ _ e8l
  have epl := SS _ _ epl
  have e9 := SS _ _ e9
  have ea : upd A6 la (.lst [.str wd]) la = some (.lst [.str wd]) := upd_same
  generalize upd A6 la (.lst [.str wd]) = A7 at SS S7 e5 e7 d7 e8d e8l epl e9 ea ⊢
  refine fun dd nd => ⟨_, rfl, upd_same, [(Sum.inr "out", .str wd)], rfl, (by show 1 ≤ 15; decide), ?_⟩
  have em2 : (mergeK [] [((Sum.inr "out" : Key), V.str wd)]) = [((Sum.inr "out" : Key), V.str wd)] := rfl
  rw [em2, upd_upd]
  have SS := same_upd (o := HO.dK [(Sum.inr "out", .str wd)]) nd
  have S8 := same_trans S7 SS
  have e5 := SS _ _ e5
  have e7 := SS _ _ e7
  have d7 := SS _ _ d7
  have e8d := SS _ _ e8d
  have e8l := SS _ _ e8l
  have epl := SS _ _ epl
  have e9 := SS _ _ e9
  have ea := SS _ _ ea
  have ed : upd A7 dd (.dK [(Sum.inr "out", .str wd)]) dd = some (.dK [(Sum.inr "out", .str wd)]) := upd_same
  generalize upd A7 dd (.dK [(Sum.inr "out", .str wd)]) = A8 at SS S8 e5 e7 d7 e8d e8l epl e9 ea ed ⊢
  refine ⟨sz2, fun lz nz => ?_⟩
  have SS := same_upd (o := HO.lst [.ref la, .ref dd]) nz
  have fz : A0 lz = none := S8.free nz
  have S9 := same_trans S8 SS
  have e5 := SS _ _ e5
  have e7 := SS _ _ e7
  have d7 := SS _ _ d7
  have e8d := SS _ _ e8d
  have e8l := SS _ _ e8l
  have epl := SS _ _ epl
  have e9 := SS _ _ e9
  have ea := SS _ _ ea
  have ed := SS _ _ ed
  have ez : upd A8 lz (.lst [.ref la, .ref dd]) lz = some (.lst [.ref la, .ref dd]) := upd_same
  generalize upd A8 lz (.lst [.ref la, .ref dd]) = A9 at SS S9 e5 e7 d7 e8d e8l epl e9 ea ed ez ⊢
  -- all of them
  refine ⟨sz2, fun lx nx => ?_⟩
  have SS := same_upd (o := HO.lst [.ref l9, .ref lz]) nx
  have S10 := same_trans S9 SS
  have e5 := SS _ _ e5
  have e7 := SS _ _ e7
  have d7 := SS _ _ d7
  have e8d := SS _ _ e8d
  have e8l := SS _ _ e8l
  have epl := SS _ _ epl
  have e9 := SS _ _ e9
  have ea := SS _ _ ea
  have ed := SS _ _ ed
  have ez := SS _ _ ez
  refine ⟨_, _, _, _, rfl, rfl, epl, upd_same, (by show 9 + 2 ≤ sizeLine; decide +kernel), ?_⟩
  generalize upd A9 lx (.lst [.ref l9, .ref lz]) = A10 at SS S10 e5 e7 d7 e8d e8l epl e9 ea ed ez ⊢
  intro lc nc
  have SS := same_upd (o := HO.lst ([.non, .bl true, .bl false, .int 0, .str wd, .int (-ps), .ref t5, .ref t7, .ref d8] ++ [.ref l9, .ref lz])) nc
  have S11 := same_trans S10 SS
  have e5 := SS _ _ e5
  have e7 := SS _ _ e7
  have d7 := SS _ _ d7
  have e8d := SS _ _ e8d
  have e8l := SS _ _ e8l
  have e9 := SS _ _ e9
  have ea := SS _ _ ea
  have ed := SS _ _ ed
  have ez := SS _ _ ez
  have ec : upd A10 lc (HO.lst ([.non, .bl true, .bl false, .int 0, .str wd, .int (-ps), .ref t5, .ref t7, .ref d8] ++ [.ref l9, .ref lz])) lc = some (.lst ([.non, .bl true, .bl false, .int 0, .str wd, .int (-ps), .ref t5, .ref t7, .ref d8] ++ [.ref l9, .ref lz])) := upd_same
  generalize upd A10 lc (HO.lst ([.non, .bl true, .bl false, .int 0, .str wd, .int (-ps), .ref t5, .ref t7, .ref d8] ++ [.ref l9, .ref lz])) = A11 at SS S11 e5 e7 d7 e8d e8l e9 ea ed ez ec ⊢
  have hp11 := S11 _ _ hp0
  have npc : p ≠ lc := fun z => by
    rw [z] at hp0
    have := S10 _ _ hp0
    rw [nc] at this
    cases this
  refine ⟨p, lc, 10, _, _, rfl, hp11, ⟨pa, ps, pt, pk, rfl, a0, s0, s1, t0, t1, k0, k1⟩, by decide, ec, npc, (by show 0 < 11; decide), (by show 11 < 128; decide), fun j z ys2 ez2 hy2 => ?_⟩
  have ne : ∀ {b : Addr} {o : HO}, A0 b = none → p ≠ b := fun {b o} n z => by
    rw [← z, hp0] at n
    cases n
  have up : ∀ {b : Addr} {o : HO}, A11 b = some o → (∀ xs, o ≠ .lst xs) → upd A11 p (.lst ys2) b = some o := fun {b o} e no => by
    have nb : b ≠ p := fun z => by
      rw [z, hp11] at e
      exact no _ (Option.some.inj e).symm
    rw [upd_ne nb]
    exact e
  have upl : ∀ {b : Addr} {o : HO}, A11 b = some o → A0 b = none → upd A11 p (.lst ys2) b = some o := fun {b o} e n => by
    have nb : b ≠ p := fun z => by
      rw [z, hp0] at n
      cases n
    rw [upd_ne nb]
    exact e
  have fr : ∀ {b : Addr}, A0 b = none → H b = none := fun {b} n => by
    cases e : H b with
    | none => rfl
    | some o =>
      by_cases nb : b = p
      · rw [nb, hp0] at n
        cases n
      · rw [b0 b o nb e] at n
        cases n
  have fa : A0 la = none := S6.free na
  refine q wd z _ _ hw (fun b o nb e => ?_) ?_
  · rw [upd_ne nb]
    exact S11 _ _ (b0 b o nb e)
  · have hj : j < 11 := (List.getElem?_eq_some_iff.mp ez2).1
    have cases11 : j = 0 ∨ j = 1 ∨ j = 2 ∨ j = 3 ∨ j = 4 ∨ j = 5 ∨ j = 6 ∨ j = 7 ∨ j = 8 ∨ j = 9 ∨ j = 10 := by omega
    rcases cases11 with rfl | rfl | rfl | rfl | rfl | rfl | rfl | rfl | rfl | rfl | rfl <;> cases ez2
    · exact .non
    · exact .bl _
    · exact .bl _
    · exact .int _ (by decide)
    · exact .str
    · exact .int _ (by omega)
    · exact .t5 (up e5 (fun xs z => by cases z))
    · exact .t2 (up d7 (fun xs z => by cases z)) (upl e7 f7) (fr f7)
    · exact .dc (up e8d (fun xs z => by cases z)) (upl e8l f8l) (fr f8d) (fr f8l)
    · exact .ls (upl e9 f9) (fr f9)
    · exact .ll (upl ez fz) (upl ea fa) (up ed (fun xs z => by cases z)) (fr fz)
end
end K1
set_option Elab.async false
set_option linter.all false
set_option maxRecDepth 100000
set_option maxHeartbeats 8000000
namespace K1
open PySem PySem.Spec PyProof.Rows L2
theorem errL_same {K : PySem.W.Frag} {v : V} {H H' : Hp} {L : Addr} {n : Nat} (h : ErrL K v H L n) (s : Same H H') : ErrL K v H' L n := by
  obtain ⟨as, h1, h2, h3⟩ := h
  exact ⟨as, h1, s _ _ h2, al_same s h3⟩
def dLater (w : Str) : PyData := .tuple [.str "later", .str w]
theorem later_shows {H : Hp} {w : Str} {t : Addr} (hw : Wd w) (h : H t = some (.tup [.str "later", .str w])) : Shows H (.ref t) (dLater w).shown := by
  refine shows_of (d := dLater w) (.tup h (.cons (.str _) (.cons (.str _) .nil))) rfl (by simp [PyData.depth, PyData.depthAll, dLater]) ?_
  show (tupleText [reprText "later", reprText w]).length ≤ _
  have lw := wd_len hw
  have sl := sizeLine_eq
  rw [tt2, c_later]
  omega
section
variable {P : Program} {w : World} {K : PySem.W.Frag} {mg : Str → Option Value} {base : Heap} {f : Addr} {cdv : Value} {A : Around} {outer : List Env} {s : Shared} {Hl : Hp} {E : XK}
/-- the text of the thing, the errors made of it -/
def tB2 (K : PySem.W.Frag) (u : TS) : TS := fun D σ H => ∃ (o0 o1 o3 o5 o6 o7 o8 o9 oe : Option V) (wd : Str) (z : V) (zt : Str), σ = [o0, o1, some (.str wd), o3, some z, o5, o6, o7, o8, o9, oe] ∧ Shows H z zt ∧
  ∀ (L6 L7 L8 t8 : Addr) (H' : Hp), Same H H' → H L6 = none → H L7 = none → ErrL K z H' L6 27 → ErrL K z H' L7 27 → ErrL K (.ref t8) H' L8 27 → H' t8 = some (.tup [.str "later", .str wd]) →
    u D [o0, o1, some (.str wd), o3, some z, some (.str zt), some (.ref L6), some (.ref L7), some (.ref L8), o9, oe] H'
theorem blk2 (L : LawEnv P w K mg base) (hgd : A.guards = some []) (hr : Room 3 (A.deeper (envOfC "law" (defScope sLaw) s.heap.objs.size f cdv))) {rest : List Stmt} {u : TS} (hu : PSs (LX P w K mg base f cdv A outer s Hl E) rest u) :
    PSs (LX P w K mg base f cdv A outer s Hl E) (bst 3 :: bst 4 :: rest) (tB2 K u) := by
  have gRep := L.T.fr "repr" (by decide +kernel)
  have hu65 : (A.deeper (envOfC "law" (defScope sLaw) s.heap.objs.size f cdv)).units + 65 < cLine := by
    have := hr.un
    omega
  refine weak (t := tSeq _ (tSeq _ u)) (pss_cons (ps_set (i := 5) scLaw.nd rfl (Or.inl rfl) (pe_callB (call_reprD hgd hu65 L.T.sm) (by rfl) gRep (by decide +kernel) (pa_cons (pv 4) pa_nil)))
    (pss_cons (ps_par3 (i := 6) (j := 7) (l := 8) rfl scLaw.nd rfl rfl rfl (by decide) (by decide) (by decide) rfl rfl rfl
      (pa_cons (pe_fz L.first hr (by rfl) (pa_cons (pv 4) pa_nil)) (pa_cons (pe_fz L.called hr (by rfl) (pa_cons (pv 4) pa_nil)) (pa_cons (pe_fz L.first hr (by rfl) (pa_cons (pe_tup (pa_cons pe_str (pa_cons (pv 2) pa_nil))) pa_nil)) pa_nil))) (by rfl)) hu)) ?_
  rintro D σ H ⟨o0, o1, o3, o5, o6, o7, o8, o9, oe, wd, z, zt, rfl, ⟨d, hd, d1, d2, d3, rfl⟩, q⟩
  refine ⟨_, rfl, z, d, rfl, hd, d1, d2, d3, ?_⟩
  refine ⟨_, rfl, z, rfl, fun L6 H1 n6 s1 e6 => ?_⟩
  refine ⟨_, rfl, z, rfl, fun L7 H2 n7 s2 e7 => ?_⟩
  refine ⟨_, rfl, (by show 2 ≤ sizeLine; decide +kernel), fun t8 n8 => ⟨_, rfl, fun L8 H3 nL8 s3 e8 => ?_⟩⟩
  have s23 := same_trans (same_upd (o := HO.tup [.str "later", .str wd]) n8) s3
  exact ⟨_, _, _, rfl, q L6 L7 L8 t8 H3 (same_trans s1 (same_trans s2 s23)) n6 (s1.free n7) (errL_same e6 (same_trans s2 s23)) (errL_same e7 s23) e8 (s3 _ _ upd_same)⟩
/-- the bare ones and the later ones are right, so are the others -/
def tB3 (K : PySem.W.Frag) (u : TS) : TS := fun D σ H => ∃ (o0 o1 o3 o9 oe : Option V) (wd : Str) (z : V) (zt : Str) (L6 L7 L8 t8 : Addr), σ = [o0, o1, some (.str wd), o3, some z, some (.str zt), some (.ref L6), some (.ref L7), some (.ref L8), o9, oe] ∧
  Wd wd ∧ Shows H z zt ∧ ErrL K z H L6 27 ∧ ErrL K z H L7 27 ∧ ErrL K (.ref t8) H L8 27 ∧ H t8 = some (.tup [.str "later", .str wd]) ∧ ∀ H', Same H H' → u D σ H'
theorem blk3 (L : LawEnv P w K mg base) (hgd : A.guards = some []) (hr : Room 3 (A.deeper (envOfC "law" (defScope sLaw) s.heap.objs.size f cdv))) {rest : List Stmt} {u : TS} (hu : PSs (LX P w K mg base f cdv A outer s Hl E) rest u) :
    PSs (LX P w K mg base f cdv A outer s Hl E) (bst 5 :: bst 6 :: rest) (tB3 K u) := by
  have gRep := L.T.fr "repr" (by decide +kernel)
  have hu65 : (A.deeper (envOfC "law" (defScope sLaw) s.heap.objs.size f cdv)).units + 65 < cLine := by
    have := hr.un
    omega
  have hr2 : Room 2 (A.deeper (envOfC "law" (defScope sLaw) s.heap.objs.size f cdv)) := hr.mono (by decide)
  refine weak (t := tSeq _ (tSeq _ u)) (pss_cons (ps_if (PW.pt (pw_or (pt_not (pt_val (pe_fzG L.right hgd hr2 (by rfl) (pa_cons (pe_fz0 L.bare hr (by rfl)) (pa_cons pe_str pa_nil)))))
      (pw_or1 (pt_not (pt_val (pe_fzG L.right hgd hr2 (by rfl) (pa_cons (pv 8) (pa_cons (pe_callB (call_reprD hgd hu65 L.T.sm) (by rfl) gRep (by decide +kernel) (pa_cons (pe_tup (pa_cons pe_str (pa_cons (pv 2) pa_nil))) pa_nil)) pa_nil)))))))) (pss_one (ps_ret pe_bl)) pss_nil)
    (pss_cons (ps_if (PW.pt (pw_or (pt_not (pt_val (pe_fzG L.right hgd hr2 (by rfl) (pa_cons (pv 6) (pa_cons (pv 5) pa_nil))))) (pw_or1 (pt_not (pt_val (pe_fzG L.right hgd hr2 (by rfl) (pa_cons (pv 7) (pa_cons (pv 5) pa_nil)))))))) (pss_one (ps_ret pe_bl)) pss_nil) hu)) ?_
  rintro D σ H ⟨o0, o1, o3, o9, oe, wd, z, zt, L6, L7, L8, t8, rfl, hw, hz, e6, e7, e8, h8, q⟩
  refine ⟨rfl, fun LB H1 nB s1 eB => ⟨LB, _, .non, rfl, eB, shows_of .non rfl (by simp [PyData.depth]) (by decide +kernel), fun H2 s2 => ⟨_, rfl, ifF (by decide) ?_⟩⟩⟩
  have s12 := same_trans s1 s2
  refine ⟨_, rfl, _, rfl, (by show 2 ≤ sizeLine; decide +kernel), fun t9 n9 => ?_⟩
  have s3 := same_trans s12 (same_upd (o := HO.tup [.str "later", .str wd]) n9)
  have e9 : upd H2 t9 (HO.tup [.str "later", .str wd]) t9 = some (.tup [.str "later", .str wd]) := upd_same
  obtain ⟨d, hd, d1, d2, d3, d4⟩ := later_shows hw e9
  refine ⟨_, d, rfl, hd, d1, d2, d3, L8, _, .ref t8, rfl, errL_same e8 s3, ?_, fun H3 s4 => ⟨_, rfl, ifF (by decide) ?_⟩⟩
  · rw [d4]
    exact later_shows hw (s3 _ _ h8)
  have s5 := same_trans s3 s4
  refine ⟨_, rfl, _, rfl, L6, zt, z, rfl, errL_same e6 s5, shows_same hz s5, fun H4 s6 => ⟨_, rfl, ifF (by decide) ?_⟩⟩
  have s7 := same_trans s5 s6
  refine ⟨_, rfl, _, rfl, L7, zt, z, rfl, errL_same e7 s7, shows_same hz s7, fun H5 s8 => ⟨_, rfl, ifF (by decide) ?_⟩⟩
  exact q H5 (same_trans s7 s8)
/-- and behind the change -/
def tB5 (K : PySem.W.Frag) (u : TS) : TS := fun D σ H => ∃ (o0 o1 o2 o3 o5 o8 o9 oe : Option V) (z : V) (zt : Str) (L6 L7 : Addr), σ = [o0, o1, o2, o3, some z, o5, some (.ref L6), some (.ref L7), o8, o9, oe] ∧
  Shows H z zt ∧ ErrL K z H L6 27 ∧ ErrL K z H L7 27 ∧ ∀ H', Same H H' → u D σ H'
theorem blk5 (L : LawEnv P w K mg base) (hgd : A.guards = some []) (hr : Room 3 (A.deeper (envOfC "law" (defScope sLaw) s.heap.objs.size f cdv))) {rest : List Stmt} {u : TS} (hu : PSs (LX P w K mg base f cdv A outer s Hl E) rest u) :
    PSs (LX P w K mg base f cdv A outer s Hl E) (bst 10 :: rest) (tB5 K u) := by
  have gRep := L.T.fr "repr" (by decide +kernel)
  have hu65 : (A.deeper (envOfC "law" (defScope sLaw) s.heap.objs.size f cdv)).units + 65 < cLine := by
    have := hr.un
    omega
  have hr2 : Room 2 (A.deeper (envOfC "law" (defScope sLaw) s.heap.objs.size f cdv)) := hr.mono (by decide)
  refine weak (t := tSeq _ u) (pss_cons (ps_if (PW.pt (pw_or (pt_not (pt_val (pe_fzG L.right hgd hr2 (by rfl) (pa_cons (pv 6) (pa_cons (pe_callB (call_reprD hgd hu65 L.T.sm) (by rfl) gRep (by decide +kernel) (pa_cons (pv 4) pa_nil)) pa_nil)))))
      (pw_or1 (pt_not (pt_val (pe_fzG L.right hgd hr2 (by rfl) (pa_cons (pv 7) (pa_cons (pe_callB (call_reprD hgd hu65 L.T.sm) (by rfl) gRep (by decide +kernel) (pa_cons (pv 4) pa_nil)) pa_nil)))))))) (pss_one (ps_ret pe_bl)) pss_nil) hu) ?_
  rintro D σ H ⟨o0, o1, o2, o3, o5, o8, o9, oe, z, zt, L6, L7, rfl, ⟨d, hd, d1, d2, d3, d4⟩, e6, e7, q⟩
  refine ⟨_, rfl, _, rfl, z, d, rfl, hd, d1, d2, d3, L6, _, z, rfl, e6, ⟨d, hd, d1, d2, d3, rfl⟩, fun H1 s1 => ⟨_, rfl, ifF (by decide) ?_⟩⟩
  refine ⟨_, rfl, _, rfl, z, d, rfl, da_same s1 hd, d1, d2, d3, L7, _, z, rfl, errL_same e7 s1, ⟨d, da_same s1 hd, d1, d2, d3, rfl⟩, fun H2 s2 => ⟨_, rfl, ifF (by decide) ?_⟩⟩
  exact q H2 (same_trans s1 s2)
end
end K1
set_option Elab.async false
set_option linter.all false
set_option maxRecDepth 100000
set_option maxHeartbeats 8000000
namespace K1
open PySem PySem.Spec PyProof.Rows L2
theorem exo_ne_dK {e C : Addr} {d : Option Addr} {xs : List (Key × V)} : exo e C d ≠ .dK xs := fun z => by
  have z' : HO.ext _ = HO.dK xs := z
  cases z'
theorem exd_ne_dK {e : Addr} {fs : List (Str × V)} {xs : List (Key × V)} : exd e fs ≠ .dK xs := fun z => by
  have z' : HO.ext _ = HO.dK xs := z
  cases z'
theorem kfl {K : PySem.W.Frag} {a b : String} (h : kitB a b = some false) : PySem.W.kitOne K (.type a) (.type b) = some false := kit_ty h
theorem ktr {K : PySem.W.Frag} {a b : String} (h : kitB a b = some true) : PySem.W.kitOne K (.type a) (.type b) = some true := kit_ty h
/-- a list or a dict stands at l -/
def Pot (H : Hp) (l : Addr) : Prop := (∃ xs, H l = some (.lst xs)) ∨ ∃ ks, H l = some (.dK ks)
theorem exV_upd {C a l : Addr} {v : V} {H : Hp} {o : HO} (x : ExV C a v H) (h : Pot H l) : ExV C a v (upd H l o) := by
  obtain ⟨d, e1, e2⟩ := x
  rcases h with ⟨xs, h⟩ | ⟨xs, h⟩
  · exact ⟨d, by rw [upd_ne (ne_of e1 h exo_ne_lst)]; exact e1, by rw [upd_ne (ne_of e2 h exd_ne_lst)]; exact e2⟩
  · exact ⟨d, by rw [upd_ne (ne_of e1 h exo_ne_dK)]; exact e1, by rw [upd_ne (ne_of e2 h exd_ne_dK)]; exact e2⟩
theorem al_upd {K : PySem.W.Frag} {v : V} {H : Hp} {l : Addr} {o : HO} (h : Pot H l) : ∀ {as : List Addr} {k : Nat}, AlE K v H k as → AlE K v (upd H l o) k as
  | [], _, _ => trivial
  | _ :: _, _, x => ⟨exV_upd x.1 h, al_upd h x.2⟩
theorem errL_upd {K : PySem.W.Frag} {v : V} {H : Hp} {L l : Addr} {n : Nat} {o : HO} (x : ErrL K v H L n) (h : Pot H l) (ne : L ≠ l) : ErrL K v (upd H l o) L n := by
  obtain ⟨as, h1, h2, h3⟩ := x
  exact ⟨as, h1, by rw [upd_ne ne]; exact h2, al_upd h h3⟩
theorem put_later {w : Str} {l : Addr} (hw : Wd w) : putK [((Sum.inr w : Key), V.ref l)] (Sum.inr "LATER") (.int 1) = [(Sum.inr w, .ref l), (Sum.inr "LATER", .int 1)] := by
  have ne : ¬ (Sum.inr w : Key) = Sum.inr ("LATER" : Str) := fun e => hw.ne_later (Sum.inr.inj e)
  unfold putK
  rw [if_neg (by simp [ne])]
  rfl
section
variable {P : Program} {w : World} {K : PySem.W.Frag} {mg : Str → Option Value} {base : Heap} {f : Addr} {cdv : Value} {A : Around} {outer : List Env} {s : Shared} {Hl : Hp} {E : XK}
/-- the thing is changed in its place -/
def tB4 (K : PySem.W.Frag) (u : TS) : TS := fun D σ H => ∃ (o0 o1 o3 o5 o8 o9 oe : Option V) (wd : Str) (z : V) (L6 L7 : Addr) (H0 Hb : Hp), σ = [o0, o1, some (.str wd), o3, some z, o5, some (.ref L6), some (.ref L7), o8, o9, oe] ∧
  Wd wd ∧ Th H0 Hb wd z ∧ Same Hb H ∧ Hb L6 = none ∧ Hb L7 = none ∧ ErrL K z H L6 27 ∧ ErrL K z H L7 27 ∧
  ∀ (H' : Hp) (zt : Str), (∀ b o, H0 b ≠ none → H b = some o → H' b = some o) → Shows H' z zt → ErrL K z H' L6 27 → ErrL K z H' L7 27 → u D σ H'
theorem blk4 (L : LawEnv P w K mg base) (hr : Room 3 (A.deeper (envOfC "law" (defScope sLaw) s.heap.objs.size f cdv))) {rest : List Stmt} {u : TS} (hu : PSs (LX P w K mg base f cdv A outer s Hl E) rest u) :
    PSs (LX P w K mg base f cdv A outer s Hl E) (bst 7 :: bst 8 :: bst 9 :: rest) (tB4 K u) := by
  have gIs := L.T.fr "isinstance" (by decide +kernel)
  have gLi := L.T.fr "list" (by decide +kernel)
  have gDi := L.T.fr "dict" (by decide +kernel)
  have gTu := L.T.fr "tuple" (by decide +kernel)
  have gL := L.T.fr "len" (by decide +kernel)
  have hu1 : (A.deeper (envOfC "law" (defScope sLaw) s.heap.objs.size f cdv)).units + 1 < cLine := by
    have := hr.un
    omega
  refine weak (t := tSeq _ (tSeq _ (tSeq _ u))) (pss_cons (ps_if (pt_val (pe_callB call_isi (by rfl) gIs (by decide +kernel) (pa_cons (pv 4) (pa_cons (pe_bltn (v := .ty "list") (by rfl) gLi (by decide +kernel) rfl) pa_nil))))
        (pss_one (ps_expr (pe_bm PySem.F.plainAttrs_list PySem.F.slot_list_append PySem.F.type_list_append mt_append (pv 4) (pa_cons pe_str pa_nil)))) pss_nil)
    (pss_cons (ps_if (pt_val (pe_callB call_isi (by rfl) gIs (by decide +kernel) (pa_cons (pv 4) (pa_cons (pe_bltn (v := .ty "dict") (by rfl) gDi (by decide +kernel) rfl) pa_nil))))
        (pss_cons (ps_expr (pe_bm PySem.F.plainAttrs_list PySem.F.slot_list_append PySem.F.type_list_append mt_append (pe_dget hu1 (pv 4) (pv 2) (fun _ _ => rfl)) (pa_cons pe_str pa_nil))) (pss_one (ps_dput hu1 (pv 4) pe_str pe_int rfl))) pss_nil)
    (pss_cons (ps_if (PW.pt (pw_and (pt_val (pe_callB call_isi (by rfl) gIs (by decide +kernel) (pa_cons (pv 4) (pa_cons (pe_bltn (v := .ty "tuple") (by rfl) gTu (by decide +kernel) rfl) pa_nil))))
          (pw_and1 (pt_cmpR op_eq (pe_callB call_len_seq (by rfl) gL PySem.boot_len (pa_cons (pv 4) pa_nil)) pe_int (nomark _)))))
        (pss_one (ps_expr (pe_bm PySem.F.plainAttrs_list PySem.F.slot_list_append PySem.F.type_list_append mt_append (pe_ix ix_tup (pv 4) pe_int (fun _ _ => rfl)) (pa_cons pe_str pa_nil)))) pss_nil)
    hu))) ?_
  rintro D σ H ⟨o0, o1, o3, o5, o8, o9, oe, wd, z, L6, L7, H0, Hb, rfl, hw, hth, sb, n6, n7, e6, e7, q⟩
  have lw := wd_len hw
  have sl := sizeLine_eq
  have th := th_same hth sb
  have ne6 : ∀ {l : Addr} {o : HO}, Hb l = some o → L6 ≠ l := fun {l o} e y => by
    rw [← y, n6] at e
    cases e
  have ne7 : ∀ {l : Addr} {o : HO}, Hb l = some o → L7 ≠ l := fun {l o} e y => by
    rw [← y, n7] at e
    cases e
  obtain ⟨zt, hz⟩ := th_shows hw th
  cases hth with
  | non =>
    exact ⟨_, rfl, _, _, _, _, _, rfl, .ty _, .base .non, kfl (by decide +kernel), _, rfl, ifF (by decide) ⟨_, rfl, _, _, _, _, _, rfl, .ty _, .base .non, kfl (by decide +kernel), _, rfl, ifF (by decide)
      ⟨_, rfl, _, _, _, _, _, rfl, .ty _, .base .non, kfl (by decide +kernel), _, rfl, ifF (by decide) (ifF (by decide) (q H zt (fun b o _ e => e) hz e6 e7))⟩⟩⟩
  | bl b =>
    exact ⟨_, rfl, _, _, _, _, _, rfl, .ty _, .base (.bl b), kfl (by decide +kernel), _, rfl, ifF (by decide) ⟨_, rfl, _, _, _, _, _, rfl, .ty _, .base (.bl b), kfl (by decide +kernel), _, rfl, ifF (by decide)
      ⟨_, rfl, _, _, _, _, _, rfl, .ty _, .base (.bl b), kfl (by decide +kernel), _, rfl, ifF (by decide) (ifF (by decide) (q H zt (fun b o _ e => e) hz e6 e7))⟩⟩⟩
  | int i hi =>
    exact ⟨_, rfl, _, _, _, _, _, rfl, .ty _, .base (.int i), kfl (by decide +kernel), _, rfl, ifF (by decide) ⟨_, rfl, _, _, _, _, _, rfl, .ty _, .base (.int i), kfl (by decide +kernel), _, rfl, ifF (by decide)
      ⟨_, rfl, _, _, _, _, _, rfl, .ty _, .base (.int i), kfl (by decide +kernel), _, rfl, ifF (by decide) (ifF (by decide) (q H zt (fun b o _ e => e) hz e6 e7))⟩⟩⟩
  | str =>
    exact ⟨_, rfl, _, _, _, _, _, rfl, .ty _, .base (.str wd), kfl (by decide +kernel), _, rfl, ifF (by decide) ⟨_, rfl, _, _, _, _, _, rfl, .ty _, .base (.str wd), kfl (by decide +kernel), _, rfl, ifF (by decide)
      ⟨_, rfl, _, _, _, _, _, rfl, .ty _, .base (.str wd), kfl (by decide +kernel), _, rfl, ifF (by decide) (ifF (by decide) (q H zt (fun b o _ e => e) hz e6 e7))⟩⟩⟩
  | t5 h =>
    have h' := sb _ _ h
    refine ⟨_, rfl, _, _, _, _, _, rfl, .ty _, .base (.tup h'), kfl (by decide +kernel), _, rfl, ifF (by decide) ⟨_, rfl, _, _, _, _, _, rfl, .ty _, .base (.tup h'), kfl (by decide +kernel), _, rfl, ifF (by decide)
      ⟨_, rfl, _, _, _, _, _, rfl, .ty _, .base (.tup h'), ktr (by decide +kernel), _, rfl, ifT (by decide) ⟨_, rfl, _, _, rfl, Or.inr (SqT.of h'), rfl, _, rfl, ifF ?_ (q H zt (fun b o _ e => e) hz e6 e7)⟩⟩⟩⟩
    show ¬ decide (V.int 5 = V.int 2) = true
    decide
  | @t2 t l h1 h2 h3 =>
    have h1' := sb _ _ h1
    have h2' := sb _ _ h2
    refine ⟨_, rfl, _, _, _, _, _, rfl, .ty _, .base (.tup h1'), kfl (by decide +kernel), _, rfl, ifF (by decide) ⟨_, rfl, _, _, _, _, _, rfl, .ty _, .base (.tup h1'), kfl (by decide +kernel), _, rfl, ifF (by decide)
      ⟨_, rfl, _, _, _, _, _, rfl, .ty _, .base (.tup h1'), ktr (by decide +kernel), _, rfl, ifT (by decide) ⟨_, rfl, _, _, rfl, Or.inr (SqT.of h1'), rfl, _, rfl, ifT ?_
        ⟨_, rfl, t, _, 1, _, rfl, rfl, SqT.of h1', rfl, .inl ⟨rfl, _, SqL.of h2'⟩, l, _, _, rfl, rfl, h2', (by show 1 < sizeLine; decide +kernel), ?_⟩⟩⟩⟩⟩
    · show decide (V.int 2 = V.int 2) = true
      decide
    have ntl : t ≠ l := ne_of h1' h2' (by intro y; cases y)
    have g1 : upd H l (.lst ([.str wd] ++ [.str "later"])) t = some (.tup [.str wd, .ref l]) := by rw [upd_ne ntl]; exact h1'
    have g2 : upd H l (.lst ([.str wd] ++ [.str "later"])) l = some (.lst [.str wd, .str "later"]) := upd_same
    refine q _ _ (fun b o nb e => ?_) (shows_of (d := .tuple [.str wd, .list [.str wd, .str "later"]]) (.tup g1 (.cons (.str _) (.cons (.lst g2 (.cons (.str _) (.cons (.str _) .nil))) .nil))) rfl (by simp [PyData.depth, PyData.depthAll]) ?_)
      (errL_upd e6 (.inl ⟨_, h2'⟩) (ne6 h2)) (errL_upd e7 (.inl ⟨_, h2'⟩) (ne7 h2))
    · rw [upd_ne (fun y => nb (by rw [y]; exact h3))]
      exact e
    · show (tupleText [reprText wd, listText [reprText wd, reprText "later"]]).length ≤ _
      rw [tt2, lt2, c_later]
      omega
  | @dc d l h1 h2 h3 h4 =>
    have h1' := sb _ _ h1
    have h2' := sb _ _ h2
    have ndl : d ≠ l := ne_of h1' h2' (by intro y; cases y)
    have hget : DGet H d (.str wd) (some (.ref l)) := by
      have e := DGet.k (k := Sum.inr wd) h1'
      rw [valV_pos (p := ((Sum.inr wd : Key), V.ref l)) (r := []) rfl] at e
      exact e
    have g0 : upd H l (.lst ([.str wd] ++ [.str "later"])) d = some (.dK [(Sum.inr wd, .ref l)]) := by rw [upd_ne ndl]; exact h1'
    refine ⟨_, rfl, _, _, _, _, _, rfl, .ty _, .base (.dK h1'), kfl (by decide +kernel), _, rfl, ifF (by decide) ⟨_, rfl, _, _, _, _, _, rfl, .ty _, .base (.dK h1'), ktr (by decide +kernel), _, rfl, ifT (by decide)
      ⟨_, rfl, _, rfl, d, .ref l, rfl, hget, Or.inl ⟨rfl, _, SqL.of h2'⟩, l, _, _, rfl, rfl, h2', (by show 1 < sizeLine; decide +kernel),
        _, rfl, d, _, rfl, DPut.k (k := Sum.inr "LATER") g0 (by show 1 < sizeLine; decide +kernel), ?_⟩⟩⟩
    rw [put_later hw]
    have g1 : upd (upd H l (.lst ([.str wd] ++ [.str "later"]))) d (.dK [(Sum.inr wd, .ref l), (Sum.inr "LATER", .int 1)]) d = some (.dK [(Sum.inr wd, .ref l), (Sum.inr "LATER", .int 1)]) := upd_same
    have g2 : upd (upd H l (.lst ([.str wd] ++ [.str "later"]))) d (.dK [(Sum.inr wd, .ref l), (Sum.inr "LATER", .int 1)]) l = some (.lst [.str wd, .str "later"]) := by rw [upd_ne (Ne.symm ndl)]; exact upd_same
    refine ⟨_, rfl, _, _, _, _, _, rfl, .ty _, .base (.dK g1), kfl (by decide +kernel), _, rfl, ifF (by decide) (ifF (by decide) ?_)⟩
    refine q _ _ (fun b o nb e => ?_) (shows_of (d := .dict [(.str wd, .list [.str wd, .str "later"]), (.str "LATER", .int 1)]) (.dct g1 (.cons (.lst g2 (.cons (.str _) (.cons (.str _) .nil))) (.cons (.int _) .nil))) (by simp only [PyData.showable, PyData.showableAll, PyData.showableKv, Bool.true_and, Bool.and_true]; decide +kernel) (by simp [PyData.depth, PyData.depthAll, PyData.depthKv]) ?_)
      (errL_upd (errL_upd e6 (.inl ⟨_, h2'⟩) (ne6 h2)) (.inr ⟨_, g0⟩) (ne6 h1)) (errL_upd (errL_upd e7 (.inl ⟨_, h2'⟩) (ne7 h2)) (.inr ⟨_, g0⟩) (ne7 h1))
    · rw [upd_ne (fun y => nb (by rw [y]; exact h3)), upd_ne (fun y => nb (by rw [y]; exact h4))]
      exact e
    · show (dictText [reprText wd ++ ": " ++ listText [reprText wd, reprText "later"], reprText "LATER" ++ ": " ++ Str.ofString (toString (1 : Int))]).length ≤ _
      rw [dt2, kv_len, kv_len, lt2, c_later, c_LATER, c_1]
      omega
  | @ls l h1 h2 =>
    have h1' := sb _ _ h1
    have g1 : upd H l (.lst ([.str wd] ++ [.str "later"])) l = some (.lst [.str wd, .str "later"]) := upd_same
    refine ⟨_, rfl, _, _, _, _, _, rfl, .ty _, .base (.lst h1'), ktr (by decide +kernel), _, rfl, ifT (by decide) ⟨_, rfl, .inl ⟨rfl, _, SqL.of h1'⟩, l, _, _, rfl, rfl, h1', (by show 1 < sizeLine; decide +kernel), ?_⟩⟩
    refine ⟨_, rfl, _, _, _, _, _, rfl, .ty _, .base (.lst g1), kfl (by decide +kernel), _, rfl, ifF (by decide) ⟨_, rfl, _, _, _, _, _, rfl, .ty _, .base (.lst g1), kfl (by decide +kernel), _, rfl, ifF (by decide) (ifF (by decide) ?_)⟩⟩
    refine q _ _ (fun b o nb e => ?_) (shows_of (d := .list [.str wd, .str "later"]) (.lst g1 (.cons (.str _) (.cons (.str _) .nil))) rfl (by simp [PyData.depth, PyData.depthAll]) ?_)
      (errL_upd e6 (.inl ⟨_, h1'⟩) (ne6 h1)) (errL_upd e7 (.inl ⟨_, h1'⟩) (ne7 h1))
    · rw [upd_ne (fun y => nb (by rw [y]; exact h2))]
      exact e
    · show (listText [reprText wd, reprText "later"]).length ≤ _
      rw [lt2, c_later]
      omega
  | @ll l a d h1 h2 h3 h4 =>
    have h1' := sb _ _ h1
    have h2' := sb _ _ h2
    have h3' := sb _ _ h3
    have nal : a ≠ l := ne_of h2' h1' (by intro y; cases y)
    have ndl : d ≠ l := ne_of h3' h1' (by intro y; cases y)
    have g1 : upd H l (.lst ([.ref a, .ref d] ++ [.str "later"])) l = some (.lst [.ref a, .ref d, .str "later"]) := upd_same
    have g2 : upd H l (.lst ([.ref a, .ref d] ++ [.str "later"])) a = some (.lst [.str wd]) := by rw [upd_ne nal]; exact h2'
    have g3 : upd H l (.lst ([.ref a, .ref d] ++ [.str "later"])) d = some (.dK [(Sum.inr "out", .str wd)]) := by rw [upd_ne ndl]; exact h3'
    refine ⟨_, rfl, _, _, _, _, _, rfl, .ty _, .base (.lst h1'), ktr (by decide +kernel), _, rfl, ifT (by decide) ⟨_, rfl, .inl ⟨rfl, _, SqL.of h1'⟩, l, _, _, rfl, rfl, h1', (by show 2 < sizeLine; decide +kernel), ?_⟩⟩
    refine ⟨_, rfl, _, _, _, _, _, rfl, .ty _, .base (.lst g1), kfl (by decide +kernel), _, rfl, ifF (by decide) ⟨_, rfl, _, _, _, _, _, rfl, .ty _, .base (.lst g1), kfl (by decide +kernel), _, rfl, ifF (by decide) (ifF (by decide) ?_)⟩⟩
    refine q _ _ (fun b o nb e => ?_) (shows_of (d := .list [.list [.str wd], .dict [(.str "out", .str wd)], .str "later"]) (.lst g1 (.cons (.lst g2 (.cons (.str _) .nil)) (.cons (.dct g3 (.cons (.str _) .nil)) (.cons (.str _) .nil)))) rfl (by simp [PyData.depth, PyData.depthAll, PyData.depthKv]) ?_)
      (errL_upd e6 (.inl ⟨_, h1'⟩) (ne6 h1)) (errL_upd e7 (.inl ⟨_, h1'⟩) (ne7 h1))
    · rw [upd_ne (fun y => nb (by rw [y]; exact h4))]
      exact e
    · show (listText [listText [reprText wd], dictText [reprText "out" ++ ": " ++ reprText wd], reprText "later"]).length ≤ _
      rw [lt3, lt1, dt1, kv_len, c_out, c_later]
      omega
end
end K1
set_option Elab.async false
set_option linter.all false
set_option maxRecDepth 100000
set_option maxHeartbeats 8000000
namespace K1
open PySem PySem.Spec PyProof.Rows L2
theorem ds_eqv2 : PyData.eqv (.list (dsFrom 27 2)) (.list (dsFrom 27 2)) = true := by decide +kernel
theorem ds_shaped2 : SeqAt.shaped (.list (dsFrom 27 2)) = true := by decide +kernel
section
variable {P : Program} {w : World} {K : PySem.W.Frag} {mg : Str → Option Value} {base : Heap} {f : Addr} {cdv : Value} {A : Around} {outer : List Env} {s : Shared} {Hl : Hp} {E : XK}
/-- the two without a field, and the base -/
def tEnd : TS := fun D σ H => (∃ (o0 o1 o2 o3 o4 o5 o6 o7 o8 o9 oe : Option V), σ = [o0, o1, o2, o3, o4, o5, o6, o7, o8, o9, oe]) ∧ ∀ H', D.rt (.bl true) H'
theorem blkE (L : LawEnv P w K mg base) (hr : Room 3 (A.deeper (envOfC "law" (defScope sLaw) s.heap.objs.size f cdv))) : PSs (LX P w K mg base f cdv A outer s Hl E) [lst 1, lst 2, lst 3, lst 4] tEnd := by
  have gAl := L.T.fr "all" (by decide +kernel)
  have hr1 : Room 1 (A.deeper (envOfC "law" (defScope sLaw) s.heap.objs.size f cdv)) := hr.mono (by decide)
  have hu64 : (A.deeper (envOfC "law" (defScope sLaw) s.heap.objs.size f cdv)).units + 64 < cLine := by
    have := hr.un
    omega
  refine weak (t := tSeq _ (tSeq _ (tSeq _ _))) (pss_cons (ps_set (i := 9) scLaw.nd rfl (Or.inl rfl) (pe_lst (pa_cons (pe_xn0 PySem.F.excBase_ValueError (L.T.bar 27 (by decide)).1 (L.T.cls 27 (by decide)).1 (L.T.bar 27 (by decide)).2 (by rfl))
      (pa_cons (pe_xn0 PySem.F.excBase_ValueError (L.T.bar 28 (by decide)).1 (L.T.cls 28 (by decide)).1 (L.T.bar 28 (by decide)).2 (by rfl)) pa_nil))))
    (pss_cons (ps_if (pt_cmpR (op_neD hu64) (pe_lc (own := [("_law_error", 10)]) (g := gName 10) (tt := tYes) rfl scLaw.nd (pi_list (pv 9)) (blkOk_by (own := [("_law_error", 10)]) (N := NL) (sc := defScope sLaw) (by decide +kernel))
          (fun _ _ _ _ _ => pg_name (i := 10) scLaw.nd rfl (Or.inl rfl)) (fun _ _ _ _ _ => pts_nil) (fun _ _ _ _ _ => pe_fz L.code hr1 (by rfl) (pa_cons (pv 10) pa_nil)))
        (pe_lst (pa_cons (pe_lst (pa_cons pe_int pa_nil)) (pa_cons (pe_lst (pa_cons pe_int pa_nil)) pa_nil))) (nomark _)) (pss_one (ps_ret pe_bl)) pss_nil)
    (pss_cons (ps_expr (pe_bm PySem.F.plainAttrs_list PySem.F.slot_list_append PySem.F.type_list_append mt_append (pv 9) (pa_cons (pe_xn0 PySem.F.excBase_ValueError (L.T.bar 29 (by decide)).1 (L.T.cls 29 (by decide)).1 (L.T.bar 29 (by decide)).2 (by rfl)) pa_nil)))
    (pss_one (ps_ret (pe_and (pe_callB (cr_all rfl) (by rfl) gAl (by decide +kernel) (pa_cons (pe_lc (own := [("_law_error", 10)]) (g := gName 10) (tt := tYes) rfl scLaw.nd (pi_list (pv 9)) (blkOk_by (own := [("_law_error", 10)]) (N := NL) (sc := defScope sLaw) (by decide +kernel))
          (fun _ _ _ _ _ => pg_name (i := 10) scLaw.nd rfl (Or.inl rfl)) (fun _ _ _ _ _ => pts_nil) (fun _ _ _ _ _ => pe_fz L.isErr hr1 (by rfl) (pa_cons (pv 10) pa_nil))) pa_nil))
      (pe_one (pe_cmpR (op_eqD hu64) (pe_fz L.code hr1 (by rfl) (pa_cons (pe_ix ix_list (pv 9) pe_int (fun _ _ => rfl)) pa_nil)) (pe_lst pa_nil) (nomark _)))))))))  ?_
  rintro D σ H ⟨⟨o0, o1, o2, o3, o4, o5, o6, o7, o8, o9, oe, rfl⟩, q⟩
  have sz1 : 1 ≤ sizeLine := by decide +kernel
  have sz2 : 2 ≤ sizeLine := by decide +kernel
  intro a na b nb
  refine ⟨sz2, fun l nl => ?_⟩
  have xa : ExI (ca K 27) a (upd (upd (upd H a (exo a (ca K 27) none)) b (exo b (ca K 28) none)) l (.lst [.ref a, .ref b])) := Or.inl (same_upd nl _ _ (same_upd nb _ _ upd_same))
  have xb : ExI (ca K 28) b (upd (upd (upd H a (exo a (ca K 27) none)) b (exo b (ca K 28) none)) l (.lst [.ref a, .ref b])) := Or.inl (same_upd nl _ _ upd_same)
  have el : upd (upd (upd H a (exo a (ca K 27) none)) b (exo b (ca K 28) none)) l (.lst [.ref a, .ref b]) l = some (.lst [.ref a, .ref b]) := upd_same
  generalize upd (upd (upd H a (exo a (ca K 27) none)) b (exo b (ca K 28) none)) l (.lst [.ref a, .ref b]) = G at xa xb el ⊢
  refine ⟨_, rfl, l, rfl, ⟨_, SqL.of el⟩, fun D1 nD1 => ?_⟩
  refine lc_list (K := K) (a := l) (xs := [.ref a, .ref b]) (fun j H' => Same G H' ∧ ∃ cs : List Addr, cs.length = j ∧ H' D1 = some (.lst (cs.map V.ref)) ∧ ∀ k c, cs[k]? = some c → c ≠ D1 ∧ H' c = some (.lst [.int ((27 + k : Nat) : Int)]))
    ⟨same_upd nD1, [], rfl, upd_same, fun k c e => by simp at e⟩ (fun j H' _ h => SqL.of (h.1 _ _ el)) ?_ ?_
  · rintro j y H' hj ⟨s1, cs, hcl, hD1, hcs⟩
    have hx : ∃ c, y = .ref c ∧ j < 2 ∧ ExI (ca K (27 + j)) c G := by
      have hj2 : j < 2 := (List.getElem?_eq_some_iff.mp hj).1
      have e : j = 0 ∨ j = 1 := by omega
      rcases e with rfl | rfl
      · exact ⟨a, (Option.some.inj hj).symm, by decide, xa⟩
      · exact ⟨b, (Option.some.inj hj).symm, by decide, xb⟩
    obtain ⟨c, rfl, hj2, xc⟩ := hx
    refine ⟨rfl, _, rfl, c, 27 + j, rfl, by omega, exI_same xc s1, fun D2 H2 nD s2 eD => ?_⟩
    rw [if_pos (by omega)] at eD
    have nDD : D2 ≠ D1 := fun z => by
      rw [z, hD1] at nD
      cases nD
    refine ⟨cs.map V.ref, s2 _ _ hD1, by rw [List.length_map, hcl, sizeLine_eq]; omega, ?_, cs ++ [D2], by simp [hcl], by rw [upd_same, List.map_append]; rfl, fun k c e => ?_⟩
    · intro b o z
      rw [upd_ne (ne_of_none z nD1)]
      exact s2 _ _ (s1 _ _ z)
    · by_cases hk : k < cs.length
      · rw [List.getElem?_append_left hk] at e
        obtain ⟨n1, n2⟩ := hcs k c e
        exact ⟨n1, by rw [upd_ne n1]; exact s2 _ _ n2⟩
      · rw [List.getElem?_append_right (by omega)] at e
        have e2 : k - cs.length = 0 := by
          have := (List.getElem?_eq_some_iff.mp e).1
          simp at this
          omega
        rw [e2] at e
        have e3 : D2 = c := Option.some.inj (show some D2 = some c from e)
        have e4 : k = j := by omega
        rw [← e3, e4]
        exact ⟨nDD, by rw [upd_ne nDD]; exact eD⟩
  rintro H1 ⟨s1, cs, hcl, hD1, hcs⟩
  have hcl2 : cs.length = 2 := hcl
  refine ⟨sz1, fun c1 n1 => ⟨sz1, fun c2 n2 => ⟨sz2, fun D2 nD2 => ?_⟩⟩⟩
  have f1 : upd (upd (upd H1 c1 (.lst [.int 27])) c2 (.lst [.int 28])) D2 (.lst [.ref c1, .ref c2]) c1 = some (.lst [.int 27]) := same_upd nD2 _ _ (same_upd n2 _ _ upd_same)
  have f2 : upd (upd (upd H1 c1 (.lst [.int 27])) c2 (.lst [.int 28])) D2 (.lst [.ref c1, .ref c2]) c2 = some (.lst [.int 28]) := same_upd nD2 _ _ upd_same
  have f3 : upd (upd (upd H1 c1 (.lst [.int 27])) c2 (.lst [.int 28])) D2 (.lst [.ref c1, .ref c2]) D2 = some (.lst [.ref c1, .ref c2]) := upd_same
  have s2 : Same H1 (upd (upd (upd H1 c1 (.lst [.int 27])) c2 (.lst [.int 28])) D2 (.lst [.ref c1, .ref c2])) := same_trans (same_upd n1) (same_trans (same_upd n2) (same_upd nD2))
  generalize upd (upd (upd H1 c1 (.lst [.int 27])) c2 (.lst [.int 28])) D2 (.lst [.ref c1, .ref c2]) = H2 at f1 f2 f3 s2 ⊢
  have p1 : Dp K H2 (.ref D1) (.list (dsFrom 27 2)) := by
    rw [← hcl2]
    exact .lst (SqL.of (s2 _ _ hD1)) (dp_all cs 27 fun k c e => s2 _ _ (hcs k c e).2)
  have p2 : Dp K H2 (.ref D2) (.list (dsFrom 27 2)) := .lst (SqL.of f3) (.cons (.lst (SqL.of f1) (.cons (.int _) .nil)) (.cons (.lst (SqL.of f2) (.cons (.int _) .nil)) .nil))
  refine ⟨_, _, p1, p2, ds_shaped2, ds_shaped2, _, rfl, ?_⟩
  refine ifF (by rw [ds_eqv2]; decide) ?_
  have s3 := same_trans s1 s2
  refine ⟨_, rfl, Or.inl ⟨rfl, _, SqL.of (s3 _ _ el)⟩, fun g ng => ?_⟩
  have s4 : Same H2 (upd H2 g (exo g (ca K 29) none)) := same_upd ng
  have xg : ExI (ca K 29) g (upd H2 g (exo g (ca K 29) none)) := Or.inl upd_same
  have xa := exI_same xa (same_trans s3 s4)
  have xb := exI_same xb (same_trans s3 s4)
  have el := s4 _ _ (s3 _ _ el)
  generalize upd H2 g (exo g (ca K 29) none) = H3 at s4 xg xa xb el ⊢
  refine ⟨l, _, _, rfl, rfl, el, (by show 2 < sizeLine; decide +kernel), ?_⟩
  have nx : ∀ {C c : Addr} {o : HO}, ExI C c H3 → ExI C c (upd H3 l o) := fun {C c o} x => by
    rcases x with e | ⟨v, x⟩
    · exact Or.inl (by rw [upd_ne (ne_of e el exo_ne_lst)]; exact e)
    · exact Or.inr ⟨v, exV_upd x (.inl ⟨_, el⟩)⟩
  have xa := nx (o := .lst ([.ref a, .ref b] ++ [.ref g])) xa
  have xb := nx (o := .lst ([.ref a, .ref b] ++ [.ref g])) xb
  have xg := nx (o := .lst ([.ref a, .ref b] ++ [.ref g])) xg
  have el : upd H3 l (.lst ([.ref a, .ref b] ++ [.ref g])) l = some (.lst [.ref a, .ref b, .ref g]) := upd_same
  generalize upd H3 l (.lst ([.ref a, .ref b] ++ [.ref g])) = H4 at xa xb xg el ⊢
  refine ⟨_, rfl, l, rfl, ⟨_, SqL.of el⟩, fun D3 nD3 => ?_⟩
  refine lc_list (K := K) (a := l) (xs := [.ref a, .ref b, .ref g]) (fun j H' => Same H4 H' ∧ H' D3 = some (.lst ((List.replicate j true).map V.bl))) ⟨same_upd nD3, upd_same⟩ (fun j H' _ h => SqL.of (h.1 _ _ el)) ?_ ?_
  · rintro j y H' hj ⟨s5, hD3⟩
    have hx : ∃ c, y = .ref c ∧ j < 3 ∧ ExI (ca K (27 + j)) c H4 := by
      have hj2 : j < 3 := (List.getElem?_eq_some_iff.mp hj).1
      have e : j = 0 ∨ j = 1 ∨ j = 2 := by omega
      rcases e with rfl | rfl | rfl
      · exact ⟨a, (Option.some.inj hj).symm, by decide, xa⟩
      · exact ⟨b, (Option.some.inj hj).symm, by decide, xb⟩
      · exact ⟨g, (Option.some.inj hj).symm, by decide, xg⟩
    obtain ⟨c, rfl, hj3, xc⟩ := hx
    refine ⟨rfl, _, rfl, c, 27 + j, rfl, by omega, exI_same xc s5, _, hD3, by rw [List.length_map, List.length_replicate, sizeLine_eq]; omega, ?_, ?_⟩
    · intro b o z
      rw [upd_ne (ne_of_none z nD3)]
      exact s5 _ _ z
    · rw [upd_same, List.replicate_succ', List.map_append]
      rfl
  rintro H5 ⟨s5, hD3⟩
  refine ⟨D3, List.replicate 3 true, rfl, SqL.of hD3, _, rfl, ifT (by decide) ?_⟩
  refine ⟨_, rfl, l, _, 2, _, rfl, rfl, SqL.of (s5 _ _ el), rfl, g, 29, rfl, by decide, exI_same xg s5, fun D4 H6 nD4 s6 e4 => ?_⟩
  rw [if_neg (by decide)] at e4
  refine ⟨Nat.zero_le _, fun l5 n5 => ?_⟩
  refine ⟨.list [], .list [], .lst (SqL.of (same_upd n5 _ _ e4)) .nil, .lst (SqL.of upd_same) .nil, by decide +kernel, by decide +kernel, ?_⟩
  have e : PyData.eqv (.list []) (.list []) = true := by decide +kernel
  rw [e]
  exact q _
end
end K1
set_option Elab.async false
set_option linter.all false
set_option maxRecDepth 100000
set_option maxHeartbeats 8000000
namespace K1
open PySem PySem.Spec PyProof.Rows L2
def spLaw (K : PySem.W.Frag) : Sp := fun vs H Q _ => ∃ (a : Addr) (ns : List Int), vs = [.ref a] ∧ SqL K H a (ns.map V.int) ∧ ∀ H', Q (.bl true) H'
/-- at the head of the turn i -/
def Pv (D : Addr) (ps : List Addr) (i : Nat) : L2.St → Hp → Prop := fun σ H => (∃ (o0 o1 o2 o3 o4 o5 o6 o7 o8 o9 oe : Option V), σ = [o0, o1, o2, o3, o4, o5, o6, o7, o8, o9, oe]) ∧ H D = some (.lst (ps.map V.ref)) ∧
  ∀ j p, i ≤ j → ps[j]? = some p → ∃ xs, H p = some (.lst xs) ∧ PuOk 0 xs
abbrev tTurn (K : PySem.W.Frag) : TS := tB1 (tB2 K (tB3 K (tB4 K (tB5 K tNext))))
theorem turn {K : PySem.W.Frag} {D : Addr} {ps : List Addr} {i : Nat} {p : Addr} {σ : L2.St} {H : Hp} {E : Ends} (hn : ps.Nodup) (hd : ∀ p ∈ ps, p ≠ D) (hi : ps[i]? = some p) (h : Pv D ps i σ H) (hE : ∀ σ H, Pv D ps (i + 1) σ H → E.nx σ H) :
    gName 1 (.ref p) σ H fun σ2 H2 => tTurn K E σ2 H2 := by
  obtain ⟨⟨o0, o1, o2, o3, o4, o5, o6, o7, o8, o9, oe, rfl⟩, hD, hp⟩ := h
  obtain ⟨xs, hx, hu⟩ := hp i p (Nat.le_refl _) hi
  have npD : p ≠ D := hd p (List.mem_of_getElem? hi)
  refine ⟨o0, o2, o3, o4, o5, o6, o7, o8, o9, oe, p, xs, rfl, hx, hu, fun wd z o3' Hb hw bu th => ?_⟩
  obtain ⟨zt, hz⟩ := th_shows hw th
  refine ⟨o0, _, o3', _, _, _, _, _, _, wd, z, zt, rfl, hz, fun L6 L7 L8 t8 H2 s2 n6 n7 e6 e7 e8 h8 => ?_⟩
  refine ⟨_, _, _, _, _, wd, z, zt, L6, L7, L8, t8, rfl, hw, shows_same hz s2, e6, e7, e8, h8, fun H3 s3 => ?_⟩
  have s23 := same_trans s2 s3
  refine ⟨_, _, _, _, _, _, _, wd, z, L6, L7, H, Hb, rfl, hw, th, s23, n6, n7, errL_same e6 s3, errL_same e7 s3, fun H4 zt4 k4 hz4 e6 e7 => ?_⟩
  refine ⟨_, _, _, _, _, _, _, _, z, zt4, L6, L7, rfl, hz4, e6, e7, fun H5 s5 => ?_⟩
  have keep : ∀ {b : Addr} {o : HO}, b ≠ p → H b = some o → H5 b = some o := fun {b o} nb e => s5 _ _ (k4 b o (fun y => by rw [y] at e; cases e) (s23 _ _ (bu b o nb e)))
  refine hE _ _ ⟨⟨_, _, _, _, _, _, _, _, _, _, _, rfl⟩, keep (Ne.symm npD) hD, fun j q hj hq => ?_⟩
  obtain ⟨ys, hy, hv⟩ := hp j q (by omega) hq
  refine ⟨ys, keep (fun y => ?_) hy, hv⟩
  rw [y] at hq
  have lt := (List.getElem?_eq_some_iff.mp hi).1
  have lt2 := (List.getElem?_eq_some_iff.mp hq).1
  have := (List.getElem?_inj lt hn).mp (hi.trans hq.symm)
  omega
section
variable {P : Program} {w : World} {K : PySem.W.Frag} {mg : Str → Option Value} {base : Heap}
theorem ok_law {f : Addr} {fd : FuncData} (F : FnP K "law" sLaw f fd) (L : LawEnv P w K mg base) : FnG P w K mg base 4 f fd ["_law_script"] (spLaw K) := by
  refine F.okG scLaw (fun vs H Q E h => ?_) (fun cdv A outer s H vs Q E hgd hr h => ?_)
  · obtain ⟨_, _, rfl, _⟩ := h
    rfl
  · obtain ⟨a, ns, rfl, hS, q⟩ := h
    have hr2 : Room 2 (A.deeper (envOfC "law" (defScope sLaw) s.heap.objs.size f cdv)) := hr.mono (by decide)
    refine ⟨_, PSs.nox (pss_cons (ps_for (tb := tTurn K) PassesOwn.never rfl (pi_list (pe_fz L.purses hr2 (by rfl) (pa_cons (pv 0) (pa_cons pe_int pa_nil)))) (pg_name (i := 1) scLaw.nd rfl (Or.inl rfl))
      (blk1 L hr (blk2 L hgd hr (blk3 L hgd hr (blk4 L hr (blk5 L hgd hr pss_nil)))))) (blkE L hr)), ?_⟩
    refine ⟨_, rfl, a, ns, rfl, hS, fun D ps H1 hl nD hP => ⟨D, rfl, ⟨_, SqL.of hP.2.1⟩, ?_⟩⟩
    refine for_list (K := K) (a := D) (xs := ps.map V.ref) (Pv D ps) ⟨⟨_, _, _, _, _, _, _, _, _, _, _, rfl⟩, hP.2.1, fun j p _ e => ?_⟩ (fun i σ H' _ h => SqL.of h.2.1) (fun i x σ H' hx h => ?_) (fun σ H' h => ⟨h.1, fun H2 => q H2⟩)
    · obtain ⟨_, _, xs, e2, e3⟩ := hP.2.2.2 p (List.mem_of_getElem? e)
      exact ⟨xs, e2, e3⟩
    · rw [List.getElem?_map] at hx
      cases hy : ps[i]? with
      | none =>
        rw [hy] at hx
        cases hx
      | some p =>
        rw [hy] at hx
        cases hx
        exact turn hP.2.2.1 (fun p hp => (hP.2.2.2 p hp).2.1) hy h fun _ _ z => z
end
end K1
set_option Elab.async false
set_option linter.all false
set_option maxRecDepth 100000
set_option maxHeartbeats 8000000
namespace K1
open PySem PySem.Spec PyProof.Rows L2
section
variable {P : Program} {w : World} {K : PySem.W.Frag} {mg : Str → Option Value} {base : Heap}
theorem env_of (c : Says K) (T : Tx K mg) : LawEnv P w K mg base := by
  have Z : ∀ i, i < 27 → Mkr P w K mg base i := fun i h => mkr_of c T i h
  obtain ⟨fd0, F0⟩ := c.def_ 0 (d := dF "_law_purse" sPurse)
  obtain ⟨fd1, F1⟩ := c.def_ 1 (d := dF "_law_mixed" sMixed)
  obtain ⟨fd2, F2⟩ := c.def_ 2 (d := dF "_law_draw" sDraw)
  obtain ⟨fd3, F3⟩ := c.def_ 3 (d := dF "_law_purses" sPurses)
  obtain ⟨fd4, F4⟩ := c.def_ 4 (d := dF "_law_one_of" sOneOf)
  obtain ⟨fd5, F5⟩ := c.def_ 5 (d := dF "_law_word" sWord)
  obtain ⟨fd6, F6⟩ := c.def_ 6 (d := dF "_law_first" sFirst)
  obtain ⟨fd7, F7⟩ := c.def_ 7 (d := dF "_law_called" sCalled)
  obtain ⟨fd8, F8⟩ := c.def_ 8 (d := dF "_law_bare" sBare)
  obtain ⟨fd9, F9⟩ := c.def_ 9 (d := dF "_law_code" sCode)
  obtain ⟨fd10, F10⟩ := c.def_ 10 (d := dF "_law_is_error" sIsErr)
  obtain ⟨fd11, F11⟩ := c.def_ 11 (d := dF "_law_right" sRight)
  have F0 : FnP K "_law_purse" sPurse (He.ga K "_law_purse") fd0 := F0
  have F1 : FnP K "_law_mixed" sMixed (He.ga K "_law_mixed") fd1 := F1
  have F2 : FnP K "_law_draw" sDraw (He.ga K "_law_draw") fd2 := F2
  have F3 : FnP K "_law_purses" sPurses (He.ga K "_law_purses") fd3 := F3
  have F4 : FnP K "_law_one_of" sOneOf (He.ga K "_law_one_of") fd4 := F4
  have F5 : FnP K "_law_word" sWord (He.ga K "_law_word") fd5 := F5
  have F6 : FnP K "_law_first" sFirst (He.ga K "_law_first") fd6 := F6
  have F7 : FnP K "_law_called" sCalled (He.ga K "_law_called") fd7 := F7
  have F8 : FnP K "_law_bare" sBare (He.ga K "_law_bare") fd8 := F8
  have F9 : FnP K "_law_code" sCode (He.ga K "_law_code") fd9 := F9
  have F10 : FnP K "_law_is_error" sIsErr (He.ga K "_law_is_error") fd10 := F10
  have F11 : FnP K "_law_right" sRight (He.ga K "_law_right") fd11 := F11
  have g : ∀ {x : Str}, x ∈ defs → mg x = some (.ref (He.ga K x)) := fun h => T.gl _ h
  have GD : FnOk P w K mg base CX0 2 (He.ga K "_law_draw") fd2 ["_law_purse_here", "_law_many"] spDraw := ok_draw F2 F1 (g (by decide +kernel)) T
  refine ⟨T, ?_, ?_, ?_, ?_, ?_, ?_, ?_, ?_, ?_⟩
  · exact ⟨_, _, ok_purses F3 F0 (g (by decide +kernel)) T, g (by decide +kernel), F3.kp, F3.bindsN fun _ _ _ _ _ _ us hl => match us, hl with | [_, _], _ => rfl⟩
  · exact ⟨_, _, ok_word F5 GD F2 (g (by decide +kernel)) T, g (by decide +kernel), F5.kp, F5.bindsN fun _ _ _ _ _ _ us hl => match us, hl with | [_], _ => rfl⟩
  · exact ⟨_, _, ok_oneOf F4 GD F2 (g (by decide +kernel)) T, g (by decide +kernel), F4.kp, F4.bindsN fun _ _ _ _ _ _ us hl => match us, hl with | [_, _], _ => rfl⟩
  · exact ⟨_, _, ok_first F6 Z, g (by decide +kernel), F6.kp, F6.bindsN fun _ _ _ _ _ _ us hl => match us, hl with | [_], _ => rfl⟩
  · exact ⟨_, _, ok_called F7 Z, g (by decide +kernel), F7.kp, F7.bindsN fun _ _ _ _ _ _ us hl => match us, hl with | [_], _ => rfl⟩
  · exact ⟨_, _, ok_bare F8 Z, g (by decide +kernel), F8.kp, F8.bindsN fun _ _ _ _ _ _ us hl => match us, hl with | [], _ => rfl⟩
  · exact ⟨_, _, ok_code F9 T, g (by decide +kernel), F9.kp, F9.bindsN fun _ _ _ _ _ _ us hl => match us, hl with | [_], _ => rfl⟩
  · exact ⟨_, _, ok_isErr F10 T, g (by decide +kernel), F10.kp, F10.bindsN fun _ _ _ _ _ _ us hl => match us, hl with | [_], _ => rfl⟩
  · exact ⟨_, _, ok_right F11 (ok_code F9 T) F9 (g (by decide +kernel)) (ok_isErr F10 T) F10 (g (by decide +kernel)) T, g (by decide +kernel), F11.kp, F11.bindsN fun _ _ _ _ _ _ us hl => match us, hl with | [_, _], _ => rfl⟩
theorem facts {h : Heap} {f : Addr} (X : K.In h) (G : h.Ns mainGlobals mg) (hfa : mg ("law" : Str) = some (.ref f)) (c : Says K) :
    ∃ fd : FuncData, (∀ (s : Shared) (v : Value), BindsTo s fd ⟨[v], []⟩ [("_law_script", v)]) ∧ ∀ base : Heap, K.In base → base.Ns mainGlobals mg → FnG P w K mg base 4 f fd ["_law_script"] (spLaw K) := by
  have T : Tx K mg := tx_of X G c.chk
  obtain ⟨fd, F⟩ := c.def_ 12 (d := dF "law" sLaw)
  have F : FnP K "law" sLaw (He.ga K "law") fd := F
  have e := hfa.symm.trans (T.gl "law" (by decide +kernel))
  cases e
  have b := FunD.bindsA (ps := ["_law_script"]) F fun _ _ _ _ _ _ us hl => match us, hl with | [_], _ => rfl
  exact ⟨fd, fun s v => b s [v] rfl, fun base _ _ => ok_law F (env_of c T)⟩
end
end K1
open PySem PySem.W PySem.Calls PyProof.Rows
set_option Elab.async false
set_option linter.all false
set_option maxRecDepth 100000
set_option maxHeartbeats 0
theorem PySem.Challenge.cw_gatequarters_k01_errors_made_holds : PySem.Challenge.rw_gatequarters_k01_errors_made.Holds := by
  w_on; o_law
  refine HandSHeadRun.head_any (r := OpenLaw.row PySem.Challenge.rw_gatequarters_k01_errors_made) (q := view (OpenLaw.row PySem.Challenge.rw_gatequarters_k01_errors_made).prog [44]) (H := K1.hk) (ob := K1.ob) (M := 12000) (loose := K1.names) (d := HandSHeadRun.topDef (OpenLaw.row PySem.Challenge.rw_gatequarters_k01_errors_made).prog 44) (kwd := []) K1.ob_eq
    (by kernel_rfl) (fun s => by kernel_rfl) K1.run (by kernel_rfl) (by kernel_rfl) (by kernel_rfl) (by rfl) (by first | assumption | decide +kernel) (by decide +kernel) ⟨rfl, rfl, rfl, rfl, rfl, by decide +kernel⟩ ?hw ?hc
  case hw => w_witness2
  case hc =>
    refine L2.walk_G (l := PySem.Challenge.rw_gatequarters_k01_errors_made) (n := 63) (k := 4) (x := "_law_script") rfl (by decide) (by kernel_rfl) ⟨rfl, by decide, by decide⟩ ?F
    intro w mg fa h Y G hmg0
    obtain ⟨K, KX, c⟩ := Y
    have hmg : mg ("law" : PySem.Str) = some (.ref fa) := by
      have e : (HandSHeadRun.topDef (OpenLaw.row PySem.Challenge.rw_gatequarters_k01_errors_made).prog 44).name = ("law" : PySem.Str) := by kernel_rfl
      rw [← e]
      exact hmg0
    obtain ⟨fd, hb, hF⟩ := K1.facts (P := (PySem.Challenge.rw_gatequarters_k01_errors_made).prog) (w := w) KX G hmg c
    exact ⟨K, fd, K1.spLaw K, KX, hb, fun H a ns hl _ hS => ⟨a, ns, rfl, hS, fun _ => rfl⟩, hF⟩
