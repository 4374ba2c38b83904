import PyProof.Rows.All
import Wide.All
import OpenK.AllK
import Wide.FinOn
import HandS.ForMost
import HandS.Set
import HandS.SetBool
import HandS.SortRule
import HandS.SetFor
import HandS.SortInts
import HandS.Flow
import HandS.Style
import HandS.More
import HandS.MakeKw
import HandS.MakeKwOnly
import HandS.WideBits
import HandS.Defaults
import HandS.TupAny
import HandS.Codes
import HandS.IsInst
import PyProof.ListStr
import HandS.Conv
import HandS.Walk
import HandS.Zip
import PyProof.InstNe
import HandS.OwnEq
import HandS.Dict
import HandS.Deep
import HandS.RevTup
import HandS.Rev
import KE.KStateDown
import HandS.Head0
import HandS.Head1
import HandS.Head2
import HandS.HeadEnd
import HandS.HeadHook1
import HandS.HeadHook2
import PySem.Challenge.RW_gatequarters_k02_quarters_and_towns_kept
section
set_option Elab.async false
set_option linter.all false
set_option maxRecDepth 100000
set_option maxHeartbeats 4000000
/-! sorted(l) of tuples whose first item is a text, no text twice. -/
namespace SrtX
open PySem PyProof.Rows Srt
open SrtO hiding Str
abbrev ltS (x y : Str) : Bool := decide (x.cps.toList < y.cps.toList)
theorem swo_str : Swo ltS := by
  refine ⟨fun x y h => ?_, fun x y z h1 h2 => ?_⟩
  · have a := of_decide_eq_true h
    exact decide_eq_false (fun b => List.lt_irrefl _ (List.lt_trans a b))
  · have a := List.not_lt.mp (of_decide_eq_false h1)
    have b := List.not_lt.mp (of_decide_eq_false h2)
    exact decide_eq_false (List.not_lt.mpr (List.le_trans a b))
theorem swo_by {α : Type} (k : α → Str) : Swo fun v u => ltS (k v) (k u) := ⟨fun x y => swo_str.asym (k x) (k y), fun x y z => swo_str.tr (k x) (k y) (k z)⟩
section
variable {prog : Program} {w : World} {A : Around} {E : Value → Shared → Prop} {s : Shared}
/-- v is a tuple whose first item is the text x -/
def IsTx (h : Heap) (v : Value) (x : Str) : Prop := ∃ a o t r n, v = .ref a ∧ h.get? a = some o ∧ o.cls = .type "tuple" ∧ o.data = .seq (.str x t :: r).toArray n
theorem IsTx.keeps {h h' : Heap} {v : Value} {x : Str} (p : IsTx h v x) (k : ∀ b o, h.get? b = some o → o.cls = .type "tuple" → h'.get? b = some o) : IsTx h' v x := by
  obtain ⟨a, o, t, r, n, e, ho, hc, hd⟩ := p
  exact ⟨a, o, t, r, n, e, k _ _ ho hc, hc, hd⟩
theorem kat_self {b fin : Bool} {Q : Bool → Shared → Prop} (h : Q fin s) : ∀ (l : List Value) (i : Nat), PySem.W.KatLex prog w A b fin Q (l.zip l) i s
  | [], _ => PySem.W.kat_nil h
  | v :: l, i => PySem.W.kat_cons (SeqAt.EqAt.same v prog w _ _ (PySem.W.kat_yes (kat_self h l (i + 1))))
theorem tx_cmp {vs : List Value} {k : Value → Str} (hp : ∀ v ∈ vs, IsTx s.heap v (k v)) (hu : ∀ v ∈ vs, ∀ u ∈ vs, k v = k u → v = u) : Cmp prog w A s (tuples' true) (fun p => p.1 ∈ vs) (lt2 fun v u => ltS (k v) (k u)) := by
  intro p q hm hm'
  show wpAny (model prog w) A (keyLt' (tuples' true) p.1 q.1) (fun r s' => s' = s ∧ r = ltS (k p.1) (k q.1)) (fun _ _ => False) s
  have h1 := hp _ hm
  have h2 := hp _ hm'
  by_cases e : k p.1 = k q.1
  · have ev := hu _ hm _ hm' e
    rw [← ev]
    obtain ⟨a, o, t, r, n, e1, ho, hc, hd⟩ := h1
    rw [e1]
    refine PySem.W.kat_lt ho hd ho hd (kat_self ⟨rfl, ?_⟩ _ 0)
    rw [decide_eq_false (Nat.lt_irrefl _)]
    exact (decide_eq_false (List.lt_irrefl _)).symm
  · generalize k p.1 = x at h1 e ⊢
    generalize k q.1 = y at h2 e ⊢
    obtain ⟨a, o, t, r, n, e1, ho, hc, hd⟩ := h1
    obtain ⟨a', o', t', r', n', e2, ho', hc', hd'⟩ := h2
    rw [e1, e2]
    refine PySem.W.kat_lt ho hd ho' hd' ?_
    show PySem.W.KatLex prog w A true _ _ ((Value.str x t, Value.str y t') :: r.zip r') 0 s
    refine PySem.W.kat_cons (SeqAt.EqAt.str_str x t y t' prog w _ _ ?_)
    refine PySem.W.kat_go (fun e3 => absurd (by simpa using e3) e) (fun e3 => ?_)
    exact PySem.W.kat_no (oneLt_str ⟨rfl, rfl⟩)
theorem firstsX_of {h : Heap} : ∀ {vs : List Value}, (∀ v ∈ vs, ∃ x, IsTx h v x) → ∃ fs : List Value, PySem.W.KatTups h vs fs ∧ fs.length = vs.length ∧ ∀ f ∈ fs, ∃ x t, f = Value.str x t
  | [], _ => ⟨[], PySem.W.KatTups.nil, rfl, fun _ hm => by simp at hm⟩
  | v :: vs, hp => by
    obtain ⟨fs, h1, h2, h3⟩ := firstsX_of (vs := vs) fun v' hm => hp v' (List.mem_cons_of_mem _ hm)
    obtain ⟨x, a, o, t, r, n, e, ho, hc, hd⟩ := hp v (List.mem_cons_self ..)
    subst e
    refine ⟨.str x t :: fs, PySem.W.KatTups.cons ho hc hd rfl h1, by rw [List.length_cons, List.length_cons, h2], fun f hm => ?_⟩
    rcases List.mem_cons.mp hm with rfl | hm
    · exact ⟨x, t, rfl⟩
    · exact h3 f hm
theorem tx_sortableO {a : Addr} {vs : List Value} {k : Value → Str} (h0 : 0 < vs.length) (hp : ∀ v ∈ vs, IsTx s.heap v (k v)) (hu : ∀ v ∈ vs, ∀ u ∈ vs, k v = k u → v = u) (ha : ∀ o, s.heap.get? a = some o → o.cls ≠ .type "tuple") : SortableO prog w A s a vs fun v u => ltS (k v) (k u) := by
  intro h' keep
  have hp' : ∀ v ∈ vs, IsTx h' v (k v) := fun v hm => (hp v hm).keeps fun b o e c => keep b o (fun z => by subst z; exact ha o e c) e
  obtain ⟨fs, h1, h2, h3⟩ := firstsX_of fun v hm => ⟨_, hp' v hm⟩
  refine ⟨tuples' true, fun Q E hq => ?_, tx_cmp hp' hu⟩
  refine PySem.W.kat_kind (T := .type "str") h1 (by omega) (fun f hm => ?_) (by rfl) ?_
  · obtain ⟨x, t, rfl⟩ := h3 f hm
    exact PySem.W.Looks.now
  · have e : (Value.type "str" != Value.type "tuple") = true := by first | decide +kernel | rfl | decide
    rw [e]
    exact hq
theorem sorted_txO {l : Addr} {vs : List Value} {k : Value → Str} {Q : Value → Shared → Prop} (hl : s.heap.IsList l vs.toArray) (hz : vs.length ≤ sizeLine) (hp : ∀ v ∈ vs, IsTx s.heap v (k v)) (hu : ∀ v ∈ vs, ∀ u ∈ vs, k v = k u → v = u)
    (h : ∀ (h' : Heap) (d : Addr) (out : List Value), Srtd (fun v u => ltS (k v) (k u)) out → Stb (fun v u => ltS (k v) (k u)) out vs → (∀ b o, s.heap.get? b = some o → h'.get? b = some o) → s.heap.objs.size ≤ d → (∃ n, h'.get? d = some (seqObj "list" out.toArray n)) → Q (.ref d) { s with heap := h' }) :
    wpAny (model prog w) A (call (.builtin "sorted") [.ref l]) Q E s := by
  refine sorted_ord (swo_by k) hl hz (fun h2 h₁ a ha kk => ?_) fun out hs hb => ?_
  · refine tx_sortableO (s := { s with heap := h₁ }) (by omega) (fun v hm => (hp v hm).keeps fun b o e _ => (kk b o e).2) hu fun o e => ?_
    have e' : some o = some (seqObj "list" vs.toArray 0) := e.symm.trans ha
    cases e'
    intro c
    exact absurd (Value.type.inj c) (by decide)
  · exact h _ _ out hs hb (fun b o e => sortedAll_old e) (Nat.le_succ _) (sortedAll_at s.heap vs out.toArray)
end
end SrtX
namespace L2
open PySem PySem.Spec PyProof.Rows
/-- sorted(xs), xs a list of tuples with a text first, no such text twice: a new list, ascending by these texts -/
def rSortedTx (K : PySem.W.Frag) : List V → Hp → VK → Prop := fun vs H Q => ∃ (a : Addr) (xs : List V) (k : V → Str), vs = [V.ref a] ∧ SqL K H a xs ∧ (∀ x ∈ xs, ∃ t r, x = V.ref t ∧ SqT K H t (V.str (k x) :: r)) ∧ (∀ x ∈ xs, ∀ y ∈ xs, k x = k y → x = y) ∧
  ∀ ys p, ys.Perm xs → ys.Pairwise (fun x y => SrtX.ltS (k y) (k x) = false) → H p = none → Q (.ref p) (upd H p (.lst ys))
section
variable {X : Cx}
theorem cr_sortedTx : CallR X (.builtin "sorted") (rSortedTx X.K) := by
  intro pins s σ H vs us Q I r h
  obtain ⟨a, xs, k, rfl, hs, hx, hu, q⟩ := h
  obtain ⟨its, rv, hl, hz⟩ := I.list hs
  obtain ⟨u, rfl, ru⟩ := vals1 r
  obtain rfl : u = Value.ref a := ru
  obtain ⟨e1, e2⟩ := refs_back rv fun x m => by
    obtain ⟨t, _, e, _⟩ := hx x m
    exact ⟨t, e⟩
  refine SrtX.sorted_txO (k := fun u => k (backV u)) hl.isList (by rw [← rv.length]; exact hz) (fun v hv => ?_) (fun v hv u hu2 e => ?_) fun h' d out h1 h2 kp hd hn => ?_
  · obtain ⟨t, rfl⟩ := e2 v hv
    have hm : V.ref t ∈ xs := by rw [e1]; exact List.mem_map.mpr ⟨_, hv, rfl⟩
    obtain ⟨t', r', e, ht⟩ := hx _ hm
    cases e
    obtain ⟨its2, r2, ⟨o, ho, hc, n, hd⟩, _⟩ := I.tuple ht
    cases r2 with
    | cons h1 h2 =>
      obtain ⟨tk, rfl⟩ := h1
      exact ⟨t, o, tk, _, n, rfl, ho, hc, hd⟩
  · obtain ⟨t, rfl⟩ := e2 v hv
    obtain ⟨t', rfl⟩ := e2 u hu2
    have hm : V.ref t ∈ xs := by rw [e1]; exact List.mem_map.mpr ⟨_, hv, rfl⟩
    have hm' : V.ref t' ∈ xs := by rw [e1]; exact List.mem_map.mpr ⟨_, hu2, rfl⟩
    cases hu _ hm _ hm' e
    rfl
  · have h3 : ∀ u ∈ out, ∃ a, u = Value.ref a := fun u hu => e2 u (h2.perm.mem_iff.mp hu)
    obtain ⟨n, hn⟩ := hn
    have hb : SrtO.Stb (fun x y => SrtX.ltS (k x) (k y)) (out.map backV) xs := by
      rw [e1]
      exact SrtO.Stb.map (SrtX.swo_by k) backV h2
    refine ⟨.ref d, upd H d (.lst (out.map backV)), I.laid (t' := s.toks) kp hd ⟨?_, out, n, vals_back h3, hn⟩, rfl, q _ d hb.perm (SrtO.srtd_map h1) (I.hok.fresh hd)⟩
    rw [hb.len]
    exact hz
end
end L2
end
section
set_option Elab.async false
set_option linter.all false
set_option maxRecDepth 100000
set_option maxHeartbeats 4000000
/-! Sets of texts, told by the list of their members (up to order). -/
namespace TxSet
open PySem PySem.Spec PyProof.Rows L2
def keyT (e : Int × Value) : Str := match e.2 with
  | .str k _ => k
  | _ => ⟨#[]⟩
def GoodT (w : World) (e : Int × Value) : Prop := ∃ k t, e = (hashStr w k, Value.str k t)
/-- at a stands a set whose members are L, none twice, in some order -/
def SetT (w : World) (h : Heap) (a : Addr) (L : List Str) : Prop := ∃ o es ep t, h.get? a = some o ∧ o.ExactSet ∧ o.data = .set es ep t ∧ (∀ e ∈ es.toList, GoodT w e) ∧ (es.toList.map keyT).Perm L ∧ L.Nodup ∧
  es.size < scanBound ∧ t.fits es.size = true ∧ Ris t.place.toList ∧ (w.params.followText "set-order" = true ∨ t.led = true)
section
variable {P : Program} {w : World} {h h' : Heap} {a : Addr} {L L' : List Str}
theorem SetT.at (R : SetT w h a L) (k : ∀ o, h.get? a = some o → h'.get? a = some o) : SetT w h' a L := by
  obtain ⟨o, es, ep, t, ho, r⟩ := R
  exact ⟨o, es, ep, t, k o ho, r⟩
theorem SetT.perm (R : SetT w h a L) (p : L.Perm L') : SetT w h a L' := by
  obtain ⟨o, es, ep, t, ho, hx, hd, g, m, nd, r⟩ := R
  exact ⟨o, es, ep, t, ho, hx, hd, g, m.trans p, p.nodup_iff.mp nd, r⟩
theorem elems_good {l : List (Int × Value)} (g : ∀ e ∈ l, GoodT w e) : ElemsOf (strKind P w) l := fun e he => by
  obtain ⟨k, t, rfl⟩ := g e he
  exact ⟨⟨k, strKind_is P w k t, rfl⟩, rfl⟩
theorem is_key {e : Int × Value} (g : GoodT w e) (k : Str) : (strKind P w).is k e.2 = true ↔ keyT e = k := by
  obtain ⟨c, t, rfl⟩ := g
  refine ⟨fun q => ?_, fun q => by rw [← q]; exact strKind_is P w c t⟩
  have q' : Value.isStrOf k (Value.str c t) = true := q
  obtain ⟨u, e⟩ := Value.isStrOf_shape q'
  exact (Value.str.inj e).1
theorem found_iff {l : List (Int × Value)} (g : ∀ e ∈ l, GoodT w e) (k : Str) : (∃ e ∈ l, (strKind P w).is k e.2 = true) ↔ k ∈ l.map keyT := by
  rw [List.mem_map]
  exact ⟨fun ⟨e, he, q⟩ => ⟨e, he, (is_key (g e he) k).1 q⟩, fun ⟨e, he, q⟩ => ⟨e, he, (is_key (g e he) k).2 q⟩⟩
theorem SetT.size_eq (R : SetT w h a L) : ∃ o es ep t, h.get? a = some o ∧ o.ExactSet ∧ o.data = .set es ep t ∧ es.size = L.length ∧ t.fits es.size = true := by
  obtain ⟨o, es, ep, t, ho, hx, hd, g, m, nd, hb, hf, _⟩ := R
  exact ⟨o, es, ep, t, ho, hx, hd, by rw [← Array.length_toList, ← m.length_eq, List.length_map], hf⟩
end
section
variable {P : Program} {w : World} {A : Around} {E : Value → Shared → Prop} {s : Shared} {a : Addr} {L : List Str}
theorem put_at {h : Heap} {o : Obj} {es es' : Array (Int × Value)} {ep : Nat} {t t' : SetTable} (ho : h.get? a = some o) (hd : o.data = .set es ep t) : (h.update a (Obj.putSet es' t')).get? a = some { o with data := .set es' (ep + 1) t' } := by
  have e := putSet_of es' t' hd
  have q := Heap.get?_update_self (Obj.putSet es' t') ho (by rw [e]; rfl)
  rw [e] at q
  exact q
/-- what a set's add does behind the search: the table is stored, laid anew where it is too full -/
theorem store_then {g : Bool → Sem Unit} (hg : ∀ (b : Bool) (s₁ : Shared) (Q' : Unit → Shared → Prop), Q' () s₁ → wpAny (model P w) A (g b) Q' E s₁) {o : Obj} {es es1 : Array (Int × Value)} {ep : Nat} {t t2 : SetTable} {wd : Bool} {L' : List Str} {R : Option Bool → Shared → Prop}
    (ho : s.heap.get? a = some o) (hex : o.ExactSet) (hd : o.data = .set es ep t) (hs : (∀ e ∈ es1.toList, GoodT w e) ∧ (es1.toList.map keyT).Perm L' ∧ L'.Nodup ∧ es1.size < scanBound)
    (ht : t2.fits es1.size = true ∧ Ris t2.place.toList ∧ (w.params.followText "set-order" = true ∨ t2.led = true)) (hR : ∀ h', Heap.SameBut a s.heap h' → SetT w h' a L' → R (some true) { s with heap := h' }) :
    wpAny (model P w) A (do
        storeSet a es1 t2
        if (!wd && t2.tooFull) = true then do
            g (relayAll t2 es1 (SetTable.grown es1.size)).2.2
            storeSet a (relayAll t2 es1 (SetTable.grown es1.size)).1 (relayAll t2 es1 (SetTable.grown es1.size)).2.1
            pure (some true)
          else pure (some true)) R E s := by
  obtain ⟨g1, m1, nd, b1⟩ := hs
  obtain ⟨f1, r1, l1⟩ := ht
  refine wpAny_bind (wpAny_storeSet_of ho hd ?_ (fits_of_scanBound b1))
  have o1 := put_at (es' := es1) (t' := t2) ho hd
  have k1 := Heap.SameBut.update s.heap a (Obj.putSet es1 t2)
  split
  · have p3 := relayAll_perm t2 es1 (SetTable.grown es1.size)
    have f3 := relayAll_fits t2 es1 (SetTable.grown es1.size)
    have r3 := relayAll_ris t2 es1 (SetTable.grown es1.size)
    have l3 := relayAll_led t2 es1 (SetTable.grown es1.size)
    generalize relayAll t2 es1 (SetTable.grown es1.size) = Z at p3 f3 r3 l3 ⊢
    have b3 : Z.1.size < scanBound := by rw [← Array.length_toList, p3.length_eq, Array.length_toList]; exact b1
    refine wpAny_bind (hg _ _ _ (wpAny_bind (wpAny_storeSet_of o1 rfl ?_ (fits_of_scanBound b3))))
    exact wpAny_pure (hR _ (k1.trans (Heap.SameBut.update _ a _)) ⟨_, Z.1, _, Z.2.1, put_at (es' := Z.1) (t' := Z.2.1) o1 rfl, hex, rfl, fun e he => g1 e (p3.mem_iff.mp he), (p3.map keyT).trans m1, nd, b3, f3, r3, l1.imp id fun z => l3.trans z⟩)
  · exact wpAny_pure (hR _ k1 ⟨_, es1, _, t2, o1, hex, rfl, g1, m1, nd, b1, f1, r1, l1⟩)
theorem add_hashed {k : Str} {tk : Tok} {Q : Bool → Shared → Prop} (R : SetT w s.heap a L) (room : L.length + 1 < scanBound)
    (hQ : ∀ h' b, Heap.SameBut a s.heap h' → SetT w h' a (if k ∈ L then L else k :: L) → Q b { s with heap := h' }) : wpAny (model P w) A (setAddHashed a (.str k tk) ((strKind P w).hash k)) Q E s := by
  have R0 := R
  obtain ⟨o, es, ep, t, ho, hex, hd, g, m, nd, hb, hf, hr, hl⟩ := R
  have hel : ElemsOf (strKind P w) es.toList := elems_good g
  have hsc : (Value.str k tk).scannable = true := rfl
  unfold setAddHashed setAddHashedIn
  refine wpAny_holding (wpAny_bind (wpAny_setState_of ho hd hf ?_))
  dsimp only
  rw [byScan_of hsc hb hel]
  simp only [↓reduceIte]
  unfold setAddByScan
  refine wpAny_bind ?_
  refine wpAny_bind (wpAny_rule ?_)
  refine wpAny_bind (wpAny_setScan_of (strKind_is P w k tk) ho hd hf hel ?_)
  cases hfi : List.findIdx? (fun e => (strKind P w).is k e.2) es.toList with
  | some j =>
    dsimp only
    obtain ⟨hj, pj, _⟩ := List.findIdx?_eq_some_iff_getElem.mp hfi
    have hk : k ∈ L := m.mem_iff.mp ((found_iff g k).1 ⟨_, List.getElem_mem hj, pj⟩)
    refine wpAny_pure (wpAny_pure (hQ s.heap _ (Heap.SameBut.refl a s.heap) ?_))
    rw [if_pos hk]
    exact R0
  | none =>
    dsimp only
    have hk : k ∉ L := fun z => by
      obtain ⟨e, he, q⟩ := (found_iff (P := P) g k).2 (m.mem_iff.mpr z)
      exact absurd q (by rw [List.findIdx?_eq_none_iff.mp hfi e he]; exact Bool.false_ne_true)
    rw [if_neg hk] at hQ
    have give : ∀ (b : Bool) {s₁ : Shared} {Q' : Unit → Shared → Prop}, Q' () s₁ → wpAny (model P w) A (match b with | true => rule "set.scan.the-table-gave-way" | false => pure ()) Q' E s₁ := fun b s₁ Q' q => match b with
      | true => wpAny_rule q
      | false => wpAny_pure q
    have p1 := layNew_perm t es ((strKind P w).hash k) (.str k tk)
    have f1 := layNew_fits t es ((strKind P w).hash k) (.str k tk)
    have r1 := layNew_ris t es ((strKind P w).hash k) (.str k tk) hr
    have l1 := layNew_led t es ((strKind P w).hash k) (.str k tk)
    generalize layNew t es ((strKind P w).hash k) (.str k tk) = Z at p1 f1 r1 l1 ⊢
    obtain ⟨es1, t1, wd, gv⟩ := Z
    dsimp only at p1 f1 r1 l1 ⊢
    rw [Array.toList_push] at p1
    have hs : (∀ e ∈ es1.toList, GoodT w e) ∧ (es1.toList.map keyT).Perm (k :: L) ∧ (k :: L).Nodup ∧ es1.size < scanBound := by
      refine ⟨fun e he => ?_, ?_, List.nodup_cons.mpr ⟨hk, nd⟩, ?_⟩
      · rcases List.mem_append.mp (p1.mem_iff.mp he) with z | z
        · exact g e z
        · exact ⟨k, tk, List.mem_singleton.mp z⟩
      · refine (p1.map keyT).trans ?_
        rw [List.map_append]
        exact (List.perm_append_singleton _ _).trans (m.cons _)
      · rw [← Array.length_toList, p1.length_eq, List.length_append, ← List.length_map (f := keyT), m.length_eq]
        exact room
    have ld : w.params.followText "set-order" = true ∨ t1.led = true := hl.imp id fun z => by rw [l1]; exact z
    refine wpAny_bind (give _ ?_)
    split
    · refine wpAny_bind ?_
      rw [hashByValue_scannable 8 hsc]
      refine wpAny_pure (store_then (fun b s₁ Q' q => give b q) ho hex hd hs ⟨?_, ?_, ?_⟩ fun h' sb r => ?_)
      · first | (split <;> first | exact f1 | exact SetTable.fits_plain_off f1) | exact f1
      · first | (split <;> exact r1) | exact r1
      · first | (split <;> exact ld) | exact ld
      · dsimp only
        exact wpAny_pure (hQ h' _ sb r)
    · refine wpAny_bind (wpAny_pure ?_)
      simp only [↓reduceIte]
      refine store_then (fun b s₁ Q' q => give b q) ho hex hd hs ⟨f1, r1, ld⟩ fun h' sb r => ?_
      dsimp only
      exact wpAny_pure (hQ h' _ sb r)
/-- a.add(k) -/
theorem add_ok {k : Str} {tk : Tok} {Q : Value → Shared → Prop} (R : SetT w s.heap a L) (room : L.length + 1 < scanBound)
    (hQ : ∀ h', Heap.SameBut a s.heap h' → SetT w h' a (if k ∈ L then L else k :: L) → Q .none { s with heap := h', toks := s.toks + 1 }) : wpAny (model P w) A (call (.builtin "set.add") [.ref a, .str k tk]) Q E s := by
  have hT : s.TypeIs (.ref a) "set" := by
    obtain ⟨o, es, ep, t, ho, hex, _⟩ := R
    exact ⟨o, ho, hex.1⟩
  refine wpAny_call_entry F.slot_set_add hT F.entry_set_add ?_ (F.args_set_add_2 _ _)
  unfold Builtin.«set.add» Builtin.Frozenset.oneOther
  simp only [List.isEmpty_nil, bind_assoc]
  unfold Builtin.Frozenset.addrOf setAdd
  refine wpAny_bind (wpAny_pure ?_)
  try dsimp only
  refine wpAny_bind (wpAny_pure ?_)
  try dsimp only
  refine wpAny_bind (wpAny_holding (wpAny_bind ((strKind P w).pyHash (strKind_is P w k tk) ?_)))
  refine add_hashed (s := { s with toks := s.toks + 1 }) R room fun h' b sb r => ?_
  show wpAny _ _ (ret Value.none) _ _ _
  exact wpAny_pure ⟨_, rfl, hQ h' sb r⟩
theorem fresh_set {h : Heap} (w : World) : SetT w (h.push { cls := .type "set", dict := none, data := .set #[] 0 (.fresh 0 0 (!w.params.followText "set-order")) }) h.objs.size [] := by
  refine ⟨_, #[], 0, _, Heap.get?_push_size _ rfl, ⟨rfl, rfl, rfl⟩, rfl, fun e he => by simp at he, List.Perm.refl _, List.nodup_nil, by decide, by rfl, List.Pairwise.nil, ?_⟩
  cases e : w.params.followText "set-order" with
  | true => exact Or.inl rfl
  | false => exact Or.inr rfl
end
end TxSet
end
section
set_option Elab.async false
set_option linter.all false
set_option maxRecDepth 100000
set_option maxHeartbeats 4000000
namespace TxSet
open PySem PySem.Spec PyProof.Rows L2
/-- one member more -/
def addL (L : List Str) (k : Str) : List Str := if k ∈ L then L else k :: L
theorem addL_mem {L : List Str} {k j : Str} : j ∈ addL L k ↔ j ∈ L ∨ j = k := by
  unfold addL
  split
  · rename_i h
    exact ⟨Or.inl, fun z => z.elim id fun e => by rw [e]; exact h⟩
  · rw [List.mem_cons]
    exact Or.comm
theorem addL_len (L : List Str) (k : Str) : (addL L k).length ≤ L.length + 1 := by
  unfold addL
  split <;> simp
theorem fold_mem {j : Str} : ∀ {ks L : List Str}, j ∈ ks.foldl addL L ↔ j ∈ L ∨ j ∈ ks
  | [], L => by simp
  | k :: ks, L => by
    rw [List.foldl_cons, fold_mem, addL_mem, List.mem_cons, or_assoc]
theorem fold_fresh : ∀ {ks L : List Str}, (ks ++ L).Nodup → (ks.foldl addL L).length = ks.length + L.length
  | [], L, _ => by simp
  | k :: ks, L, h => by
    rw [List.cons_append, List.nodup_cons] at h
    have hk : k ∉ L := fun z => h.1 (List.mem_append_right _ z)
    have e : addL L k = k :: L := if_neg hk
    rw [List.foldl_cons, e, fold_fresh]
    · simp only [List.length_cons]
      omega
    · refine (List.perm_middle.nodup_iff).mpr ?_
      exact List.nodup_cons.mpr h
section
variable {P : Program} {w : World} {A : Around} {E : Value → Shared → Prop} {s : Shared} {a : Addr} {L : List Str}
/-- set.update's own loop over texts -/
theorem update_txt {I S : Addr} {fp wr : List Addr} {G : Array GenState → Array GenState → Prop} {n : Nat} {Pv : Nat → Value → Prop} {St : Nat → Shared → Prop} {R : Result → Shared → Prop} {ks : List Str}
    (W : WalksS P w A.in1 I fp wr G n Pv St) (hSf : S ∉ fp) (hn : n = ks.length) (hb : n + 1 < scanBound) (hval : ∀ i v, Pv i v → ∃ k t, ks[i]? = some k ∧ v = .str k t) :
    ∀ (m i : Nat) (L : List Str) (s : Shared), n - i = m → i ≤ n → L.length ≤ i → St i s → SetT w s.heap S L → (∀ s', Moved (S :: wr) G s s' → SetT w s'.heap S ((ks.drop i).foldl addL L) → R (.ok (.ret .none)) s') →
      codeAny (model P w) A (.builtin "set.update.loop" ⟨[.ref S, .ref I], []⟩) R s := by
  have nw : S ∉ wr := fun h => hSf (W.sub _ h)
  have up : ∀ b ∈ wr, b ∈ S :: wr := fun b hb => List.mem_cons_of_mem _ hb
  intro m
  induction m with
  | zero =>
    intro i L s hm hi hl hst hS hR
    have ei : i = n := by omega
    refine codeAny_builtin F.entry_set_update_loop ?_
    rw [Around.under_plainId F.plain_set_update_loop _]
    show wpAny _ A.in1 (pyNext (.ref I) >>= _) _ _ s
    rw [ei] at hst hR
    refine wpAny_bind (W.done s _ _ hst fun s' mv => ?_)
    show wpAny _ A.in1 (ret Value.none) _ _ s'
    refine wpAny_pure (hR s' (mv.mono up) ?_)
    rw [List.drop_of_length_le (by omega)]
    exact hS.at fun o e => mv.heap S o nw e
  | succ m ih =>
    intro i L s hm hi hl hst hS hR
    have lt : i < n := by omega
    refine codeAny_builtin F.entry_set_update_loop ?_
    rw [Around.under_plainId F.plain_set_update_loop _]
    show wpAny _ A.in1 (pyNext (.ref I) >>= _) _ _ s
    refine wpAny_bind (W.item i s _ _ lt hst fun v s' hP hst' mv => ?_)
    obtain ⟨k, t, hk, rfl⟩ := hval i v hP
    have hS' : SetT w s'.heap S L := hS.at fun o e => mv.heap S o nw e
    show wpAny _ A.in1 (holding [Value.str k t] (setAdd S (.str k t)) >>= _) _ _ s'
    unfold setAdd
    refine wpAny_bind (wpAny_holding (wpAny_holding (wpAny_bind ((strKind P w).pyHash (strKind_is P w k t) ?_))))
    refine add_hashed (s := { s' with toks := s'.toks + 1 }) hS' (by omega) fun h' b sb h2 => ?_
    have e : ks.drop i = k :: ks.drop (i + 1) := by
      obtain ⟨h1, h3⟩ := List.getElem?_eq_some_iff.mp hk
      rw [← h3]
      exact List.drop_eq_getElem_cons h1
    rw [e, List.foldl_cons] at hR
    have oth : ∀ b o, b ≠ S → s'.heap.get? b = some o → h'.get? b = some o := fun b o hb e => (sb.2 b hb).trans e
    refine wpAny_pure ⟨plainId_quiet F.plain_set_update_loop _, ih (i + 1) (addL L k) _ (by omega) lt (by have := addL_len L k; omega) (W.frame _ s' _ _ hst' (Nat.le_succ _) fun b hb o e => oth b o (fun z => hSf (by rw [← z]; exact hb)) e) h2 fun s2 m2 z => hR s2 ?_ z⟩
    exact Moved.trans W.gtrans ((mv.mono up).then_heap (Nat.le_succ _) fun b o hb e => oth b o (fun z => hb (by rw [z]; exact List.mem_cons_self)) e) m2
abbrev freshO (w : World) : Obj := { cls := .type "set", dict := none, data := .set #[] 0 (.fresh 0 0 (!w.params.followText "set-order")) }
/-- set(xs), a list of texts -/
theorem call_set_txt {l : Addr} {items : Array Value} {ks : List Str} {Q : Value → Shared → Prop} (hh : A.handled = none) (hl : s.heap.IsList l items) (hz : items.size = ks.length) (hit : ∀ (i : Nat) (v : Value), items[i]? = some v → ∃ k t, ks[i]? = some k ∧ v = Value.str k t) (hb : ks.length + 1 < scanBound)
    (h : ∀ (h' : Heap) (tk : Nat), SetT w h' s.heap.objs.size (ks.foldl addL []) → (∀ b o, s.heap.get? b = some o → h'.get? b = some o) → Q (.ref s.heap.objs.size) { s with heap := h', toks := tk }) : wpAny (model P w) A (call (.type "set") [.ref l]) Q E s := by
  obtain ⟨c, tl, hmro⟩ := F.called_set.mro
  have hmade := F.called_set.made
  have hsub := F.called_set.sub
  refine wpAny_call (codeAny_of_tree ?_)
  show wpAny _ _ (callAny (.type "set") _) _ _ _
  refine wpAny_pure ⟨Code.quiet_builtin _ (by decide +kernel), codeAny_builtin F.entry_type_call ?_⟩
  rw [Around.under_plain (weight_type_call_type "set" [.ref l] []) rfl]
  have h1 := F.called_set.notType
  have h2 := F.called_set.canCreate
  have hct := F.typeCall_set_1 (.ref l)
  repeat (any_goals (first | assumption | wp_step))
  refine codeAny_mono (code_set_led1 (.ref l) (E := E) (Q₁ := fun obj s₁ => obj = .ref s.heap.objs.size ∧ s₁ = { s with heap := s.heap.push (freshO w) }) ⟨rfl, rfl⟩) fun r s₁ hr => ?_
  rcases r with e | (obj | _ | _ | _) <;> first | exact hr | exact hr.elim | skip
  obtain ⟨rfl, rfl⟩ := hr
  have hS : (s.heap.push (freshO w)).get? s.heap.objs.size = some (freshO w) := Heap.get?_push_size _ rfl
  have hT : Shared.TypeIs { s with heap := s.heap.push (freshO w) } (.ref s.heap.objs.size) "set" := ⟨_, hS, rfl⟩
  have hli := F.called_set.init.lookup
  have hbi := F.called_set.init.bind (.ref s.heap.objs.size)
  repeat (any_goals (first | assumption | wp_step))
  refine codeAny_mono (codeAny_call_builtin (R := wants (fun r s₂ => r = .none ∧ ∃ h' tk, s₂ = { s with heap := h', toks := tk } ∧ SetT w h' s.heap.objs.size (ks.foldl addL []) ∧ (∀ b o, s.heap.get? b = some o → h'.get? b = some o)) E) F.called_set.init.plain F.entry_set_init (check_set_init_1 hT ?_)) fun r₂ s₂ hr₂ => ?_
  · obtain ⟨ol, hol, hcl, nl, hdl⟩ := hl
    obtain ⟨ocls, odict, odata, oslots⟩ := ol
    simp only at hcl hdl
    subst hcl hdl
    have hol' : (s.heap.push (freshO w)).get? l = some { cls := .type "list", dict := odict, data := .seq items nl, slots := oslots } := Heap.get?_push_of_some _ hol
    have hsls := F.sub_list_set
    have hslf := F.sub_list_frozenset
    have hne : (Value.type "list" == Value.type "dict") = false := by decide
    have hl1 : (s.heap.push (freshO w)).IsList l items := ⟨_, hol', rfl, nl, rfl⟩
    unfold Builtin.«set.__init__» noKeywords Builtin.Frozenset.updateFrom
    generalize hPI : pyIter = PI
    wp_walk
    subst hPI
    refine wpAny_pyIter_list hl1 (wpAny_bind (wpAny_runValue ?_))
    have hh3 : A.in1.in1.in1.handled = none := by simp [hh]
    have hz1 : (s.heap.push (freshO w)).objs.size = s.heap.objs.size + 1 := Heap.size_push ..
    have ll : l < s.heap.objs.size := Heap.lt_size hol
    have hneI : l ≠ (s.heap.push (freshO w)).objs.size := fun z => Nat.ne_of_lt (Nat.lt_succ_of_lt ll) (z.trans hz1)
    have hSf : s.heap.objs.size ∉ [(s.heap.push (freshO w)).objs.size, l] := fun z => by
      rcases List.mem_cons.mp z with z | z
      · exact Nat.ne_of_lt (Nat.lt_succ_self _) (z.trans hz1)
      · exact Nat.ne_of_gt ll (List.mem_singleton.mp z)
    refine update_txt ((Walks.list hh3 _ l hneI items).toS) hSf hz (by omega) hit (items.size - 0) 0 [] _ (by omega) (Nat.zero_le _) (Nat.le_refl _) ⟨⟨_, Heap.get?_push_size _ rfl, rfl, rfl⟩, (hl1.push _)⟩ ?hS0 ?hR
    case hS0 => exact (fresh_set w).at fun o e => Heap.get?_push_of_some _ e
    case hR =>
      intro s' mv z
      obtain ⟨h', g2, d', tk', os'⟩ := s'
      obtain rfl : g2 = s.gens := mv.gens
      obtain rfl : d' = s.drawn := mv.drawn
      obtain rfl : os' = s.os := mv.os
      show wpAny _ _ _ _ _ _
      refine wpAny_pure ?_
      show wpAny _ _ (ret Value.none) _ _ _
      refine wpAny_pure ⟨rfl, h', tk', rfl, z, fun b o e => ?_⟩
      have lb := Heap.lt_size e
      refine mv.heap b o (fun z => ?_) (Heap.get?_push_of_some _ (Heap.get?_push_of_some _ e))
      rcases List.mem_cons.mp z with z | z
      · exact Nat.ne_of_lt lb z
      · exact Nat.ne_of_lt (Nat.lt_succ_of_lt lb) ((List.mem_singleton.mp z).trans hz1)
  · rcases r₂ with e | (r | _ | _ | _) <;> first | exact hr₂ | exact hr₂.elim | skip
    obtain ⟨rfl, h', tk, rfl, z, k⟩ := hr₂
    repeat (any_goals (first | assumption | wp_step))
    exact h _ _ z k
end
end TxSet
namespace SrtX
open PySem PyProof.Rows Srt
open SrtO hiding Str
section
variable {prog : Program} {w : World} {A : Around} {E : Value → Shared → Prop} {s : Shared}
abbrev tx (v : Value) : Str := TxSet.keyT (0, v)
theorem txt_cmp {vs : List Value} (hI : ∀ v ∈ vs, ∃ k t, v = Value.str k t) : Cmp prog w A s oneType' (fun p => p.1 ∈ vs) (lt2 fun v u => ltS (tx v) (tx u)) := by
  intro p q hm hm'
  obtain ⟨a, t, e⟩ := hI _ hm
  obtain ⟨b, u, e'⟩ := hI _ hm'
  show wpAny (model prog w) A (keyLt' oneType' p.1 q.1) (fun r s' => s' = s ∧ r = ltS (tx p.1) (tx q.1)) (fun _ _ => False) s
  rw [e, e', keyLt'_oneType]
  exact oneLt_str ⟨rfl, rfl⟩
theorem strs_of : ∀ {vs : List Value}, (∀ v ∈ vs, ∃ k t, v = Value.str k t) → StrsAre vs (vs.map tx)
  | [], _ => .nil
  | v :: vs, h => by
    obtain ⟨k, t, e⟩ := h v List.mem_cons_self
    subst e
    exact .cons k t (strs_of fun u hu => h u (List.mem_cons_of_mem _ hu))
theorem txt_sortable {a : Addr} {vs : List Value} (hI : ∀ v ∈ vs, ∃ k t, v = Value.str k t) (h2 : 2 ≤ vs.length) : SortableO prog w A s a vs fun v u => ltS (tx v) (tx u) := by
  intro h' _
  refine ⟨oneType', fun Q E hq => ?_, txt_cmp hI⟩
  match vs, hI, h2 with
  | v1 :: v2 :: rest, hI, _ =>
    rw [keyKind_strs (strs_of hI)]
    exact wpAny_pure hq
  | [], _, h => exact absurd h (by decide)
  | [v], _, h => exact absurd h (by simp)
end
end SrtX
end
section
set_option Elab.async false
set_option linter.all false
set_option maxRecDepth 100000
set_option maxHeartbeats 4000000
namespace TxSet
open PySem PySem.Spec PyProof.Rows L2
theorem fits_scan {n : Nat} (h : n < scanBound) : n ≤ sizeLine := fits_of_scanBound h
end TxSet
namespace SrtX
open PySem PyProof.Rows Srt
open SrtO hiding Str
/-- ascending texts -/
abbrev Asc (l : List Str) : Prop := l.Pairwise fun x y => ltS y x = false
section
variable {P : Program} {w : World} {A : Around} {E : Value → Shared → Prop} {s : Shared} {a : Addr} {L : List Str}
/-- sorted(s) of a set of texts -/
theorem sorted_set_txt {Q : Value → Shared → Prop} (R : TxSet.SetT w s.heap a L) (hh : A.handled = none)
    (hQ : ∀ s' p (out : List Value) (c : Nat), (∀ b o, s.heap.get? b = some o → s'.heap.get? b = some o) → s'.gens = s.gens → s'.os = s.os → s.heap.objs.size ≤ p → s'.heap.get? p = some (seqObj "list" out.toArray c) →
      (∀ v ∈ out, ∃ k t, v = Value.str k t) → (out.map tx).Perm L → Asc (out.map tx) → Q (.ref p) s') : wpAny (model P w) A (call (.builtin "sorted") [.ref a]) Q E s := by
  obtain ⟨o, es, ep, t, ho, hex, hd, g, m, nd, hb, hf, hr, hl⟩ := R
  refine Calls.call_function_entry kind_sorted plain_sorted entry_sorted (args_sorted1 _) ?_
  unfold Builtin.«sorted»
  refine wpAny_bind (m := checkCount "sorted" 1 1 _) (wpAny_pure (wpAny_bind (L2.collect_set (A := A.in1) hh ⟨o, ho, hex.1, hd⟩ hf hb hr hl fun s1 vs k1 hz g1 o1 pm => ?_)))
  have hlen : vs.length ≤ sizeLine := by
    rw [pm.length_eq, List.length_map, Array.length_toList]
    exact TxSet.fits_scan hb
  have hI : ∀ v ∈ vs, ∃ k t, v = Value.str k t := fun v hv => by
    obtain ⟨e, he, q⟩ := List.mem_map.mp (pm.mem_iff.mp hv)
    obtain ⟨k, t, rfl⟩ := g e he
    exact ⟨k, t, q.symm⟩
  have pk : (vs.map tx).Perm L := by
    have q := pm.map tx
    rw [List.map_map] at q
    exact q.trans m
  refine wpAny_bind (wpAny_newList ?_ hlen)
  have hoL : (s1.heap.push (seqObj "list" vs.toArray 0)).get? s1.heap.objs.size = some (seqObj "list" vs.toArray 0) := Heap.get?_push_size _ rfl
  refine wpAny_bind (wpAny_holding (wpAny_call_entry slot_list_sort ⟨_, hoL, rfl⟩ entry_list_sort (list_sort_ord (swo_by tx) hoL hlen (fun h2 => txt_sortable hI h2) fun out hs hbt => ⟨_, rfl, ?_⟩) (args_list_sort _)))
  obtain ⟨c, hc⟩ := sortedHeap_at (vs := vs) (out := out.toArray) hoL
  refine wpAny_pure ⟨_, rfl, hQ _ s1.heap.objs.size out c (fun b u e => ?_) g1 o1 hz hc (fun v hv => hI v (hbt.perm.mem_iff.mp hv)) ((hbt.perm.map tx).trans pk) (SrtO.srtd_map hs)⟩
  have q := k1 b u e
  have lt := Heap.lt_size q
  show (sortedHeap (s1.heap.push (seqObj "list" vs.toArray 0)) s1.heap.objs.size vs out.toArray).get? b = some u
  rw [sortedHeap_old (Nat.ne_of_lt lt) (by rw [size_push']; exact Nat.lt_succ_of_lt lt)]
  exact Heap.get?_push_of_some _ q
end
end SrtX
namespace L2
open PySem PySem.Spec PyProof.Rows
/-- the set at a has the members L -/
def SetX (w : World) (a : Addr) (L : List Str) : HO := .ext fun h => TxSet.SetT w h a L
theorem setX_new {w : World} {P : Program} {H : Hp} {h : Heap} {a : Addr} {L : List Str} (R : TxSet.SetT w h a L) : ObjOk P w H h a (SetX w a L) := by
  have ⟨o, _, _, _, ho, _⟩ := R
  exact ⟨R, ⟨o, ho⟩, fun h1 h2 p k => TxSet.SetT.at p k⟩
section
variable {X : Cx}
theorem setX_get {pins : List (Addr × Obj)} {σ : St} {H : Hp} {s : Shared} {a : Addr} {L : List Str} (I : Inv X pins σ H s) (ha : H a = some (SetX X.w a L)) : TxSet.SetT X.w s.heap a L := (I.hok a _ ha).1
/-- set(xs), a list of texts -/
def rSetX (K : PySem.W.Frag) (w : World) : List V → Hp → VK → Prop := fun vs H Q => ∃ (a : Addr) (ks : List Str), vs = [.ref a] ∧ SqL K H a (ks.map V.str) ∧ ks.length + 1 < scanBound ∧ ∀ p, H p = none → Q (.ref p) (upd H p (SetX w p (ks.foldl TxSet.addL [])))
theorem cr_setX (hc : X.calm = true) : CallR X (.type "set") (rSetX X.K X.w) := by
  intro pins s σ H vs us Q I r h
  obtain ⟨a, ks, rfl, hs, hb, q⟩ := h
  obtain ⟨its, rv, hl, hz⟩ := I.list hs
  rw [Vals.ref1 r]
  refine TxSet.call_set_txt (ks := ks) (I.ok.hd hc) hl.isList (by rw [List.size_toArray, ← rv.length, List.length_map]) (fun i v e => ?_) hb fun h' tk z k => ?_
  · rw [List.getElem?_toArray] at e
    cases e2 : ks[i]? with
    | none =>
      have e3 := rv.none_of (i := i) (by rw [List.getElem?_map, e2]; rfl)
      rw [e] at e3
      cases e3
    | some k =>
      obtain ⟨u, hu, ru⟩ := rv.get (i := i) (x := V.str k) (by rw [List.getElem?_map, e2]; rfl)
      rw [e] at hu
      cases hu
      obtain ⟨t, e⟩ := ru
      exact ⟨k, t, rfl, e⟩
  · exact ⟨.ref _, upd H s.heap.objs.size (SetX X.w s.heap.objs.size (ks.foldl TxSet.addL [])), I.laid (t' := tk) k (Nat.le_refl _) (setX_new z), rfl, q _ (I.hok.fresh (Nat.le_refl _))⟩
/-- len(s) -/
def rLenX (w : World) : List V → Hp → VK → Prop := fun vs H Q => ∃ a L, vs = [.ref a] ∧ H a = some (SetX w a L) ∧ L.length < scanBound ∧ Q (.int (L.length : Nat)) H
theorem cr_lenX : CallR X (.builtin "len") (rLenX X.w) := by
  intro pins s σ H vs us Q I r h
  obtain ⟨a, L, rfl, ha, hb, q⟩ := h
  rw [Vals.ref1 r]
  obtain ⟨o, es, ep, t, ho, hex, hd, hn, hf⟩ := (setX_get I ha).size_eq
  refine call_len_set ho hex hd hf (by rw [hn]; unfold scanBound at hb; omega) ⟨.int (L.length : Nat), H, I.tok _, ⟨_, by rw [hn]⟩, q⟩
/-- sorted(s) -/
def rSortedX (w : World) : List V → Hp → VK → Prop := fun vs H Q => ∃ (a : Addr) (L : List Str), vs = [.ref a] ∧ H a = some (SetX w a L) ∧ L.length ≤ sizeLine ∧ ∀ (ys : List Str) (p : Addr), ys.Perm L → SrtX.Asc ys → H p = none → Q (.ref p) (upd H p (.lst (ys.map V.str)))
theorem cr_sortedX (hc : X.calm = true) : CallR X (.builtin "sorted") (rSortedX X.w) := by
  intro pins s σ H vs us Q I r h
  obtain ⟨a, L, rfl, ha, hb, q⟩ := h
  rw [Vals.ref1 r]
  refine SrtX.sorted_set_txt (setX_get I ha) (I.ok.hd hc) fun s' p out c k g o hp hg hI hm hs => ?_
  have hn : H p = none := I.hok.fresh hp
  have vals : ∀ l : List Value, (∀ v ∈ l, ∃ k t, v = Value.str k t) → Vals ((l.map SrtX.tx).map V.str) l := fun l => by
    induction l with
    | nil => exact fun _ => .nil
    | cons v l ih =>
      intro h
      obtain ⟨k, t, e⟩ := h v List.mem_cons_self
      subst e
      exact .cons ⟨t, rfl⟩ (ih fun u hu => h u (List.mem_cons_of_mem _ hu))
  have hlen : ((out.map SrtX.tx).map V.str).length ≤ sizeLine := by
    rw [List.length_map, hm.length_eq]
    exact hb
  have J : Inv X pins σ (upd H p (.lst ((out.map SrtX.tx).map V.str))) { s with heap := s'.heap, gens := s'.gens, drawn := s'.drawn, toks := s'.toks } :=
    I.call (ch := []) (Un.laid k hp hn) (I.hok.laid k hp ⟨hlen, out, c, vals out hI, hg⟩) (by rw [g]; exact I.bare) (fun _ z => nomatch z)
  have e : s' = { s with heap := s'.heap, gens := s'.gens, drawn := s'.drawn, toks := s'.toks } := by
    cases s'
    cases s
    cases o
    rfl
  rw [e]
  exact ⟨.ref p, _, J, rfl, q _ p hm hs hn⟩
end
end L2
end
section
set_option Elab.async false
set_option linter.all false
set_option maxRecDepth 100000
set_option maxHeartbeats 4000000
namespace L2
open PySem PySem.Spec PyProof.Rows PpSet
section
variable {X : Cx} {pins : List (Addr × Obj)} {σ : St} {H : Hp} {s : Shared}
theorem setX_add {E : Value → Shared → Prop} {D : Addr} {L : List Str} {y : Str} {tk : Tok} {Q : Value → Shared → Prop} (I : Inv X pins σ H s) (hD : H D = some (SetX X.w D L)) (room : L.length + 1 < scanBound)
    (h : ∀ s', Inv X pins σ (upd H D (SetX X.w D (TxSet.addL L y))) s' → Q .none s') : wpAny (model X.prog X.w) X.A (call (.builtin "set.add") [.ref D, .str y tk]) Q E s := by
  refine TxSet.add_ok (setX_get I hD) room fun h' sb new => ?_
  have he : ∃ u, h'.get? D = some u := by
    obtain ⟨o, _, _, _, ho, _⟩ := new
    exact ⟨o, ho⟩
  exact h _ (I.write (e := D) (t' := s.toks + 1) (by rw [hD]; trivial) (.inl rfl) (fun b u hb hu => (sb.2 b hb).trans hu) he (setX_new new))
/-- one turn of {elt for tg in ..}: the item is taken, the element put in -/
def tPut (w : World) (te : TE) (D : Addr) (N : Hp → Prop) : St → Hp → Prop := fun σ H => te σ H fun y H4 => ∃ (k : Str) (L : List Str), y = .str k ∧ H4 D = some (SetX w D L) ∧ L.length + 1 < scanBound ∧ N (upd H4 D (SetX w D (TxSet.addL L k)))
/-- {elt for tg in iter if ..}, elt a text -/
def tScX (w : World) (wi : TI) (g : TG) (tt : TT) (te : TE) (vs : List Nat) : TE := fun σ H Q => wi σ H fun J H1 => ∀ D, H1 D = none → ∃ W : Nat → Nat → Hp → Prop, (∃ m, W 0 m (upd H1 D (SetX w D []))) ∧ ∀ i m H, W i m H →
  (J.stop i H ∧ Q (.ref D) H) ∨ (J.go i H ∧ ∃ N : Hp → Prop, (∀ H', N H' → ∃ m', m' < m ∧ W (i + 1) m' H') ∧ ∀ x H', J.yld i H x H' → g x (wipe σ vs) H' fun σ2 H2 => wipe σ2 vs = wipe σ vs ∧ tt σ2 H2 fun b H3 => if b = true then tPut w te D N σ2 H3 else N H3)
variable {elt tg iter : Expr} {ifs : List Expr} {scope : Scope} {own : List (PySem.Str × Nat)} {pos pos' : Pos} {wi : TI} {g : TG} {tt : TT} {te : TE}
theorem scX_core {Q : VK} {use : Option (Value → Sem Unit)} {Qf : Value → Shared → Prop} (hc : X.calm = true) (hN : X.N.Nodup) (I : Inv X pins σ H s) (hi : PI X tg iter wi) (ok : BlkOk X.N X.env.scope scope own)
    (hg : ∀ (s : Shared) (H : Hp) (C : Addr) (cl : List (PySem.Str × Addr)) (fp : List Addr), PG (X.blk s H scope (compEnvC scope cl C X.env) fp) tg g) (ht : ∀ (s : Shared) (H : Hp) (C : Addr) (cl : List (PySem.Str × Addr)) (fp : List Addr), PTs (X.blk s H scope (compEnvC scope cl C X.env) fp) ifs tt)
    (he : ∀ (s : Shared) (H : Hp) (C : Addr) (cl : List (PySem.Str × Addr)) (fp : List Addr), PE (X.blk s H scope (compEnvC scope cl C X.env) fp) elt te) (hs : ∀ x, foldedSetIterable iter X.env x = pure x) (h : tScX X.w wi g tt te (own.map (·.2)) σ H Q)
    (hR : ∀ D C s' m H', Inv X pins σ H' s' → Q (.ref D) H' → s'.heap.Ns C m → FpOk X pins H' C → compPost (model X.prog X.w) X.A X.xe use Qf (.ref D) C (.ok .next) s') :
    wpAny (model X.prog X.w) X.A (comprehension (.SetComp elt [⟨tg, iter, ifs, 0⟩] scope pos) scope X.env pos' (newSet (.type "set")) false (eval iter X.env) use) Qf X.xe s := by
  refine wpAny_comprehension_free (use := use) rfl hs (closure_ok fun y hy e => ?_) ok.kind (fun y hy e => by rw [ok.uniq y hy, e]) (thn (hi.run pins s σ H _ I h) fun xv s1 hx => thn hx fun itv s2 h2 => ?_)
  · rcases ok.free y hy e with k | k
    · exact I.ok.has _ (.inl k)
    · exact I.ok.has _ (.inr k)
  obtain ⟨it, fp, tn, J, H2, e, I2, T, st2, f2, q⟩ := h2
  subst e
  refine newSet_ok (newEnv_comp ?_)
  generalize hD : s2.heap.objs.size = D
  have nD : H2 D = none := I2.hok.fresh (Nat.le_of_eq hD)
  obtain ⟨W, ⟨m0, w0⟩, turn⟩ := q D nD
  generalize hs3 : ({ s2 with heap := s2.heap.push (TxSet.freshO X.w) } : Shared) = s3
  have h3 : s3.heap = s2.heap.push (TxSet.freshO X.w) := by rw [← hs3]
  have I3 : Inv X pins σ (upd H2 D (SetX X.w D [])) s3 := by
    rw [← hs3]
    refine I2.laid (t' := s2.toks) (fun b o e => Heap.get?_push_of_some _ e) (Nat.le_of_eq hD) ?_
    rw [← hD]
    exact setX_new (TxSet.fresh_set X.w)
  have f3 : ∀ b ∈ fp, FpOk X pins (upd H2 D (SetX X.w D [])) b ∧ b < s3.heap.objs.size := fun b hb => by
    obtain ⟨o, e, _⟩ := T.obj _ _ st2 b hb
    have lt := Heap.lt_size e
    have ne : b ≠ D := by rw [← hD]; exact Nat.ne_of_lt lt
    exact ⟨⟨by rw [upd_ne ne]; exact (f2 b hb).1, (f2 b hb).2⟩, by rw [h3, Heap.size_push]; exact Nat.lt_succ_of_lt lt⟩
  have n3 : ∀ b ∈ fp, (upd H2 D (SetX X.w D [])) b = none := fun b hb => (f3 b hb).1.1
  have st3 : tn 0 s3.heap := T.keep _ _ _ st2 fun b _ o e => by rw [h3]; exact Heap.get?_push_of_some _ e
  have I4 := block_start I3 ok hN f3
  show codeAny _ _ (.compStart (.SetComp elt [⟨tg, iter, ifs, 0⟩] scope pos) 0 (.ref it) (.ref D) (compEnvC scope (cellsFrom (s3.heap.objs.size + 1) scope.names (cloFrom X.env.cells scope.names [])) s3.heap.objs.size X.env)) (compPost (model X.prog X.w) X.A X.xe use Qf (.ref D) s3.heap.objs.size) { s3 with heap := pushCells (s3.heap.push { cls := .type "dict", data := .dict #[] }) scope.names }
  have pg := hg s3 (upd H2 D (SetX X.w D [])) s3.heap.objs.size (cellsFrom (s3.heap.objs.size + 1) scope.names (cloFrom X.env.cells scope.names [])) fp
  have pt := ht s3 (upd H2 D (SetX X.w D [])) s3.heap.objs.size (cellsFrom (s3.heap.objs.size + 1) scope.names (cloFrom X.env.cells scope.names [])) fp
  have pe := he s3 (upd H2 D (SetX X.w D [])) s3.heap.objs.size (cellsFrom (s3.heap.objs.size + 1) scope.names (cloFrom X.env.cells scope.names [])) fp
  generalize hce : compEnvC scope (cellsFrom (s3.heap.objs.size + 1) scope.names (cloFrom X.env.cells scope.names [])) s3.heap.objs.size X.env = ce at I4 pg pt pe ⊢
  have cL : ce.locals = s3.heap.objs.size := by subst hce; rfl
  generalize hH3 : upd H2 D (SetX X.w D []) = H3 at I3 I4 pg pt pe w0 n3 f3
  generalize hs4 : ({ s3 with heap := pushCells (s3.heap.push { cls := .type "dict", data := .dict #[] }) scope.names } : Shared) = s4 at I4 ⊢
  have st4 : tn 0 s4.heap := T.keep _ _ _ st3 fun b _ o e => by rw [← hs4]; exact pushCells_keeps _ _ _ _ (Heap.get?_push_of_some _ e)
  have own_fp : ∀ {σ' : St} {H' : Hp} {s' : Shared}, Inv (X.blk s3 H3 scope ce fp) [] σ' H' s' → (∀ b ∈ fp, H' b = none) → ∀ b ∈ fp, FpOk (X.blk s3 H3 scope ce fp) [] H' b := fun {σ' H' s'} J' hn b hb =>
    ⟨hn b hb, (J'.ok.exf b hb).1, J'.ok.exfs b hb, .inl hb, fun x c e => (J'.ok.exf b hb).2 x c e, fun p hp => absurd (show p ∈ ([] : List (Addr × Obj)) ++ [] from hp) (by simp)⟩
  refine codeAny_compStart_set ?loop (T.self X.A 0 _ _ _ st4 ?loop)
  refine compLoopS_any (fun n s' => ∃ i H', Inv (X.blk s3 H3 scope ce fp) [] (wipe σ (own.map (·.2))) H' s' ∧ tn i s'.heap ∧ (∀ b ∈ fp, H' b = none) ∧ W i n H') ?_ m0 ⟨0, H3, I4, st4, n3, w0⟩
  rintro n s5 ⟨i, H5, I5, st5, n5, w5⟩
  rcases turn i n H5 w5 with ⟨stop, qq⟩ | ⟨go, N, hN', step⟩
  · refine thnF (T.done (X.blk s3 H3 scope ce fp) rfl rfl rfl hc i [] s5 _ H5 (fun _ _ => False) I5 (own_fp I5 n5) st5 stop) fun r s6 ⟨hr, I6⟩ => ?_
    subst hr
    have I7 : Inv X pins σ H5 s6 := I3.call' (ch := fp) I6.os I6.base I6.hok I6.bare fun b hb => ⟨(f3 b hb).1.2.2.2.1, (f3 b hb).1.2.1, (f3 b hb).1.2.2.2.2.1, (f3 b hb).1.2.2.2.2.2⟩
    have nC : H5 s3.heap.objs.size = none := by
      have z : H5 ce.locals = none := I6.free
      rw [cL] at z
      exact z
    obtain ⟨m, hn, _⟩ := I6.loc
    have hn : s6.heap.Ns ce.locals m := hn
    rw [cL] at hn
    exact hR D s3.heap.objs.size s6 m H5 I7 qq hn (I3.fpOk (Nat.le_refl _) nC)
  · refine thnF (T.item (X.blk s3 H3 scope ce fp) rfl rfl rfl hc i [] s5 _ H5 (fun _ _ => False) I5 (own_fp I5 n5) st5 go) fun r s6 ⟨u, hr, h6⟩ => ?_
    subst hr
    refine thnF h6 fun _ s7 ⟨x, H7, I7, r7, y7, st7, n7⟩ => ?_
    refine thnF (pg.run _ s7 _ H7 x u _ (I7.pinned (own_fp I7 n7) (T.obj _ _ st7)) r7 (step x H7 y7)) fun _ s8 ⟨σ8, H8, I8, hw8, q8⟩ => ?_
    refine thnF (pt.run _ s8 σ8 H8 _ I8 q8) fun b s9 ⟨H9, I9, q9⟩ => ?_
    have fin : ∀ {s' : Shared} {H' : Hp}, Inv (X.blk s3 H3 scope ce fp) ([] ++ pinsAt fp s7.heap) σ8 H' s' → N H' → ∃ m, m < n ∧ ∃ i H', Inv (X.blk s3 H3 scope ce fp) [] (wipe σ (own.map (·.2))) H' s' ∧ tn i s'.heap ∧ (∀ b ∈ fp, H' b = none) ∧ W i m H' := fun {s' H'} J' nx => by
      obtain ⟨m', hm, w'⟩ := hN' H' nx
      have pin : ∀ b ∈ fp, ∀ o, s7.heap.get? b = some o → s'.heap.get? b = some o ∧ H' b = none := fun b hb o e =>
        let z := J'.pin (b, o) (List.mem_append_right _ (List.mem_append_right _ (mem_pinsAt hb e)))
        ⟨z.1, z.2.1⟩
      refine ⟨m', hm, i + 1, H', (J'.unpinned (pins := [])).weak (by rw [← hw8, wipe_length]) (fun j v e => ?_), T.keep _ _ _ st7 fun b hb o e => (pin b hb o e).1, fun b hb => ?_, w'⟩
      · rw [← hw8] at e
        exact (wipe_some e).1
      · obtain ⟨o, e, _⟩ := T.obj _ _ st7 b hb
        exact (pin b hb o e).2
    cases b with
    | false =>
      simp only [Bool.false_eq_true, if_false] at q9 ⊢
      exact fin I9 q9
    | true =>
      simp only [if_true] at q9 ⊢
      refine thnF (pe.run _ s9 σ8 H9 _ I9 q9) fun z s10 ⟨yv, H10, I10, r10, kb, L0, ey, hD10, hz10, nx⟩ => ?_
      subst ey
      obtain ⟨tk, e⟩ := (show ∃ t, z = Value.str kb t from r10)
      subst e
      exact setX_add (X := X.blk s3 H3 scope ce fp) I10 hD10 hz10 fun s11 I11 => fin I11 nx
theorem pe_scX (hc : X.calm = true) (hN : X.N.Nodup) (hi : PI X tg iter wi) (ok : BlkOk X.N X.env.scope scope own)
    (hg : ∀ (s : Shared) (H : Hp) (C : Addr) (cl : List (PySem.Str × Addr)) (fp : List Addr), PG (X.blk s H scope (compEnvC scope cl C X.env) fp) tg g) (ht : ∀ (s : Shared) (H : Hp) (C : Addr) (cl : List (PySem.Str × Addr)) (fp : List Addr), PTs (X.blk s H scope (compEnvC scope cl C X.env) fp) ifs tt)
    (he : ∀ (s : Shared) (H : Hp) (C : Addr) (cl : List (PySem.Str × Addr)) (fp : List Addr), PE (X.blk s H scope (compEnvC scope cl C X.env) fp) elt te) (hs : ∀ x, foldedSetIterable iter X.env x = pure x := by intro _; rfl) :
    PE X (.SetComp elt [⟨tg, iter, ifs, 0⟩] scope pos) (tScX X.w wi g tt te (own.map (·.2))) := by
  refine ⟨fun pins s σ H Q I h => ?_⟩
  rw [eval_SetComp]
  refine scX_core hc hN I hi ok hg ht he hs h fun D C s' m H' I' q hn f => ⟨m, hn, fun h'' sb => ?_⟩
  obtain ⟨f0, f1, f2, f3, f4, f5⟩ := f
  exact ⟨.ref D, H', I'.turned (t' := s'.toks) (fun b o hb e => (sb.2 b hb).trans e) f0 f1 f3 f4 f5, rfl, q⟩
end
/-- over a list that stays -/
theorem scX_list {w : World} {K : PySem.W.Frag} {a : Addr} {xs : List V} {g : TG} {tt : TT} {te : TE} {vs : List Nat} {σ : St} {H1 : Hp} {D : Addr} {Qd : Hp → Prop} (Pv : Nat → Hp → Prop) (h0 : Pv 0 (upd H1 D (SetX w D []))) (hl : ∀ i H, i ≤ xs.length → Pv i H → SqL K H a xs)
    (hs : ∀ i x H, xs[i]? = some x → Pv i H → g x (wipe σ vs) H fun σ2 H2 => wipe σ2 vs = wipe σ vs ∧ tt σ2 H2 fun b H3 => if b = true then tPut w te D (Pv (i + 1)) σ2 H3 else Pv (i + 1) H3) (hd : ∀ H, Pv xs.length H → Qd H) :
    ∃ W : Nat → Nat → Hp → Prop, (∃ m, W 0 m (upd H1 D (SetX w D []))) ∧ ∀ i m H, W i m H →
      ((Itl K a).stop i H ∧ Qd H) ∨ ((Itl K a).go i H ∧ ∃ N : Hp → Prop, (∀ H', N H' → ∃ m', m' < m ∧ W (i + 1) m' H') ∧ ∀ x H', (Itl K a).yld i H x H' → g x (wipe σ vs) H' fun σ2 H2 => wipe σ2 vs = wipe σ vs ∧ tt σ2 H2 fun b H3 => if b = true then tPut w te D N σ2 H3 else N H3) := by
  refine ⟨fun i m H => m = xs.length - i ∧ i ≤ xs.length ∧ Pv i H, ⟨_, rfl, Nat.zero_le _, h0⟩, ?_⟩
  rintro i m H ⟨rfl, hi, p⟩
  have q := hl i H hi p
  rcases Nat.lt_or_ge i xs.length with lt | ge
  · refine .inr ⟨⟨xs, xs[i], q, by simp [lt]⟩, Pv (i + 1), fun H' p' => ⟨xs.length - (i + 1), by omega, rfl, lt, p'⟩, fun x H' y => ?_⟩
    obtain ⟨e, y⟩ := y
    subst e
    exact hs i x _ (y xs q) p
  · have e : i = xs.length := by omega
    subst e
    exact .inl ⟨⟨xs, q, Nat.le_refl _⟩, hd H p⟩
end L2
end
section
set_option Elab.async false
set_option linter.all false
set_option maxRecDepth 100000
set_option maxHeartbeats 4000000
namespace K2
open PySem PySem.Spec PyProof.Rows L2
/-! ### the text by places -/
def top (i : Nat) : Stmt := PySem.Challenge.pw_gatequarters_k02_quarters_and_towns_kept.main.body.getD i (.Pass ⟨0, 0, 0, 0⟩)
abbrev sCount : Stmt := top 9
abbrev sWhole : Stmt := top 8
abbrev sAreStreets : Stmt := top 13
abbrev sAreGates : Stmt := top 15
abbrev sIsWord : Stmt := top 11
abbrev sIsStreet : Stmt := top 12
abbrev sChkStreets : Stmt := top 14
abbrev sChkGates : Stmt := top 16
abbrev sChkQuarter : Stmt := top 19
abbrev sChkTown : Stmt := top 20
abbrev sEndsOf : Stmt := top 21
abbrev sCrossings : Stmt := top 22
abbrev sStreetOf : Stmt := top 23
abbrev sPlacesOf : Stmt := top 24
abbrev sAskedOf : Stmt := top 25
abbrev sPurse : Stmt := top 27
abbrev sMixed : Stmt := top 28
abbrev sDraw : Stmt := top 29
abbrev sPurses : Stmt := top 30
abbrev sOneOf : Stmt := top 31
abbrev sShuffled : Stmt := top 32
abbrev sExact : Stmt := top 33
abbrev sWord : Stmt := top 34
abbrev sWords : Stmt := top 35
abbrev sWidth : Stmt := top 36
abbrev sLength : Stmt := top 37
abbrev sPair : Stmt := top 38
abbrev sShape : Stmt := top 39
abbrev sStreetsOf : Stmt := top 40
abbrev sWorld : Stmt := top 41
abbrev sQuarter : Stmt := top 42
abbrev sTownWorld : Stmt := top 43
abbrev sEnds : Stmt := top 44
abbrev sSpots : Stmt := top 45
abbrev sQRight : Stmt := top 46
abbrev sTRight : Stmt := top 47
abbrev sOthers : Stmt := top 48
abbrev sUnlike : Stmt := top 49
abbrev sQLaw : Stmt := top 50
abbrev sTurns : Stmt := top 51
abbrev sTLaw : Stmt := top 52
abbrev sGrown : Stmt := top 53
abbrev sLaw : Stmt := top 54
def frees : List Str := ["sum", "int", "max", "min", "len", "range", "isinstance", "list", "dict", "tuple", "all", "bool", "str", "set", "sorted", "zip", "reversed"]
abbrev FnP (K : PySem.W.Frag) (x : Str) (st : Stmt) (f : Addr) (fd : FuncData) : Prop := FunD K x x (defArgs st) (defBody st) (defScope st) [] [] f fd
/-- what the head has told of names -/
structure Tx (K : PySem.W.Frag) (mg : Str → Option Value) : Prop where
  fr : ∀ x ∈ frees, mg x = none
/-- a def of the text that keeps a promise, as it is called -/
def Fz (P : Program) (w : World) (K : PySem.W.Frag) (mg : Str → Option Value) (base : Heap) (x : Str) (k : Nat) (ps : List Str) (sp : Sp) : Prop :=
  ∃ (g : Addr) (fd : FuncData), FnOk P w K mg base CX0 k g fd ps sp ∧ mg x = some (.ref g) ∧ PySem.W.keepIn K (.ref g) = true ∧ Binds K fd ps []
theorem Fz.mono {P : Program} {w : World} {K : PySem.W.Frag} {mg : Str → Option Value} {base : Heap} {x : Str} {j k : Nat} {ps : List Str} {sp : Sp} (Z : Fz P w K mg base x j ps sp) (h : j ≤ k) : Fz P w K mg base x k ps sp := by
  obtain ⟨g, fd, F, r⟩ := Z
  exact ⟨g, fd, F.mono h, r⟩
section
variable {X : Cx} {x : Str} {k : Nat} {ps : List Str} {sp : Sp} {p pos : Pos} {e : Expr} {es : List Expr} {t : TA}
theorem pe_fz (Z : Fz X.prog X.w X.K X.mg X.base x k ps sp) (hr : Room k X.A) (hg : Gl X x) (ha : PA X (e :: es) t) (hdb : (x == ("__debug__" : Str)) = false := by decide)
    (he : starEach (e :: es) X.env = (false, eval e X.env) :: starEach es X.env := by rfl) (hpl : (backTo pos (starEach es X.env)).any (·.1) = false := by rfl) : PE X (.Call (.Name x p) (e :: es) [] pos) (tCall sp [] E0 t) := by
  obtain ⟨g, fd, F, hm, hk, hb⟩ := Z
  exact pe_call F hr hg hm hk hb .nil pass0 ha hdb he hpl
theorem pe_fz0 (Z : Fz X.prog X.w X.K X.mg X.base x k ps sp) (hr : Room k X.A) (hg : Gl X x) (hdb : (x == ("__debug__" : Str)) = false := by decide) : PE X (.Call (.Name x p) [] [] pos) (tCall sp [] E0 tNil) := by
  obtain ⟨g, fd, F, hm, hk, hb⟩ := Z
  exact pe_call0 F hr hg hm hk hb .nil pass0 hdb
end
/-- a statement that is never reached -/
theorem ps_never {X : Cx} {st : Stmt} : PS X st (fun _ _ _ => False) := ⟨fun _ _ _ _ _ _ h => h.elim⟩
end K2
end
section
set_option Elab.async false
set_option linter.all false
set_option maxRecDepth 100000
set_option maxHeartbeats 4000000
namespace K2
open PySem PySem.Spec PyProof.Rows L2
/-! ### numbers -/
section
variable {X : Cx}
theorem op_powB : OpR X (binaryOp .Pow) (rI (fun i j => 0 ≤ j ∧ (Builtin.Int.intBits i : Int) * j ≤ 2 ^ 27) fun i j => .int (i ^ j.toNat)) := opI fun _ _ _ _ _ _ _ hc q => pow_int hc.1 hc.2 q
end
/-- a purse of at most n draws -/
def PuOk (n : Int) (xs : List V) : Prop := ∃ a s t k : Int, xs = [.int a, .int s, .int t, .int k] ∧ 0 ≤ a ∧ 0 ≤ s ∧ s < 2147483629 ∧ 0 ≤ t ∧ t ≤ n ∧ 0 ≤ k ∧ k ≤ 3
theorem PuOk.mono {n m : Int} {xs : List V} (h : PuOk n xs) (l : n ≤ m) : PuOk m xs := by
  obtain ⟨a, s, t, k, e, h1, h2, h3, h4, h5, h6, h7⟩ := h
  exact ⟨a, s, t, k, e, h1, h2, h3, h4, by omega, h6, h7⟩
theorem bits_small {m : Int} (h0 : 0 ≤ m) (h1 : m < 128) : ((Builtin.Int.intBits m : Nat) : Int) / 28 = 0 := by
  obtain ⟨n, rfl⟩ := Int.eq_ofNat_of_zero_le h0
  have hn : n < 128 := by omega
  have key : ∀ n : Fin 128, ((Builtin.Int.intBits ((n.val : Nat) : Int) : Nat) : Int) / 28 = 0 := by decide +kernel
  exact key ⟨n, hn⟩
section
variable {P : Program} {w : World} {K : PySem.W.Frag} {mg : Str → Option Value} {base : Heap}
/-! ### _law_mixed -/
def spMixed : Sp := fun vs H Q _ => ∃ s t k : Int, vs = [.int s, .int t, .int k] ∧ 0 ≤ s ∧ s < 2147483648 ∧ 0 ≤ t ∧ t ≤ 1000000 ∧ 0 ≤ k ∧ k ≤ 3 ∧ ∀ r : Int, Q (.int r) H
theorem scMixed : FnScope ["_law_seed", "_law_turn", "_law_at", "_law_mixed_here"] ["_law_seed", "_law_turn", "_law_at"] (defScope sMixed) := ⟨rfl, rfl, rfl, by decide +kernel, rfl, by decide +kernel, by decide +kernel⟩
theorem ok_mixed {f : Addr} {fd : FuncData} (F : FnP K "_law_mixed" sMixed f fd) (T : Tx K mg) : FnOk P w K mg base CX0 1 f fd ["_law_seed", "_law_turn", "_law_at"] spMixed := by
  refine F.ok scMixed (fun vs H Q E h => ?_) (fun cdv A outer s H vs Q E hr h => ?_)
  · obtain ⟨_, _, _, rfl, _⟩ := h
    rfl
  · obtain ⟨s, t, k, rfl, s0, s1, t0, t1, k0, k1, q⟩ := h
    have gI := T.fr "int" (by decide +kernel)
    refine ⟨_, PSs.nox (pss_cons (ps_set (i := 3) scMixed.nd rfl (Or.inl rfl) (pe_op op_add (pe_op op_mul (pv 0) pe_int) (pe_op op_mul (pe_op op_mul pe_int (pv 1)) (pv 1))))
      (pss_cons (ps_set (i := 3) scMixed.nd rfl (Or.inl rfl) (pe_op op_mod (pe_callTy call_int1 (by rfl) gI (by decide +kernel) (pa_cons (pe_op op_add (pe_op op_add (pv 3) (pe_op op_mul pe_int (pv 2))) (pv 1)) pa_nil)) pe_int))
      (pss_cons (ps_set (i := 3) scMixed.nd rfl (Or.inl rfl) (pe_op op_mod (pe_callTy call_int1 (by rfl) gI (by decide +kernel) (pa_cons (pe_op op_add (pe_op op_mul (pv 3) (pv 3)) pe_int) pa_nil)) pe_int))
      (pss_one (ps_ret (pe_op op_mod (pe_callTy call_int1 (by rfl) gI (by decide +kernel) (pa_cons (pe_op op_mul (pv 3) pe_int) pa_nil)) pe_int)))))), ?_⟩
    have e0 : ∀ {a b : Int}, 0 < b → 0 ≤ a % b ∧ a % b < b := fun h => ⟨Int.emod_nonneg _ (by omega), Int.emod_lt_of_pos _ h⟩
    refine ⟨_, rfl, _, _, rfl, rfl, Or.inr ⟨by decide, by decide⟩, _, rfl, _, _, rfl, rfl, Or.inl ⟨by decide, by decide⟩, _, rfl, _, _, rfl, rfl, Or.inr ⟨by omega, by omega⟩, _, _, rfl, rfl, ?_⟩
    refine ⟨_, rfl, _, rfl, _, _, rfl, rfl, Or.inl ⟨by decide, by decide⟩, _, _, rfl, rfl, _, rfl, _, _, rfl, rfl, Or.inl ⟨_, rfl, _, _, rfl, rfl, (by show (0 : Int) < _; decide), ?_⟩⟩
    generalize hx : (s * 69069 + 104729 * t * t + 7919 * k + t) % 2147483647 = x
    have bx := @e0 (s * 69069 + 104729 * t * t + 7919 * k + t) 2147483647 (by decide)
    rw [hx] at bx
    refine ⟨_, rfl, _, rfl, _, _, rfl, rfl, Or.inl ⟨by omega, by omega⟩, _, _, rfl, rfl, Or.inl ⟨_, rfl, _, _, rfl, rfl, (by show (0 : Int) < _; decide), ?_⟩⟩
    generalize hy : (x * x + 40503) % 2147483629 = y
    have b_y := @e0 (x * x + 40503) 2147483629 (by decide)
    rw [hy] at b_y
    exact ⟨_, rfl, _, _, rfl, rfl, Or.inl ⟨by omega, by omega⟩, Or.inl ⟨_, rfl, _, _, rfl, rfl, (by show (0 : Int) < _; decide), q _⟩⟩

/-! ### _law_draw -/
def spDraw : Sp := fun vs H Q _ => ∃ (p : Addr) (m n : Int) (xs : List V), vs = [.ref p, .int m] ∧ H p = some (.lst xs) ∧ PuOk n xs ∧ n ≤ 900000 ∧ 0 < m ∧ m < 128 ∧
  ∀ (r : Int) (ys : List V), 0 ≤ r → r < m → PuOk (n + 1) ys → Q (.int r) (upd H p (.lst ys))
theorem scDraw : FnScope ["_law_purse_here", "_law_many", "_law_drawn", "_law_found", "_law_piece"] ["_law_purse_here", "_law_many"] (defScope sDraw) := ⟨rfl, rfl, rfl, by decide +kernel, rfl, by decide +kernel, by decide +kernel⟩
theorem ok_draw {f g : Addr} {fd fdM : FuncData} (F : FnP K "_law_draw" sDraw f fd) (FM : FnP K "_law_mixed" sMixed g fdM) (hgM : mg "_law_mixed" = some (.ref g)) (T : Tx K mg) :
    FnOk P w K mg base CX0 2 f fd ["_law_purse_here", "_law_many"] spDraw := by
  have GM : FnOk P w K mg base CX0 1 g fdM ["_law_seed", "_law_turn", "_law_at"] spMixed := ok_mixed FM T
  have bM : Binds K fdM ["_law_seed", "_law_turn", "_law_at"] [] := FM.bindsN fun _ _ _ _ _ _ us hl => match us, hl with | [_, _, _], _ => rfl
  refine F.ok scDraw (fun vs H Q E h => ?_) (fun cdv A outer s H vs Q E hr h => ?_)
  · obtain ⟨_, _, _, _, rfl, _⟩ := h
    rfl
  · obtain ⟨p, m, n, xs, rfl, hp, ⟨a, sd, t, k, rfl, a0, s0, s1, t0, t1, k0, k1⟩, hn, m0, m1, q⟩ := h
    have gI := T.fr "int" (by decide +kernel)
    have gR := T.fr "range" (by decide +kernel)
    refine ⟨_, PSs.nox (pss_cons (ps_if (pt_cmpR op_gt (pe_ix ix_list (pv 0) pe_int (fun _ _ => rfl)) pe_int (nomark _))
        (pss_cons (ps_set (i := 2) scDraw.nd rfl (Or.inl rfl) (pe_op op_mod (pe_callTy call_int1 (by rfl) gI (by decide +kernel) (pa_cons (pe_ix ix_list (pv 0) pe_int (fun _ _ => rfl)) pa_nil)) (pv 1)))
        (pss_cons (ps_asg (pe_op op_fdiv (pe_ix ix_list (pv 0) pe_int (fun _ _ => rfl)) (pv 1)) (pg_sub (pv 0) pe_int set_list))
        (pss_one (ps_ret (pv 2))))) pss_nil)
      (pss_cons (ps_set (i := 3) scDraw.nd rfl (Or.inl rfl) pe_int)
      (pss_cons (ps_for PassesOwn.never rfl (pi_range1 rfl gR (pa_cons (pe_op op_add pe_int (pe_op op_fdiv (pe_bits (pv 1)) pe_int)) pa_nil)) (pg_name (i := 4) scDraw.nd rfl (Or.inl rfl))
        (pss_cons (ps_asg (pe_op op_add (pe_ix ix_list (pv 0) pe_int (fun _ _ => rfl)) pe_int) (pg_sub (pv 0) pe_int set_list))
        (pss_one (ps_set (i := 3) scDraw.nd rfl (Or.inl rfl) (pe_op op_add (pe_op op_mul (pv 3) pe_int)
          (pe_call GM hr rfl hgM FM.kp bM .nil pass0 (pa_cons (pe_ix ix_list (pv 0) pe_int (fun _ _ => rfl)) (pa_cons (pe_ix ix_list (pv 0) pe_int (fun _ _ => rfl)) (pa_cons (pe_ix ix_list (pv 0) pe_int (fun _ _ => rfl)) pa_nil)))))))))
      (pss_one (ps_ret (pe_op op_mod (pe_callTy call_int1 (by rfl) gI (by decide +kernel) (pa_cons (pv 3) pa_nil)) (pv 1))))))), ?_⟩
    have hS : SqL K H p [.int a, .int sd, .int t, .int k] := SqL.of hp
    refine ⟨_, rfl, p, _, 0, _, rfl, rfl, hS, rfl, _, _, rfl, rfl, _, rfl, ?_⟩
    refine ite2 (fun hc => ?_) (fun _ => ?_)
    · refine ⟨_, rfl, p, _, 0, _, rfl, rfl, hS, rfl, Or.inl ⟨_, rfl, _, rfl, _, _, rfl, rfl, m0, ?_⟩⟩
      refine ⟨_, rfl, p, _, 0, _, rfl, rfl, hS, rfl, _, rfl, _, _, rfl, rfl, ⟨m0, by omega⟩, _, rfl, p, _, 0, 0, rfl, rfl, hp, rfl, _, rfl, ?_⟩
      exact q _ _ (Int.emod_nonneg _ (by omega)) (Int.emod_lt_of_pos _ m0) ⟨a / m, sd, t, k, rfl, Int.ediv_nonneg a0 (by omega), s0, s1, t0, by omega, k0, k1⟩
    · refine ⟨_, rfl, _, rfl, _, _, rfl, rfl, ⟨by decide, by decide⟩, _, _, rfl, rfl, 1, ?_, by decide, by decide, ?_⟩
      · rw [bits_small (by omega) m1]
        rfl
      · refine for_range (n := 1) (fun i σ H' => (i = 0 ∧ H' = H ∧ σ = [some (.ref p), some (.int m), none, some (.int 0), none]) ∨ (i = 1 ∧ ∃ r : Int, H' = upd H p (.lst [.int a, .int sd, .int (t + 1), .int k]) ∧ ∃ z, σ = [some (.ref p), some (.int m), none, some (.int r), z]))
          (Or.inl ⟨rfl, rfl, rfl⟩) ?_ ?_
        · rintro i σ H' hi (⟨rfl, rfl, rfl⟩ | ⟨rfl, _⟩)
          · have h2 : upd H' p (.lst [.int a, .int sd, .int (t + 1), .int k]) p = some (.lst [.int a, .int sd, .int (t + 1), .int k]) := upd_same
            have hS2 : SqL K (upd H' p (.lst [.int a, .int sd, .int (t + 1), .int k])) p [.int a, .int sd, .int (t + 1), .int k] := SqL.of h2
            refine ⟨_, rfl, p, _, 2, _, rfl, rfl, hS, rfl, _, _, rfl, rfl, _, rfl, p, _, 2, 2, rfl, rfl, hp, rfl, ?_⟩
            refine ⟨_, rfl, _, _, rfl, rfl, Or.inl ⟨by decide, by decide⟩, _, rfl, p, _, 1, _, rfl, rfl, hS2, rfl, _, rfl, p, _, 2, _, rfl, rfl, hS2, rfl, _, rfl, p, _, 3, _, rfl, rfl, hS2, rfl, ?_⟩
            refine ⟨sd, t + 1, k, rfl, s0, by omega, by omega, by omega, k0, k1, fun r => ⟨_, _, rfl, rfl, ?_⟩⟩
            exact Or.inr ⟨rfl, _, rfl, _, rfl⟩
          · omega
        · rintro σ H' (⟨e, _⟩ | ⟨_, r, rfl, z, rfl⟩)
          · cases e
          · refine ⟨_, rfl, Or.inl ⟨_, rfl, _, rfl, _, _, rfl, rfl, m0, ?_⟩⟩
            exact q _ _ (Int.emod_nonneg _ (by omega)) (Int.emod_lt_of_pos _ m0) ⟨a, sd, t + 1, k, rfl, a0, s0, s1, by omega, by omega, k0, k1⟩
end
end K2
end
section
set_option Elab.async false
set_option linter.all false
set_option maxRecDepth 100000
set_option maxHeartbeats 4000000
namespace K2
open PySem PySem.Spec PyProof.Rows L2
/-! ### texts -/
def one (c : Nat) : Str := ⟨#[c]⟩
theorem str_join_codes : ∀ cs : List Nat, (Str.join (Str.ofString "") (cs.map one)).cps.toList = cs
  | [] => rfl
  | [c] => rfl
  | c :: d :: r => by
    have ih := str_join_codes (d :: r)
    show (((one c).cps ++ (Str.ofString "").cps) ++ (Str.join (Str.ofString "") ((d :: r).map one)).cps).toList = _
    rw [Array.toList_append, Array.toList_append, ih]
    rfl
theorem join_codes (cs : List Nat) : (Txt.join (Str.ofString "") (cs.map one)).cps.toList = cs := by
  have e : Txt.join (Str.ofString "") (cs.map one) = Str.join (Str.ofString "") (cs.map one) := StrLaws.glued_eq_join _ _
  rw [e]
  exact str_join_codes cs
theorem str_length (z : Str) : z.length = z.cps.toList.length := by
  show z.cps.size = z.cps.toList.length
  simp
/-- a word: at most eight small letters -/
def Wd (z : Str) : Prop := 1 ≤ z.cps.toList.length ∧ z.cps.toList.length ≤ 8 ∧ ∀ c ∈ z.cps.toList, 97 ≤ c ∧ c ≤ 122
def abc : Str := "abcdefghijklmnopqrstuvwxyz"
theorem abc_at {r : Int} (h0 : 0 ≤ r) (h1 : r < 26) : abc.cps[r.toNat]? = some (97 + r.toNat) := by
  obtain ⟨n, rfl⟩ := Int.eq_ofNat_of_zero_le h0
  have hn : n < 26 := by omega
  have key : ∀ n : Fin 26, abc.cps[((n.val : Nat) : Int).toNat]? = some (97 + ((n.val : Nat) : Int).toNat) := by decide +kernel
  exact key ⟨n, hn⟩
theorem ones_len : ∀ cs : List Nat, ((cs.map one).map (·.length)).sum = cs.length
  | [] => rfl
  | c :: cs => by
    have ih := ones_len cs
    simp only [List.map_cons, List.sum_cons, List.length_cons, ih]
    show 1 + _ = _
    omega
/-- all that is tracked beside p stays -/
def But (p : Addr) (H H' : Hp) : Prop := ∀ b o, b ≠ p → H b = some o → H' b = some o
section
variable {P : Program} {w : World} {K : PySem.W.Frag} {mg : Str → Option Value} {base : Heap}
/-! ### _law_one_of -/
def spOneOf : Sp := fun vs H Q _ => ∃ (p l : Addr) (n : Int) (xs zs : List V), vs = [.ref p, .ref l] ∧ H p = some (.lst xs) ∧ PuOk n xs ∧ n ≤ 900000 ∧ H l = some (.lst zs) ∧ p ≠ l ∧ 0 < zs.length ∧ zs.length < 128 ∧
  ∀ (j : Nat) (z : V) (ys : List V), zs[j]? = some z → PuOk (n + 1) ys → Q z (upd H p (.lst ys))
theorem scOneOf : FnScope ["_law_purse_here", "_law_some"] ["_law_purse_here", "_law_some"] (defScope sOneOf) := ⟨rfl, rfl, rfl, by decide +kernel, rfl, by decide +kernel, by decide +kernel⟩
theorem ok_oneOf {f g : Addr} {fd fdD : FuncData} (F : FnP K "_law_one_of" sOneOf f fd) (GD : FnOk P w K mg base CX0 2 g fdD ["_law_purse_here", "_law_many"] spDraw) (FD : FnP K "_law_draw" sDraw g fdD) (hgD : mg "_law_draw" = some (.ref g)) (T : Tx K mg) :
    FnOk P w K mg base CX0 3 f fd ["_law_purse_here", "_law_some"] spOneOf := by
  have bD : Binds K fdD ["_law_purse_here", "_law_many"] [] := FD.bindsN fun _ _ _ _ _ _ us hl => match us, hl with | [_, _], _ => rfl
  refine F.ok scOneOf (fun vs H Q E h => ?_) (fun cdv A outer s H vs Q E hr h => ?_)
  · obtain ⟨_, _, _, _, _, rfl, _⟩ := h
    rfl
  · obtain ⟨p, l, n, xs, zs, rfl, hp, hx, hn, hl, npl, l0, l1, q⟩ := h
    have gL := T.fr "len" (by decide +kernel)
    refine ⟨_, PSs.nox (pss_one (ps_ret (pe_ix ix_list (pv 1) (pe_call GD hr rfl hgD FD.kp bD .nil pass0 (pa_cons (pv 0) (pa_cons (pe_callB call_len_seq (by rfl) gL PySem.boot_len (pa_cons (pv 1) pa_nil)) pa_nil))) (fun _ _ => rfl)))), ?_⟩
    refine ⟨_, rfl, _, rfl, _, rfl, l, _, rfl, Or.inl (SqL.of hl), p, _, n, xs, rfl, hp, hx, hn, by omega, by omega, fun r ys r0 r1 hy => ?_⟩
    obtain ⟨j, rfl⟩ := Int.eq_ofNat_of_zero_le r0
    have hj : j < zs.length := by omega
    have e : zs[j]? = some zs[j] := List.getElem?_eq_getElem hj
    exact ⟨l, zs, (j : Nat), zs[j], rfl, rfl, SqL.of (by rw [upd_ne (Ne.symm npl)]; exact hl), atI_nat e, q j _ ys e hy⟩
/-! ### _law_word -/
def spWord : Sp := fun vs H Q _ => ∃ (p : Addr) (n : Int) (xs : List V), vs = [.ref p] ∧ H p = some (.lst xs) ∧ PuOk n xs ∧ n ≤ 800000 ∧
  ∀ (z : Str) (ys : List V) (H' : Hp), Wd z → PuOk (n + 10) ys → But p H H' → H' p = some (.lst ys) → Q (.str z) H'
theorem scWord : FnScope ["_law_purse_here", "_law_size", "_law_turn"] ["_law_purse_here"] (defScope sWord) := ⟨rfl, rfl, rfl, by decide +kernel, rfl, by decide +kernel, by decide +kernel⟩
theorem ok_word {f g : Addr} {fd fdD : FuncData} (F : FnP K "_law_word" sWord f fd) (GD : FnOk P w K mg base CX0 2 g fdD ["_law_purse_here", "_law_many"] spDraw) (FD : FnP K "_law_draw" sDraw g fdD) (hgD : mg "_law_draw" = some (.ref g)) (T : Tx K mg) :
    FnOk P w K mg base CX0 3 f fd ["_law_purse_here"] spWord := by
  have bD : Binds K fdD ["_law_purse_here", "_law_many"] [] := FD.bindsN fun _ _ _ _ _ _ us hl => match us, hl with | [_, _], _ => rfl
  refine F.ok scWord (fun vs H Q E h => ?_) (fun cdv A outer s H vs Q E hr h => ?_)
  · obtain ⟨_, _, _, rfl, _⟩ := h
    rfl
  · obtain ⟨p, n, xs, rfl, hp, hx, hn, q⟩ := h
    have gR := T.fr "range" (by decide +kernel)
    refine ⟨_, PSs.nox (pss_cons (ps_set (i := 1) scWord.nd rfl (Or.inl rfl) (pe_op op_add pe_int (pe_call GD hr rfl hgD FD.kp bD .nil pass0 (pa_cons (pv 0) (pa_cons
        (pe_ifExp (pt_cmpR op_eq (pe_call GD hr rfl hgD FD.kp bD .nil pass0 (pa_cons (pv 0) (pa_cons pe_int pa_nil))) pe_int (nomark _)) pe_int pe_int) pa_nil)))))
      (pss_one (ps_ret (pe_join pe_str (pe_lc (own := [("_law_turn", 2)]) (g := gName 2) (tt := tYes) rfl scWord.nd (pi_range1 rfl gR (pa_cons (pv 1) pa_nil)) (blkOk_by (own := [("_law_turn", 2)]) (N := ["_law_purse_here", "_law_size", "_law_turn"]) (sc := defScope sWord) (by decide +kernel))
        (fun _ _ _ _ _ => pg_name (i := 2) scWord.nd rfl (Or.inl rfl)) (fun _ _ _ _ _ => pts_nil)
        (fun _ _ _ _ _ => pe_item_str pe_str (pe_call GD hr rfl hgD FD.kp bD .nil pass0 (pa_cons (pv 0) (pa_cons pe_int pa_nil))) (fun _ _ => rfl))))))), ?_⟩
    refine ⟨_, rfl, _, rfl, p, 3, n, xs, rfl, hp, hx, by omega, by decide, by decide, fun r1 ys1 a1 b1 hy1 => ⟨rfl, _, rfl, ?_⟩⟩
    refine ite2 (fun _ => ?_) (fun _ => ?_)
    all_goals
      refine ⟨p, _, n + 1, ys1, rfl, upd_same, hy1, by omega, by decide, by decide, fun r2 ys2 a2 b2 hy2 => ?_⟩
      refine ⟨_, _, rfl, rfl, ⟨_, rfl⟩, _, rfl, _, rfl, by omega, by omega, fun D hD => ?_⟩
      have hp2 : upd (upd H p (.lst ys1)) p (.lst ys2) p = some (.lst ys2) := upd_same
      have npD : p ≠ D := ne_of_none hp2 hD
      refine lc_range (lo := 0) (n := (1 + r2).toNat) (fun i H' => ∃ (xs' : List V) (cs : List Nat), H' p = some (.lst xs') ∧ PuOk (n + 2 + (i : Nat)) xs' ∧ cs.length = i ∧ (∀ c ∈ cs, 97 ≤ c ∧ c ≤ 122) ∧ H' D = some (.lst ((cs.map one).map V.str)) ∧ But p H H')
        ⟨ys2, [], by rw [upd_ne npD]; exact hp2, hy2.mono (by omega), rfl, fun c z => absurd z (by simp), upd_same, fun b o nb e => ?_⟩ ?_ ?_
      · have e2 : upd (upd H p (.lst ys1)) p (.lst ys2) b = some o := by rw [upd_ne nb, upd_ne nb]; exact e
        rw [upd_ne (ne_of_none e2 hD)]
        exact e2
      · rintro i H' hi ⟨xs', cs, h1, h2, h3, h4, h5, h6⟩
        refine ⟨rfl, _, rfl, p, 26, n + 2 + (i : Nat), xs', rfl, h1, h2, by omega, by decide, by decide, fun r ys r0 r3 hy => ?_⟩
        have hl : (abc.length : Int) = 26 := by decide +kernel
        refine ⟨abc, r, 97 + r.toNat, rfl, rfl, r0, by omega, by omega, abc_at r0 r3, (cs.map one).map V.str, by rw [upd_ne (Ne.symm npD)]; exact h5, ?_, ys, cs ++ [97 + r.toNat], ?_, hy.mono (by push_cast; omega), by simp [h3], ?_, ?_, ?_⟩
        · rw [List.length_map, List.length_map, h3, sizeLine_eq]
          omega
        · rw [upd_ne npD]
          exact upd_same
        · intro c hc
          rcases List.mem_append.mp hc with z | z
          · exact h4 c z
          · have e := List.mem_singleton.mp z
            omega
        · rw [upd_same, List.map_append, List.map_append]
          rfl
        · intro b o nb e
          have e2 := h6 b o nb e
          have nD : b ≠ D := fun z => by
            have e3 : upd (upd H p (.lst ys1)) p (.lst ys2) b = some o := by rw [upd_ne nb, upd_ne nb]; exact e
            rw [z, hD] at e3
            cases e3
          rw [upd_ne nD, upd_ne nb]
          exact e2
      · rintro H' ⟨xs', cs, h1, h2, h3, h4, h5, h6⟩
        have e := join_codes cs
        refine ⟨_, D, cs.map one, rfl, rfl, Or.inl (SqL.of h5), ?_, q _ xs' H' ⟨?_, ?_, ?_⟩ (h2.mono (by omega)) h6 h1⟩
        · rw [ones_len, List.length_map, h3]
          have : (Str.ofString "").length = 0 := by decide +kernel
          rw [this]
          omega
        · rw [e, h3]
          omega
        · rw [e, h3]
          omega
        · rw [e]
          exact h4
end
end K2
end
section
set_option Elab.async false
set_option linter.all false
set_option maxRecDepth 100000
set_option maxHeartbeats 4000000
namespace K2
open PySem PySem.Spec PyProof.Rows L2
section
variable {P : Program} {w : World} {K : PySem.W.Frag} {mg : Str → Option Value} {base : Heap}
theorem cut_ints (ns : List Int) (i j : Int) : cutV (ns.map V.int) (some i) (some j) = ((ns.drop (HT.sIx ns.length 0 (some i))).take (HT.sIx ns.length ns.length (some j) - HT.sIx ns.length 0 (some i))).map V.int := by
  unfold cutV
  rw [List.length_map, List.map_take, List.map_drop]
/-! ### _law_purse -/
def spPurse (K : PySem.W.Frag) : Sp := fun vs H Q _ => ∃ (a : Addr) (k : Int) (ns : List Int), vs = [.ref a, .int k] ∧ SqL K H a (ns.map V.int) ∧ 0 ≤ k ∧ k ≤ 3 ∧
  ∀ (r : Addr) (xs : List V) (H' : Hp), PuOk 0 xs → Same H H' → H r = none → H' r = some (.lst xs) → Q (.ref r) H'
theorem scPurse : FnScope ["_law_script", "_law_at", "_law_seed"] ["_law_script", "_law_at"] (defScope sPurse) := ⟨rfl, rfl, rfl, by decide +kernel, rfl, by decide +kernel, by decide +kernel⟩
theorem ok_purse {f : Addr} {fd : FuncData} (F : FnP K "_law_purse" sPurse f fd) (T : Tx K mg) : FnOk P w K mg base CX0 1 f fd ["_law_script", "_law_at"] (spPurse K) := by
  refine F.ok scPurse (fun vs H Q E h => ?_) (fun cdv A outer s H vs Q E hr h => ?_)
  · obtain ⟨_, _, _, rfl, _⟩ := h
    rfl
  · obtain ⟨a, k, ns, rfl, hS, k0, k1, q⟩ := h
    have gI := T.fr "int" (by decide +kernel)
    have gM := T.fr "max" (by decide +kernel)
    have gS := T.fr "sum" (by decide +kernel)
    refine ⟨_, PSs.nox (pss_cons (ps_set (i := 2) scPurse.nd rfl (Or.inl rfl) (pe_callB (cr_sum rfl) (by rfl) gS (by decide +kernel) (pa_cons (pe_slice sl_list (pv 0) (po_some (pv 1)) (po_some (pe_op op_add (pv 1) pe_int))) pa_nil)))
      (pss_one (ps_ret (pe_lst (pa_cons (pe_op op_mod (pe_callTy call_int1 (by rfl) gI (by decide +kernel) (pa_cons (pe_callB (call_max2 rfl) (by rfl) gM (by decide +kernel) (pa_cons (pe_op op_sub (pv 2) (pe_op op_pow pe_int pe_int)) (pa_cons pe_int pa_nil))) pa_nil)) (pe_op op_powB (pe_op op_pow pe_int pe_int) pe_int))
        (pa_cons (pe_op op_mod (pe_callTy call_int1 (by rfl) gI (by decide +kernel) (pa_cons (pv 2) pa_nil)) pe_int) (pa_cons pe_int (pa_cons (pv 1) pa_nil)))))))), ?_⟩
    refine ⟨_, rfl, _, rfl, _, rfl, _, rfl, _, _, rfl, rfl, _, rfl, a, _, rfl, hS, fun b hb => ?_⟩
    refine ⟨b, _, rfl, SqL.of (by rw [upd_same, cut_ints]), ?_⟩
    refine ⟨_, rfl, _, _, rfl, rfl, ⟨by decide, by decide, by decide +kernel⟩, _, _, rfl, rfl, _, _, rfl, Or.inl ⟨_, rfl, _, _, rfl, rfl, ⟨by decide, by decide, by decide +kernel⟩, _, _, rfl, rfl, ⟨by decide, by decide +kernel⟩, ?_⟩⟩
    refine ⟨_, _, rfl, rfl, (by show (0 : Int) < (10 ^ Int.toNat 60) ^ Int.toNat 8; decide +kernel), _, rfl, Or.inl ⟨_, rfl, _, _, rfl, rfl, (by show (0 : Int) < _; decide), _, rfl, (by show 4 ≤ sizeLine; decide +kernel), fun r hr => ?_⟩⟩
    refine q r _ _ ⟨_, _, _, _, rfl, Int.emod_nonneg _ (by decide +kernel), Int.emod_nonneg _ (by decide), Int.emod_lt_of_pos _ (by decide), by decide, by decide, k0, k1⟩ (fun c o e => ?_) ?_ upd_same
    · have e2 : upd H b (.lst (cutV (ns.map V.int) (some k) (some (k + 1)))) c = some o := by rw [upd_ne (ne_of_none e hb)]; exact e
      rw [upd_ne (ne_of_none e2 hr)]
      exact e2
    · have nrb : r ≠ b := fun z => by
        rw [z, upd_same] at hr
        cases hr
      rw [upd_ne nrb] at hr
      exact hr
/-! ### _law_purses -/
/-- purses at ps, new since H, the list of them at D -/
def PsAt (H H' : Hp) (D : Addr) (ps : List Addr) : Prop := Same H H' ∧ H' D = some (.lst (ps.map V.ref)) ∧ ps.Nodup ∧ ∀ p ∈ ps, H p = none ∧ p ≠ D ∧ ∃ xs, H' p = some (.lst xs) ∧ PuOk 0 xs
def spPurses (K : PySem.W.Frag) : Sp := fun vs H Q _ => ∃ (a : Addr) (ns : List Int), vs = [.ref a, .int 4] ∧ SqL K H a (ns.map V.int) ∧
  ∀ (D : Addr) (ps : List Addr) (H' : Hp), ps.length ≤ 4 → H D = none → PsAt H H' D ps → Q (.ref D) H'
theorem scPurses : FnScope ["_law_script", "_law_few", "_law_at"] ["_law_script", "_law_few"] (defScope sPurses) := ⟨rfl, rfl, rfl, by decide +kernel, rfl, by decide +kernel, by decide +kernel⟩
theorem ok_purses {f g : Addr} {fd fdP : FuncData} (F : FnP K "_law_purses" sPurses f fd) (FP : FnP K "_law_purse" sPurse g fdP) (hgP : mg "_law_purse" = some (.ref g)) (T : Tx K mg) : FnOk P w K mg base CX0 2 f fd ["_law_script", "_law_few"] (spPurses K) := by
  have GP : FnOk P w K mg base CX0 1 g fdP ["_law_script", "_law_at"] (spPurse K) := ok_purse FP T
  have bP : Binds K fdP ["_law_script", "_law_at"] [] := FP.bindsN fun _ _ _ _ _ _ us hl => match us, hl with | [_, _], _ => rfl
  refine F.ok scPurses (fun vs H Q E h => ?_) (fun cdv A outer s H vs Q E hr h => ?_)
  · obtain ⟨_, _, rfl, _⟩ := h
    rfl
  · obtain ⟨a, ns, rfl, hS, q⟩ := h
    have gR := T.fr "range" (by decide +kernel)
    have gMa := T.fr "max" (by decide +kernel)
    have gMi := T.fr "min" (by decide +kernel)
    have gL := T.fr "len" (by decide +kernel)
    refine ⟨_, PSs.nox (pss_one (ps_ret (pe_lc (own := [("_law_at", 2)]) (g := gName 2) (tt := tYes) rfl scPurses.nd
        (pi_range1 rfl gR (pa_cons (pe_callB (call_max2 rfl) (by rfl) gMa (by decide +kernel) (pa_cons pe_int (pa_cons (pe_callB (call_min2 rfl) (by rfl) gMi (by decide +kernel) (pa_cons (pv 1) (pa_cons (pe_callB call_len_seq (by rfl) gL PySem.boot_len (pa_cons (pv 0) pa_nil)) pa_nil))) pa_nil))) pa_nil))
        (blkOk_by (own := [("_law_at", 2)]) (N := ["_law_script", "_law_few", "_law_at"]) (sc := defScope sPurses) (by decide +kernel))
        (fun _ _ _ _ _ => pg_name (i := 2) scPurses.nd rfl (Or.inl rfl)) (fun _ _ _ _ _ => pts_nil)
        (fun _ _ _ _ _ => pe_call GP hr rfl hgP FP.kp bP .nil pass0 (pa_cons (pv 0) (pa_cons (pv 2) pa_nil)))))), ?_⟩
    have hm : ∀ z : Int, 0 ≤ z → (1 : Int) ≤ (if (if z < 4 then z else 4) > 1 then (if z < 4 then z else 4) else 1) ∧ (if (if z < 4 then z else 4) > 1 then (if z < 4 then z else 4) else 1) ≤ 4 := fun z hz => by
      by_cases h1 : z < 4
      · rw [if_pos h1]
        by_cases h2 : z > 1
        · rw [if_pos h2]; omega
        · rw [if_neg h2]; omega
      · rw [if_neg h1, if_pos (by decide)]; omega
    have hm2 := hm ((ns.map V.int).length : Nat) (by omega)
    refine ⟨_, rfl, _, rfl, a, _, rfl, Or.inl hS, _, _, rfl, _, _, rfl, _, rfl, by omega, by omega, fun D hD => ?_⟩
    generalize hn : (if (if (((ns.map V.int).length : Nat) : Int) < 4 then (((ns.map V.int).length : Nat) : Int) else 4) > 1 then (if (((ns.map V.int).length : Nat) : Int) < 4 then (((ns.map V.int).length : Nat) : Int) else 4) else 1) = n at hm2 ⊢
    refine lc_range (lo := 0) (n := n.toNat) (fun i H' => ∃ ps : List Addr, ps.length = i ∧ PsAt H H' D ps) ⟨[], rfl, fun b o e => ?_, upd_same, List.nodup_nil, fun p z => absurd z (by simp)⟩ ?_ ?_
    · rw [upd_ne (ne_of_none e hD)]
      exact e
    · rintro i H' hi ⟨ps, hl, s0, hd, nd, hp⟩
      refine ⟨rfl, _, rfl, _, rfl, a, _, ns, rfl, s0.seq hS, by omega, by omega, fun r xs H2 hx s1 hr2 h2 => ?_⟩
      have nrD : r ≠ D := fun z => by
        rw [z, hd] at hr2
        cases hr2
      have hr0 : H r = none := s0.free hr2
      refine ⟨ps.map V.ref, s1 _ _ hd, by rw [List.length_map, hl, sizeLine_eq]; omega, ps ++ [r], by simp [hl], fun b o e => ?_, ?_, ?_, ?_⟩
      · rw [upd_ne (ne_of_none e hD)]
        exact s1 _ _ (s0 _ _ e)
      · rw [upd_same, List.map_append]
        rfl
      · refine List.nodup_append.mpr ⟨nd, by simp, fun b hb c hc => ?_⟩
        have e : c = r := List.mem_singleton.mp hc
        rw [e]
        intro z
        obtain ⟨_, _, xs', e2, _⟩ := hp b hb
        rw [z, hr2] at e2
        cases e2
      · intro p hpm
        rcases List.mem_append.mp hpm with z | z
        · obtain ⟨e1, e2, xs', e3, e4⟩ := hp p z
          exact ⟨e1, e2, xs', by rw [upd_ne e2]; exact s1 _ _ e3, e4⟩
        · have e : p = r := List.mem_singleton.mp z
          rw [e]
          exact ⟨hr0, nrD, xs, by rw [upd_ne nrD]; exact h2, hx⟩
    · rintro H' ⟨ps, hl, h⟩
      exact q D ps H' (by omega) hD h
end
end K2
end
section
set_option Elab.async false
set_option linter.all false
set_option maxRecDepth 100000
set_option maxHeartbeats 4000000
namespace K2
open PySem PySem.Spec PyProof.Rows L2
abbrev DrawZ (P : Program) (w : World) (K : PySem.W.Frag) (mg : Str → Option Value) (base : Heap) : Prop := Fz P w K mg base "_law_draw" 2 ["_law_purse_here", "_law_many"] spDraw
theorem same_upd {H : Hp} {a : Addr} {o : HO} (h : H a = none) : Same H (upd H a o) := fun b u e => by
  rw [upd_ne (ne_of_none e h)]
  exact e
theorem same_trans {A B C : Hp} (x : Same A B) (y : Same B C) : Same A C := fun b u e => y b u (x b u e)
theorem ifF {c : Prop} [Decidable c] {p q : Prop} (h : ¬ c) (hq : q) : if c then p else q := by
  rw [if_neg h]
  exact hq
theorem ifT {c : Prop} [Decidable c] {p q : Prop} (h : c) (hp : p) : if c then p else q := by
  rw [if_pos h]
  exact hp
theorem but_new {p D : Addr} {H : Hp} {o : HO} (n : H D = none) : But p H (upd H D o) := fun b u _ e => by
  rw [upd_ne (ne_of_none e n)]
  exact e
theorem but_self {p : Addr} {H : Hp} {o : HO} : But p H (upd H p o) := fun b u nb e => by
  rw [upd_ne nb]
  exact e
theorem But.trans {p : Addr} {A B C : Hp} (x : But p A B) (y : But p B C) : But p A C := fun b u nb e => y b u nb (x b u nb e)
theorem Same.but {p : Addr} {A B : Hp} (x : Same A B) : But p A B := fun b u _ e => x b u e
theorem But.free {p b : Addr} {A B : Hp} (x : But p A B) (n : B b = none) (nb : b ≠ p) : A b = none := by
  cases e : A b with
  | none => rfl
  | some u =>
    rw [x b u nb e] at n
    cases n
/-- the purse at p, n draws at most -/
def Pu (H : Hp) (p : Addr) (n : Int) : Prop := ∃ xs, H p = some (.lst xs) ∧ PuOk n xs
theorem Pu.mono {H : Hp} {p : Addr} {n m : Int} (h : Pu H p n) (l : n ≤ m) : Pu H p m := by
  obtain ⟨xs, h1, h2⟩ := h
  exact ⟨xs, h1, h2.mono l⟩
theorem Pu.upd {H : Hp} {p q : Addr} {n : Int} {o : HO} (h : Pu H p n) (ne : p ≠ q) : Pu (upd H q o) p n := by
  obtain ⟨xs, h1, h2⟩ := h
  exact ⟨xs, by rw [upd_ne ne]; exact h1, h2⟩
section
variable {P : Program} {w : World} {K : PySem.W.Frag} {mg : Str → Option Value} {base : Heap}
/-! ### _law_shuffled -/
def spShuffled : Sp := fun vs H Q _ => ∃ (p l : Addr) (n : Int) (zs : List V), vs = [.ref p, .ref l] ∧ Pu H p n ∧ n ≤ 800000 ∧ H l = some (.lst zs) ∧ l ≠ p ∧ zs.length ≤ 120 ∧
  ∀ (D : Addr) (us : List V) (H' : Hp), us.Perm zs → Pu H' p (n + (zs.length : Nat)) → But p H H' → H D = none → H' D = some (.lst us) → Q (.ref D) H'
theorem scShuffled : FnScope ["_law_purse_here", "_law_some", "_law_found", "_law_item"] ["_law_purse_here", "_law_some"] (defScope sShuffled) := ⟨rfl, rfl, rfl, by decide +kernel, rfl, by decide +kernel, by decide +kernel⟩
theorem ok_shuffled {f : Addr} {fd : FuncData} (F : FnP K "_law_shuffled" sShuffled f fd) (G : DrawZ P w K mg base) (T : Tx K mg) : FnOk P w K mg base CX0 3 f fd ["_law_purse_here", "_law_some"] spShuffled := by
  refine F.ok scShuffled (fun vs H Q E h => ?_) (fun cdv A outer s H vs Q E hr h => ?_)
  · obtain ⟨_, _, _, _, rfl, _⟩ := h
    rfl
  · obtain ⟨p, l, n, zs, rfl, ⟨xs, hp, hx⟩, hn, hl, nlp, hz, q⟩ := h
    have gL := T.fr "len" (by decide +kernel)
    refine ⟨_, PSs.nox (pss_cons (ps_set (i := 2) scShuffled.nd rfl (Or.inl rfl) (pe_lst pa_nil))
      (pss_cons (ps_for PassesOwn.never rfl (pi_list (pv 1)) (pg_name (i := 3) scShuffled.nd rfl (Or.inl rfl))
        (pss_one (ps_expr (pe_bm PySem.F.plainAttrs_list PySem.F.slot_list_insert PySem.F.type_list_insert mt_insert (pv 2)
          (pa_cons (pe_fz G hr (by rfl) (pa_cons (pv 0) (pa_cons (pe_op op_add (pe_callB call_len_seq (by rfl) gL PySem.boot_len (pa_cons (pv 2) pa_nil)) pe_int) pa_nil))) (pa_cons (pv 3) pa_nil))))))
      (pss_one (ps_ret (pv 2))))), ?_⟩
    refine ⟨Nat.zero_le _, fun D nD => ?_⟩
    have npD : p ≠ D := ne_of_none hp nD
    have nlD : l ≠ D := ne_of_none hl nD
    refine ⟨_, rfl, l, rfl, ⟨_, SqL.of (by rw [upd_ne nlD]; exact hl)⟩, ?_⟩
    refine for_list (K := K) (a := l) (xs := zs) (fun i σ H' => (∃ o3, σ = [some (.ref p), some (.ref l), some (.ref D), o3]) ∧ Pu H' p (n + (i : Nat)) ∧ But p H H' ∧ ∃ us, H' D = some (.lst us) ∧ us.Perm (zs.take i))
      ⟨⟨_, rfl⟩, ⟨xs, by rw [upd_ne npD]; exact hp, hx.mono (by omega)⟩, but_new nD, [], upd_same, List.Perm.refl _⟩ (fun i σ H' _ h => SqL.of (h.2.2.1 l _ nlp hl)) ?_ ?_
    · rintro i x σ H' hi ⟨⟨o3, rfl⟩, ⟨xs1, hp1, hx1⟩, bu, us, hD, pu⟩
      have lt : i < zs.length := (List.getElem?_eq_some_iff.mp hi).1
      have ul : us.length = i := by rw [pu.length_eq, List.length_take]; omega
      refine ⟨_, rfl, Or.inl ⟨rfl, _, SqL.of hD⟩, _, rfl, _, rfl, D, us, rfl, Or.inl (SqL.of hD), _, _, rfl, rfl, ?_⟩
      refine ⟨p, _, n + (i : Nat), xs1, rfl, hp1, hx1, by omega, by omega, by omega, fun r ys r0 r1 hy => ?_⟩
      refine ⟨_, rfl, D, us, r, x, rfl, rfl, by rw [upd_ne (Ne.symm npD)]; exact hD, by rw [ul, sizeLine_eq]; omega, r0, by omega, ?_⟩
      refine ⟨⟨_, rfl⟩, ⟨ys, by rw [upd_ne npD]; exact upd_same, hy.mono (by push_cast; omega)⟩, fun b o nb e => ?_, _, upd_same, ?_⟩
      · have nbD : b ≠ D := ne_of_none e nD
        rw [upd_ne nbD, upd_ne nb]
        exact bu b o nb e
      · have e : zs.take (i + 1) = zs.take i ++ [x] := by
          rw [List.take_add_one, hi]
          rfl
        rw [e]
        have p1 : (us.take r.toNat ++ [x] ++ us.drop r.toNat).Perm (us ++ [x]) := by
          have h1 : (us.take r.toNat ++ [x] ++ us.drop r.toNat).Perm (x :: (us.take r.toNat ++ us.drop r.toNat)) := by
            rw [List.append_assoc]
            exact List.perm_middle
          rw [List.take_append_drop] at h1
          exact h1.trans (List.perm_append_singleton x us).symm
        exact p1.trans (pu.append_right [x])
    · rintro σ H' ⟨⟨o3, rfl⟩, hp2, bu, us, hD, pu⟩
      rw [List.take_length] at pu
      exact ⟨_, rfl, q D us H' pu hp2 bu nD hD⟩
end
end K2
end
section
set_option Elab.async false
set_option linter.all false
set_option maxRecDepth 100000
set_option maxHeartbeats 4000000
namespace K2
open PySem PySem.Spec PyProof.Rows L2
abbrev OneZ (P : Program) (w : World) (K : PySem.W.Frag) (mg : Str → Option Value) (base : Heap) : Prop := Fz P w K mg base "_law_one_of" 3 ["_law_purse_here", "_law_some"] spOneOf
section
variable {P : Program} {w : World} {K : PySem.W.Frag} {mg : Str → Option Value} {base : Heap}
/-! ### _law_width, _law_length -/
def spSmall : Sp := fun vs H Q _ => ∃ (p : Addr) (n : Int), vs = [.ref p] ∧ Pu H p n ∧ n ≤ 800000 ∧ ∀ (r : Int) (H' : Hp), 0 ≤ r → r ≤ 9 → Pu H' p (n + 1) → But p H H' → Q (.int r) H'
theorem scWidth : FnScope ["_law_purse_here"] ["_law_purse_here"] (defScope sWidth) := ⟨rfl, rfl, rfl, by decide +kernel, rfl, by decide +kernel, by decide +kernel⟩
theorem scLength : FnScope ["_law_purse_here"] ["_law_purse_here"] (defScope sLength) := ⟨rfl, rfl, rfl, by decide +kernel, rfl, by decide +kernel, by decide +kernel⟩
theorem small_pick {p : Addr} {n : Int} {H : Hp} {Q : VK} {zs : List Int} (hl : zs.length = 8) (hz : ∀ z ∈ zs, 0 ≤ z ∧ z ≤ 9) (hp : Pu H p n) (hn : n ≤ 800000) (q : ∀ (r : Int) (H' : Hp), 0 ≤ r → r ≤ 9 → Pu H' p (n + 1) → But p H H' → Q (.int r) H')
    {D : Addr} (nD : H D = none) : spOneOf [.ref p, .ref D] (upd H D (.lst (zs.map V.int))) Q E0 := by
  obtain ⟨xs, h1, h2⟩ := hp
  have npD : p ≠ D := ne_of_none h1 nD
  refine ⟨p, D, n, xs, zs.map V.int, rfl, by rw [upd_ne npD]; exact h1, h2, by omega, upd_same, npD, by rw [List.length_map, hl]; decide, by rw [List.length_map, hl]; decide, fun j z ys e hy => ?_⟩
  rw [List.getElem?_map] at e
  cases e2 : zs[j]? with
  | none =>
    rw [e2] at e
    cases e
  | some i =>
    rw [e2] at e
    cases e
    have b := hz i (List.mem_of_getElem? e2)
    exact q i _ b.1 b.2 ⟨ys, upd_same, hy⟩ ((but_new nD).trans but_self)
theorem ok_width {f : Addr} {fd : FuncData} (F : FnP K "_law_width" sWidth f fd) (G : OneZ P w K mg base) : FnOk P w K mg base CX0 4 f fd ["_law_purse_here"] spSmall := by
  refine F.ok scWidth (fun vs H Q E h => ?_) (fun cdv A outer s H vs Q E hr h => ?_)
  · obtain ⟨_, _, rfl, _⟩ := h
    rfl
  · obtain ⟨p, n, rfl, hp, hn, q⟩ := h
    refine ⟨_, PSs.nox (pss_one (ps_ret (pe_fz G hr (by rfl) (pa_cons (pv 0) (pa_cons (pe_lst (pa_cons pe_int (pa_cons pe_int (pa_cons pe_int (pa_cons pe_int (pa_cons pe_int (pa_cons pe_int (pa_cons pe_int (pa_cons pe_int pa_nil))))))))) pa_nil))))), ?_⟩
    exact ⟨_, rfl, (by show 8 ≤ sizeLine; decide +kernel), fun D nD => small_pick (zs := [0, 1, 1, 1, 2, 2, 3, 9]) rfl (by decide) hp hn q nD⟩
theorem ok_length {f : Addr} {fd : FuncData} (F : FnP K "_law_length" sLength f fd) (G : OneZ P w K mg base) : FnOk P w K mg base CX0 4 f fd ["_law_purse_here"] spSmall := by
  refine F.ok scLength (fun vs H Q E h => ?_) (fun cdv A outer s H vs Q E hr h => ?_)
  · obtain ⟨_, _, rfl, _⟩ := h
    rfl
  · obtain ⟨p, n, rfl, hp, hn, q⟩ := h
    refine ⟨_, PSs.nox (pss_one (ps_ret (pe_fz G hr (by rfl) (pa_cons (pv 0) (pa_cons (pe_lst (pa_cons pe_int (pa_cons pe_int (pa_cons pe_int (pa_cons pe_int (pa_cons pe_int (pa_cons pe_int (pa_cons pe_int (pa_cons pe_int pa_nil))))))))) pa_nil))))), ?_⟩
    exact ⟨_, rfl, (by show 8 ≤ sizeLine; decide +kernel), fun D nD => small_pick (zs := [0, 1, 1, 2, 2, 3, 5, 9]) rfl (by decide) hp hn q nD⟩
/-! ### _law_pair -/
def spPair : Sp := fun vs H Q _ => ∃ (p l : Addr) (n : Int) (ws : List Str), vs = [.ref p, .ref l] ∧ Pu H p n ∧ n ≤ 800000 ∧ H l = some (.lst (ws.map V.str)) ∧ l ≠ p ∧ ws.Nodup ∧ 2 ≤ ws.length ∧ ws.length ≤ 100 ∧
  ∀ (t : Addr) (a b : Str) (H' : Hp), a ∈ ws → b ∈ ws → a ≠ b → Pu H' p (n + 2) → But p H H' → H t = none → H' t = some (.tup [.str a, .str b]) → Q (.ref t) H'
theorem scPair : FnScope ["_law_purse_here", "_law_crossings", "_law_start", "_law_other"] ["_law_purse_here", "_law_crossings"] (defScope sPair) := ⟨rfl, rfl, rfl, by decide +kernel, rfl, by decide +kernel, by decide +kernel⟩
theorem ok_pair {f : Addr} {fd : FuncData} (F : FnP K "_law_pair" sPair f fd) (G : OneZ P w K mg base) : FnOk P w K mg base CX0 4 f fd ["_law_purse_here", "_law_crossings"] spPair := by
  refine F.ok scPair (fun vs H Q E h => ?_) (fun cdv A outer s H vs Q E hr h => ?_)
  · obtain ⟨_, _, _, _, rfl, _⟩ := h
    rfl
  · obtain ⟨p, l, n, ws, rfl, ⟨xs, hp, hx⟩, hn, hl, nlp, nd, h2, h100, q⟩ := h
    refine ⟨_, PSs.nox (pss_cons (ps_set (i := 2) scPair.nd rfl (Or.inr rfl) (pe_fz G hr (by rfl) (pa_cons (pv 0) (pa_cons (pv 1) pa_nil))))
      (pss_one (ps_ret (pe_tup (pa_cons (pv 2) (pa_cons (pe_fz G hr (by rfl) (pa_cons (pv 0) (pa_cons
        (pe_lc (own := [("_law_other", 3)]) (g := gName 3) (tt := _) rfl scPair.nd (pi_list (pv 1)) (blkOk_by (own := [("_law_other", 3)]) (N := ["_law_purse_here", "_law_crossings", "_law_start", "_law_other"]) (sc := defScope sPair) (by decide +kernel))
          (fun _ _ _ _ _ => pg_name (i := 3) scPair.nd rfl (Or.inl rfl)) (fun _ _ _ _ _ => pts_one (pt_cmpR op_ne (pv 3) (pv 2) (nomark _))) (fun _ _ _ _ _ => pv 3)) pa_nil))) pa_nil)))))), ?_⟩
    refine ⟨_, rfl, _, rfl, p, l, n, xs, ws.map V.str, rfl, hp, hx, by omega, hl, Ne.symm nlp, by rw [List.length_map]; omega, by rw [List.length_map]; omega, fun j z ys e hy => ?_⟩
    rw [List.getElem?_map] at e
    cases e2 : ws[j]? with
    | none =>
      rw [e2] at e
      cases e
    | some a =>
      rw [e2] at e
      cases e
      have ha : a ∈ ws := List.mem_of_getElem? e2
      have hp1 : upd H p (.lst ys) p = some (.lst ys) := upd_same
      have hl1 : upd H p (.lst ys) l = some (.lst (ws.map V.str)) := by rw [upd_ne nlp]; exact hl
      refine ⟨_, rfl, _, rfl, _, rfl, l, rfl, ⟨_, SqL.of hl1⟩, fun D nD => ?_⟩
      have npD : p ≠ D := ne_of_none hp1 nD
      have nlD : l ≠ D := ne_of_none hl1 nD
      refine lc_list (K := K) (a := l) (xs := ws.map V.str) (fun i H' => (∀ b, b ≠ D → H' b = upd H p (.lst ys) b) ∧ H' D = some (.lst (((ws.take i).filter fun x => decide (x ≠ a)).map V.str)))
        ⟨fun b nb => upd_ne nb, upd_same⟩ (fun i H' _ h => SqL.of (by rw [h.1 l nlD]; exact hl1)) ?_ ?_
      · rintro i x H' hi ⟨k1, k2⟩
        rw [List.getElem?_map] at hi
        cases e3 : ws[i]? with
        | none =>
          rw [e3] at hi
          cases hi
        | some c =>
          rw [e3] at hi
          cases hi
          have et : ws.take (i + 1) = ws.take i ++ [c] := by
            rw [List.take_add_one, e3]
            rfl
          have lt : i < ws.length := (List.getElem?_eq_some_iff.mp e3).1
          have ll : ((ws.take i).filter fun x => decide (x ≠ a)).length ≤ i := Nat.le_trans (List.length_filter_le _ _) (by rw [List.length_take]; omega)
          refine ⟨rfl, _, rfl, _, rfl, rfl, _, rfl, ?_⟩
          by_cases hc : c = a
          · subst hc
            refine ifF (by simp) ⟨k1, ?_⟩
            rw [et, List.filter_append]
            simp [k2]
          · refine ifT (by simpa using hc) ⟨_, rfl, _, k2, by rw [List.length_map, sizeLine_eq]; omega, fun b nb => by rw [upd_ne nb]; exact k1 b nb, ?_⟩
            rw [upd_same, et, List.filter_append]
            simp [hc]
      · rintro H' ⟨k1, k2⟩
        rw [List.length_map, List.take_length] at k2
        have hp2 : H' p = some (.lst ys) := by rw [k1 p npD]; exact hp1
        have lpos : 0 < (ws.filter fun x => decide (x ≠ a)).length := by
          rw [List.length_pos_iff_exists_mem]
          have : ∃ b ∈ ws, b ≠ a := by
            match ws, h2, nd with
            | u :: v :: r, _, nd =>
              by_cases hu : u = a
              · refine ⟨v, by simp, fun hv => ?_⟩
                rw [hu, hv] at nd
                simp at nd
              · exact ⟨u, by simp, hu⟩
          obtain ⟨b, hb, nb⟩ := this
          exact ⟨b, List.mem_filter.mpr ⟨hb, by simpa using nb⟩⟩
        have lle : (ws.filter fun x => decide (x ≠ a)).length ≤ 100 := Nat.le_trans (List.length_filter_le _ _) h100
        refine ⟨p, D, n + 1, ys, _, rfl, hp2, hy, by omega, k2, npD, by rw [List.length_map]; exact lpos, by rw [List.length_map]; omega, fun j2 z2 ys2 e3 hy2 => ?_⟩
        rw [List.getElem?_map] at e3
        cases e4 : (ws.filter fun x => decide (x ≠ a))[j2]? with
        | none =>
          rw [e4] at e3
          cases e3
        | some b =>
          rw [e4] at e3
          cases e3
          have hb := List.mem_filter.mp (List.mem_of_getElem? e4)
          refine ⟨(by show 2 ≤ sizeLine; decide +kernel), fun t nt => ?_⟩
          have bu : But p H (upd H' p (.lst ys2)) := fun c o nc e => by
            have nD2 : c ≠ D := ne_of_none (show upd H p (.lst ys) c = some o by rw [upd_ne nc]; exact e) nD
            rw [upd_ne nc, k1 c nD2, upd_ne nc]
            exact e
          have ntp : t ≠ p := fun z => by
            rw [z, upd_same] at nt
            cases nt
          exact q t a b _ ha hb.1 (fun z => by simpa [z] using hb.2) ⟨ys2, by rw [upd_ne (Ne.symm ntp)]; exact upd_same, hy2.mono (by omega)⟩ (bu.trans (but_new nt)) (bu.free nt ntp) upd_same
end
end K2
end
section
set_option Elab.async false
set_option linter.all false
set_option maxRecDepth 100000
set_option maxHeartbeats 4000000
namespace L2
open PySem PySem.Spec PyProof.Rows
/-- list(text): its signs -/
def rListTxt : List V → Hp → VK → Prop := fun vs H Q => ∃ z : Str, vs = [.str z] ∧ z.cps.size ≤ sizeLine ∧ ∀ p, H p = none → Q (.ref p) (upd H p (.lst (z.cps.toList.map fun c => V.str ⟨#[c]⟩)))
theorem call_list_txt {X : Cx} (hc : X.calm = true) : CallR X (.type "list") rListTxt := by
  intro pins s σ H vs us Q I r h
  obtain ⟨z, rfl, hz, q⟩ := h
  obtain ⟨u, rfl, t, rfl⟩ := vals1 r
  refine call_list_str (I.ok.hd hc) z t (hn := hz) fun h' tk acc' c' hk hS hacc => ?_
  refine ⟨.ref s.heap.objs.size, upd H s.heap.objs.size (.lst (z.cps.toList.map fun c => V.str ⟨#[c]⟩)), I.laid hk (Nat.le_refl _) (show ObjOk X.prog X.w _ _ _ (.lst _) from ⟨?_, acc'.toList, c', ?_, ?_⟩), rfl, q _ (I.hok.fresh (Nat.le_refl _))⟩
  · rw [List.length_map, Array.length_toList]
    exact hz
  · refine vals_of_at (by rw [List.length_map, Array.length_toList, Array.length_toList, hacc.1]) fun j x w h1 h2 => ?_
    obtain ⟨c, t', hc', rfl⟩ := hacc.2 j w (by rw [← Array.getElem?_toList]; exact h2)
    rw [List.getElem?_map, Array.getElem?_toList, hc'] at h1
    cases h1
    exact ⟨t', rfl⟩
  · rw [Array.toArray_toList]
    exact hS
end L2
namespace K2
open PySem PySem.Spec PyProof.Rows L2
theorem inV_str (x : Str) (ws : List Str) : inV (.str x) (ws.map V.str) = decide (x ∈ ws) := by
  unfold inV
  induction ws with
  | nil => rfl
  | cons y ws ih =>
    rw [List.map_cons, List.any_cons, ih]
    show ((y == x) || decide (x ∈ ws)) = decide (x ∈ y :: ws)
    by_cases h : y = x
    · subst h
      simp
    · have h' : ¬ x = y := fun e => h e.symm
      simp [h, h']
theorem flat_strs (ws : List Str) : (ws.map V.str).all flatV = true := by
  rw [List.all_eq_true]
  intro v hv
  obtain ⟨x, _, rfl⟩ := List.mem_map.mp hv
  rfl
theorem len_le_of_sub {α : Type} [DecidableEq α] : ∀ (l m : List α), l.Nodup → (∀ x ∈ l, x ∈ m) → l.length ≤ m.length
  | [], _, _, _ => Nat.zero_le _
  | x :: l, m, nd, h => by
    obtain ⟨h1, h2⟩ := List.nodup_cons.mp nd
    have hx : x ∈ m := h x List.mem_cons_self
    have ih := len_le_of_sub l (m.erase x) h2 fun y hy => (List.mem_erase_of_ne (fun e => h1 (by rw [← e]; exact hy))).mpr (h y (List.mem_cons_of_mem _ hy))
    rw [List.length_erase_of_mem hx] at ih
    have : 0 < m.length := List.length_pos_of_mem hx
    simp only [List.length_cons]
    omega
def letters : List Str := abc.cps.toList.map one
theorem letters_nodup : letters.Nodup := by decide +kernel
theorem letters_len : letters.length = 26 := by decide +kernel
theorem letters_wd : ∀ x ∈ letters, Wd x := by
  have key : (letters.all fun x => decide (1 ≤ x.cps.toList.length ∧ x.cps.toList.length ≤ 8) && x.cps.toList.all fun c => decide (97 ≤ c ∧ c ≤ 122)) = true := by decide +kernel
  intro x hx
  have k := List.all_eq_true.mp key x hx
  rw [Bool.and_eq_true] at k
  have k1 := of_decide_eq_true k.1
  exact ⟨k1.1, k1.2, fun c hc => of_decide_eq_true (List.all_eq_true.mp k.2 c hc)⟩
theorem free_letter {ws : List Str} (h : ws.length < 26) : ∃ x r, (letters.filter fun x => decide (x ∉ ws)) = x :: r ∧ Wd x ∧ x ∉ ws := by
  cases e : letters.filter fun x => decide (x ∉ ws) with
  | nil =>
    have k := len_le_of_sub letters ws letters_nodup fun x hx => by
      by_cases hw : x ∈ ws
      · exact hw
      · have : x ∈ letters.filter fun x => decide (x ∉ ws) := List.mem_filter.mpr ⟨hx, decide_eq_true hw⟩
        rw [e] at this
        cases this
    rw [letters_len] at k
    omega
  | cons x r =>
    have hx : x ∈ letters.filter fun x => decide (x ∉ ws) := by rw [e]; exact List.mem_cons_self
    have q := List.mem_filter.mp hx
    exact ⟨x, r, rfl, letters_wd x q.1, of_decide_eq_true q.2⟩
theorem wd_mix {z : Str} {r : Int} {c : Nat} (hz : Wd z) (r0 : 0 ≤ r) (r1 : r < (z.length : Int)) (hc : 97 ≤ c ∧ c ≤ 122) : Wd ((cutS z none (some r) ++ one c) ++ cutS z (some (r + 1)) none) := by
  obtain ⟨k, rfl⟩ := Int.eq_ofNat_of_zero_le r0
  have hl := str_length z
  have lk : k < z.cps.toList.length := by omega
  have e1 : (cutS z none (some (k : Int))).cps.toList = z.cps.toList.take k := by
    show (((z.cps.toList.drop (HT.sIx z.length 0 none)).take (HT.sIx z.length z.length (some (k : Int)) - HT.sIx z.length 0 none)).toArray).toList = _
    rw [HT.sIx_none, HT.sIx_nat, List.drop_zero, Nat.sub_zero, Nat.min_eq_left (by omega)]
  have e2 : (cutS z (some ((k : Int) + 1)) none).cps.toList = z.cps.toList.drop (k + 1) := by
    show (((z.cps.toList.drop (HT.sIx z.length 0 (some ((k : Int) + 1)))).take (HT.sIx z.length z.length none - HT.sIx z.length 0 (some ((k : Int) + 1)))).toArray).toList = _
    have e3 : ((k : Int) + 1) = ((k + 1 : Nat) : Int) := by omega
    rw [e3, HT.sIx_none, HT.sIx_nat, Nat.min_eq_left (by omega)]
    exact List.take_of_length_le (by rw [List.length_drop]; omega)
  have e4 : ((cutS z none (some (k : Int)) ++ one c) ++ cutS z (some ((k : Int) + 1)) none).cps.toList = (z.cps.toList.take k ++ [c]) ++ z.cps.toList.drop (k + 1) := by
    show (((cutS z none (some (k : Int))).cps ++ (one c).cps) ++ (cutS z (some ((k : Int) + 1)) none).cps).toList = _
    rw [Array.toList_append, Array.toList_append, e1, e2]
    rfl
  have ll : ((z.cps.toList.take k ++ [c]) ++ z.cps.toList.drop (k + 1)).length = z.cps.toList.length := by
    simp only [List.length_append, List.length_take, List.length_drop, List.length_cons, List.length_nil]
    omega
  refine ⟨by rw [e4, ll]; exact hz.1, by rw [e4, ll]; exact hz.2.1, fun x hx => ?_⟩
  rw [e4] at hx
  rcases List.mem_append.mp hx with h | h
  · rcases List.mem_append.mp h with h | h
    · exact hz.2.2 x (List.mem_of_mem_take h)
    · rw [List.mem_singleton.mp h]
      exact hc
  · exact hz.2.2 x (List.mem_of_mem_drop h)
end K2
end
section
set_option Elab.async false
set_option linter.all false
set_option maxRecDepth 100000
set_option maxHeartbeats 8000000
namespace K2
open PySem PySem.Spec PyProof.Rows L2
abbrev WordZ (P : Program) (w : World) (K : PySem.W.Frag) (mg : Str → Option Value) (base : Heap) : Prop := Fz P w K mg base "_law_word" 3 ["_law_purse_here"] spWord
/-- a list of n unlike words -/
def Ws (H : Hp) (D : Addr) (ws : List Str) : Prop := H D = some (.lst (ws.map V.str))
def spWords : Sp := fun vs H Q _ => ∃ (p : Addr) (m n : Int), vs = [.ref p, .int m] ∧ Pu H p n ∧ n ≤ 700000 ∧ 0 ≤ m ∧ m ≤ 25 ∧
  ∀ (D : Addr) (ws : List Str) (H' : Hp), (ws.length : Int) = m → ws.Nodup → (∀ x ∈ ws, Wd x) → Pu H' p (n + 12 + 11 * m) → But p H H' → H D = none → Ws H' D ws → Q (.ref D) H'
abbrev NW : List Str := ["_law_purse_here", "_law_many", "_law_base", "_law_near", "_law_spot", "_law_found", "_law_turn", "_law_word_here", "_law_letter"]
theorem scWords : FnScope NW ["_law_purse_here", "_law_many"] (defScope sWords) := ⟨rfl, rfl, rfl, by decide +kernel, rfl, by decide +kernel, by decide +kernel⟩
/-- at the head of a turn -/
def WT (p D : Addr) (m n r : Int) (z : Str) (b : Bool) (H : Hp) (i : Nat) : L2.St → Hp → Prop := fun σ H' => (∃ o6 o7 o8, σ = [some (.ref p), some (.int m), some (.str z), some (.bl b), some (.int r), some (.ref D), o6, o7, o8]) ∧
  Pu H' p (n + 12 + 11 * (i : Nat)) ∧ But p H H' ∧ ∃ ws : List Str, Ws H' D ws ∧ ws.length = i ∧ ws.Nodup ∧ ∀ x ∈ ws, Wd x
section
variable {P : Program} {w : World} {K : PySem.W.Frag} {mg : Str → Option Value} {base : Heap}
theorem ok_words {f : Addr} {fd : FuncData} (F : FnP K "_law_words" sWords f fd) (G : DrawZ P w K mg base) (GW : WordZ P w K mg base) (T : Tx K mg) : FnOk P w K mg base CX0 4 f fd ["_law_purse_here", "_law_many"] spWords := by
  refine F.ok scWords (fun vs H Q E h => ?_) (fun cdv A outer s H vs Q E hr h => ?_)
  · obtain ⟨_, _, _, rfl, _⟩ := h
    rfl
  · obtain ⟨p, m, n, rfl, ⟨xs, hp, hx⟩, hn, m0, m25, q⟩ := h
    have gL := T.fr "len" (by decide +kernel)
    have gR := T.fr "range" (by decide +kernel)
    have gLi := T.fr "list" (by decide +kernel)
    have hr2 : Room 2 (A.deeper (envOfC "_law_words" (defScope sWords) s.heap.objs.size f cdv)) := hr.mono (by decide)
    refine ⟨_, PSs.nox (pss_cons (ps_par (i := 2) (j := 3) rfl scWords.nd rfl rfl (by decide) rfl rfl (pa_cons (pe_fz GW hr (by rfl) (pa_cons (pv 0) pa_nil)) (pa_cons (pe_cmpR op_eq (pe_fz G hr2 (by rfl) (pa_cons (pv 0) (pa_cons pe_int pa_nil))) pe_int (nomark _)) pa_nil)) (by rfl))
      (pss_cons (ps_asg (pe_tup (pa_cons (pe_fz G hr2 (by rfl) (pa_cons (pv 0) (pa_cons (pe_callB call_len_str (by rfl) gL PySem.boot_len (pa_cons (pv 2) pa_nil)) pa_nil))) (pa_cons (pe_lst pa_nil) pa_nil)))
        (pg_tup rfl (pgs_cons (pg_name (i := 4) scWords.nd rfl (Or.inl rfl)) (pgs_cons (pg_name (i := 5) scWords.nd rfl (Or.inr rfl)) pgs_nil))))
      (pss_cons (ps_for PassesOwn.never rfl (pi_range1 rfl gR (pa_cons (pv 1) pa_nil)) (pg_name (i := 6) scWords.nd rfl (Or.inl rfl))
        (pss_cons (ps_set (i := 7) scWords.nd rfl (Or.inl rfl) (pe_op op_add_str (pe_op op_add_str (pe_slice sl_str (pv 2) po_none (po_some (pv 4))) (pe_item_str pe_str (pe_fz G hr2 (by rfl) (pa_cons (pv 0) (pa_cons pe_int pa_nil))) (fun _ _ => rfl)))
            (pe_slice sl_str (pv 2) (po_some (pe_op op_add (pv 4) pe_int)) po_none)))
        (pss_cons (ps_if (pt_not (pt_val (pv 3))) (pss_one (ps_set (i := 7) scWords.nd rfl (Or.inl rfl) (pe_fz GW hr (by rfl) (pa_cons (pv 0) pa_nil)))) pss_nil)
        (pss_cons (ps_if (pt_cmpR op_in_seq (pv 7) (pv 5) rfl) (pss_one (ps_set (i := 7) scWords.nd rfl (Or.inl rfl) (pe_ix ix_list
            (pe_lc (own := [("_law_letter", 8)]) (g := gName 8) (tt := tTest (tOp (rIn K true) (tVar 8) (tVar 5))) rfl scWords.nd (pi_list (pe_callTy (call_list_txt rfl) (by rfl) gLi (by decide +kernel) (pa_cons pe_str pa_nil))) (blkOk_by (own := [("_law_letter", 8)]) (N := NW) (sc := defScope sWords) (by decide +kernel))
              (fun _ _ _ _ _ => pg_name (i := 8) scWords.nd rfl (Or.inl rfl)) (fun _ _ _ _ _ => pts_one (pt_cmpR op_notIn_seq (pv 8) (pv 5) rfl)) (fun _ _ _ _ _ => pv 8)) pe_int (fun _ _ => rfl)))) pss_nil)
        (pss_one (ps_expr (pe_bm PySem.F.plainAttrs_list PySem.F.slot_list_append PySem.F.type_list_append mt_append (pv 5) (pa_cons (pv 7) pa_nil))))))))
      (pss_one (ps_ret (pv 5)))))), ?_⟩
    refine ⟨_, rfl, p, n, xs, rfl, hp, hx, by omega, fun z ys1 H1 hz hy1 b1 hp1 => ?_⟩
    refine ⟨_, rfl, p, 3, n + 10, ys1, rfl, hp1, hy1, by omega, by decide, by decide, fun r1 ys2 c1 d1 hy2 => ⟨rfl, _, _, rfl, ?_⟩⟩
    have b2 : But p H (upd H1 p (.lst ys2)) := b1.trans but_self
    have hp2 : upd H1 p (.lst ys2) p = some (.lst ys2) := upd_same
    generalize upd H1 p (.lst ys2) = H2 at b2 hp2 ⊢
    have lz := str_length z
    have lz1 := hz.1
    have lz8 := hz.2.1
    have sl := sizeLine_eq
    refine ⟨_, rfl, _, rfl, z, rfl, by omega, p, _, n + 10 + 1, ys2, rfl, hp2, hy2, by omega, by omega, by omega, fun r ys3 r0 r1' hy3 => ?_⟩
    have b3 : But p H (upd H2 p (.lst ys3)) := b2.trans but_self
    have hp3 : upd H2 p (.lst ys3) p = some (.lst ys3) := upd_same
    generalize upd H2 p (.lst ys3) = H3 at b3 hp3 ⊢
    refine ⟨Nat.zero_le _, fun D nD => ?_⟩
    have npD : p ≠ D := ne_of_none hp3 nD
    refine ⟨(by show 2 ≤ sizeLine; decide +kernel), fun tp ntp => ⟨tp, _, rfl, SqT.of upd_same, rfl, _, _, rfl, _, _, rfl, rfl, ?_⟩⟩
    have nDt : D ≠ tp := ne_of_none upd_same ntp
    have npt : p ≠ tp := fun e => by
      rw [← e, upd_ne npD, hp3] at ntp
      cases ntp
    have w0 : WT p D m n r z (decide (V.int r1 = V.int 0)) H 0 [some (.ref p), some (.int m), some (.str z), some (.bl (decide (V.int r1 = V.int 0))), some (.int r), some (.ref D), none, none, none] (upd (upd H3 D (.lst [])) tp (.tup [.int r, .ref D])) :=
      ⟨⟨_, _, _, rfl⟩, ⟨ys3, by rw [upd_ne npt, upd_ne npD]; exact hp3, hy3.mono (by omega)⟩, (b3.trans (but_new nD)).trans (but_new ntp), [], by show upd _ _ _ D = _; rw [upd_ne nDt]; exact upd_same, rfl, List.nodup_nil, fun x hx => by simp at hx⟩
    have fD : H D = none := b3.free nD (Ne.symm npD)
    generalize upd (upd H3 D (.lst [])) tp (.tup [.int r, .ref D]) = H4 at w0 ⊢
    generalize decide (V.int r1 = V.int 0) = b at w0 ⊢
    refine ⟨_, rfl, _, rfl, by omega, by omega, ?_⟩
    refine for_range (n := m.toNat) (WT p D m n r z b H) w0 ?_ ?_
    · rintro i σ H' hi ⟨⟨o6, o7, o8, rfl⟩, ⟨xs1, hp5, hx5⟩, b5, ws, hw, hl, nd, wd⟩
      have npD5 : D ≠ p := fun e => by
        rw [e] at fD
        rw [fD] at hp
        cases hp
      refine ⟨_, rfl, _, rfl, _, rfl, z, rfl, by omega, _, rfl, p, 26, n + 12 + 11 * (i : Nat), xs1, rfl, hp5, hx5, by omega, by decide, by decide, fun c ys c0 c1 hy => ?_⟩
      have hl26 : (abc.length : Int) = 26 := by decide +kernel
      have wm := wd_mix (c := 97 + c.toNat) hz r0 r1' (by omega)
      have wl := str_length ((cutS z none (some r) ++ one (97 + c.toNat)) ++ cutS z (some (r + 1)) none)
      have wl2 := wm.2.1
      rw [← wl] at wl2
      have wl3 := wl2
      simp only [strLen_append] at wl3
      refine ⟨abc, c, 97 + c.toNat, rfl, rfl, c0, by omega, by omega, abc_at c0 c1, _, _, rfl, rfl, (by show (cutS z none (some r)).length + (one (97 + c.toNat)).length ≤ _; omega), ?_⟩
      refine ⟨_, rfl, _, rfl, _, _, rfl, rfl, _, rfl, z, rfl, by omega, _, _, rfl, rfl, (by show ((cutS z none (some r)) ++ (one (97 + c.toNat))).length + _ ≤ _; rw [strLen_append]; omega), ?_⟩
      have b6 : But p H (upd H' p (.lst ys)) := b5.trans but_self
      have hp6 : upd H' p (.lst ys) p = some (.lst ys) := upd_same
      have hw6 : Ws (upd H' p (.lst ys)) D ws := by
        show upd H' p (.lst ys) D = _
        rw [upd_ne npD5]
        exact hw
      generalize upd H' p (.lst ys) = H6 at b6 hp6 hw6 ⊢
      have wm : Wd ((cutS z none (some r) ++ ⟨#[97 + c.toNat]⟩) ++ cutS z (some (r + 1)) none) := wm
      generalize (cutS z none (some r) ++ ⟨#[97 + c.toNat]⟩) ++ cutS z (some (r + 1)) none = x at wm ⊢
      refine ⟨_, rfl, _, rfl, ?_⟩
      refine ite2 (fun _ => ?a) (fun _ => ?b)
      case' a =>
        refine ⟨_, rfl, p, _, ys, rfl, hp6, hy, by omega, fun x2 ys2 H7 wx hy2 b7 hp7 => ?_⟩
        have hw7 : Ws H7 D ws := b7 D _ npD5 hw6
        have b7 := b6.trans b7
        have pu : Pu H7 p (n + 12 + 11 * ((i + 1 : Nat) : Int)) := ⟨ys2, hp7, hy2.mono (by push_cast; omega)⟩
      case' b =>
        have pu : Pu H6 p (n + 12 + 11 * ((i + 1 : Nat) : Int)) := ⟨ys, hp6, hy.mono (by push_cast; omega)⟩
        generalize x = x2 at wm ⊢
        generalize H6 = H7 at b6 hw6 pu ⊢
        have hw7 := hw6
        have b7 := b6
        have wx := wm
      all_goals
        have pt : ∀ (x3 : Str) (H8 : Hp) (o8 : Option V), Wd x3 → x3 ∉ ws → Ws H8 D ws → But p H H8 → Pu H8 p (n + 12 + 11 * ((i + 1 : Nat) : Int)) → WT p D m n r z b H (i + 1) [some (.ref p), some (.int m), some (.str z), some (.bl b), some (.int r), some (.ref D), some (.int (0 + (i : Nat))), some (.str x3), o8] (upd H8 D (.lst (ws.map V.str ++ [V.str x3]))) := fun x3 H8 o8 w3 n3 h3 b3 p3 =>
          ⟨⟨_, _, _, rfl⟩, p3.upd (Ne.symm npD5), fun c o nc e => by rw [upd_ne (ne_of_none e fD)]; exact b3 c o nc e, ws ++ [x3], by show upd _ _ _ D = _; rw [upd_same, List.map_append]; rfl, by simp [hl], List.nodup_append.mpr ⟨nd, by simp, fun a ha c hc => by rw [List.mem_singleton.mp hc]; exact fun e => n3 (by rw [← e]; exact ha)⟩, fun c hc => by
            rcases List.mem_append.mp hc with h | h
            · exact wd c h
            · rw [List.mem_singleton.mp h]; exact w3⟩
        have lw : (ws.map V.str).length < sizeLine := by
          rw [List.length_map]
          omega
        refine ⟨_, rfl, _, rfl, D, ws.map V.str, rfl, Or.inl (SqL.of hw7), rfl, flat_strs ws, _, rfl, ?_⟩
        rw [inV_str]
        by_cases hin : x2 ∈ ws
        · refine ifT (by simpa using hin) ?_
          have ex : (abc.cps.toList.map fun c => V.str ⟨#[c]⟩) = letters.map V.str := by
            unfold letters
            rw [List.map_map]
            rfl
          refine ⟨abc, rfl, by decide +kernel, fun L nL => ?_⟩
          rw [ex]
          have nDL : D ≠ L := ne_of_none hw7 nL
          have s8 : Same H7 (upd H7 L (.lst (letters.map V.str))) := same_upd nL
          have hL : upd H7 L (.lst (letters.map V.str)) L = some (.lst (letters.map V.str)) := upd_same
          generalize upd H7 L (.lst (letters.map V.str)) = H8 at s8 hL ⊢
          have hw8 : Ws H8 D ws := s8 _ _ hw7
          refine ⟨L, rfl, ⟨_, SqL.of hL⟩, fun D2 nD2 => ?_⟩
          have nLD : L ≠ D2 := ne_of_none hL nD2
          have nDD : D ≠ D2 := ne_of_none hw8 nD2
          refine lc_list (K := K) (a := L) (xs := letters.map V.str) (fun j H' => (∀ c, c ≠ D2 → H' c = H8 c) ∧ H' D2 = some (.lst (((letters.take j).filter fun x => decide (x ∉ ws)).map V.str)))
            ⟨fun c nc => upd_ne nc, upd_same⟩ (fun j H' _ h => SqL.of (by rw [h.1 L nLD]; exact hL)) ?_ ?_
          · rintro j y H' hj ⟨k1, k2⟩
            rw [List.getElem?_map] at hj
            cases e3 : letters[j]? with
            | none =>
              rw [e3] at hj
              cases hj
            | some c =>
              rw [e3] at hj
              cases hj
              have et : letters.take (j + 1) = letters.take j ++ [c] := by
                rw [List.take_add_one, e3]
                rfl
              have lt : j < letters.length := (List.getElem?_eq_some_iff.mp e3).1
              rw [letters_len] at lt
              have ll : ((letters.take j).filter fun x => decide (x ∉ ws)).length ≤ j := Nat.le_trans (List.length_filter_le _ _) (by rw [List.length_take]; omega)
              refine ⟨rfl, _, rfl, _, rfl, D, ws.map V.str, rfl, Or.inl (SqL.of (by rw [k1 D nDD]; exact hw8)), rfl, flat_strs ws, _, rfl, ?_⟩
              rw [inV_str]
              by_cases hc : c ∈ ws
              · refine ifF (by simpa using hc) ⟨k1, ?_⟩
                rw [et, List.filter_append]
                simp [k2, hc]
              · refine ifT (by simpa using hc) ⟨_, rfl, _, k2, by rw [List.length_map]; omega, fun b nb => by rw [upd_ne nb]; exact k1 b nb, ?_⟩
                rw [upd_same, et, List.filter_append]
                simp [hc]
          · rintro H9 ⟨k1, k2⟩
            rw [List.length_map, List.take_length] at k2
            obtain ⟨x3, rest, e3, w3, n3⟩ := free_letter (ws := ws) (by omega)
            rw [e3] at k2
            have hw9 : Ws H9 D ws := by
              show H9 D = _
              rw [k1 D nDD]
              exact hw8
            have fr9 : ∀ c o, H7 c = some o → H9 c = some o := fun c o e => by
              have e8 := s8 _ _ e
              rw [k1 c (ne_of_none e8 nD2)]
              exact e8
            have pu9 : Pu H9 p (n + 12 + 11 * ((i + 1 : Nat) : Int)) := by
              obtain ⟨xs9, h1, h2⟩ := pu
              exact ⟨xs9, fr9 _ _ h1, h2⟩
            refine ⟨D2, _, ((0 : Nat) : Int), V.str x3, rfl, rfl, SqL.of k2, atI_nat rfl, ?_⟩
            exact ⟨_, rfl, Or.inl ⟨rfl, _, SqL.of hw9⟩, _, rfl, D, _, _, rfl, rfl, hw9, lw, pt x3 H9 _ w3 n3 hw9 (b7.trans fun c o _ e => fr9 c o e) pu9⟩
        · refine ifF (by simpa using hin) ?_
          exact ⟨_, rfl, Or.inl ⟨rfl, _, SqL.of hw7⟩, _, rfl, D, _, _, rfl, rfl, hw7, lw, pt x2 H7 _ wx hin hw7 b7 pu⟩
    · rintro σ H' ⟨⟨o6, o7, o8, rfl⟩, hp5, b5, ws, hw, hl, nd, wd⟩
      exact ⟨_, rfl, q D ws H' (by omega) nd wd (hp5.mono (by omega)) b5 fD hw⟩
end
end K2
end
section
set_option Elab.async false
set_option linter.all false
set_option maxRecDepth 100000
set_option maxHeartbeats 4000000
namespace RevX
open PySem PySem.Spec PyProof.Rows HT
section
variable {prog : Program} {w : World} {A : Around} {E : Value → Shared → Prop} {s : Shared}
theorem applied_rev {sl : Addr} {vl vu vs : Value} {Q : Int × Int × Nat → Shared → Prop} (hs : s.heap.IsSliceOf sl vl vu vs) (pl : IsPart vl none) (pu : IsPart vu none) (ps : IsPart vs (some (-1))) (h : Q (1, -1, 2) s) :
    wpAny (model prog w) A (Builtin.Slice.sliceApplied (.ref sl) (pure ((2 : Nat) : Int))) Q E s := by
  obtain ⟨os, hos, hcs, hds⟩ := id hs
  unfold Builtin.Slice.sliceApplied Builtin.Slice.sliceFields
  refine wpAny_bind (wpAny_bind (wpAny_field hos hds (x := vl) rfl (wpAny_bind (wpAny_field hos hds (x := vu) rfl (wpAny_bind (wpAny_field hos hds (x := vs) rfl (wpAny_pure ?_)))))))
  refine wpAny_bind (slicePart_ ps ?_)
  show wpAny _ _ (if ((-1 : Int) == 0) = true then _ else _) _ _ s
  rw [if_neg (by decide)]
  refine wpAny_bind (slicePart_ pl (wpAny_bind (slicePart_ pu (wpAny_bind (wpAny_pure ?_)))))
  exact wpAny_pure h
/-- (u, v)[::-1] -/
theorem item_rev {t sl : Addr} {u v vl vu vs : Value} {Q : Value → Shared → Prop} (ht : IsTup s.heap t #[u, v]) (hs : s.heap.IsSliceOf sl vl vu vs) (pl : IsPart vl none) (pu : IsPart vu none) (ps : IsPart vs (some (-1)))
    (h : Q (.ref s.heap.objs.size) { s with heap := s.heap.push { cls := .type "tuple", data := .seq #[v, u] } }) : wpAny (model prog w) A (getItem (.ref t) (.ref sl)) Q E s := by
  obtain ⟨os, hos, hcs, hds⟩ := id hs
  have hTs : s.TypeIs (.ref sl) "slice" := ⟨os, hos, hcs⟩
  unfold getItem
  try with_reducible refine wpAny_holding ?_
  first | refine wpAny_bind (wpAny_pure ?_) | skip
  refine wpAny_bind (wpAny_sequenceKey ht.typeIs (by decide) ?_)
  refine wpAny_bind (wpAny_callSpecial?_slot (name := Str.ofString "__getitem__") ht.typeIs PyProof.Rows.slot_tuple_getitem
    (wpAny_call_entry PyProof.Rows.slot_tuple_getitem ht.typeIs entry_tuple_getitem ?_ (args_tuple_getitem _ _)))
  show wpAny _ _ (Builtin.Tuple.tupleItemsOf (.ref t) >>= _) _ _ s
  refine wpAny_bind (tupleItemsOf_ ht (wpAny_bind (wpAny_typeOf hTs ?_)))
  rw [if_pos (by decide)]
  refine wpAny_bind (applied_rev hs pl pu ps ?_)
  show wpAny _ _ (if (((1 : Int) == 0) && ((-1 : Int) == 1) && (2 == 2)) = true then _ else _) _ _ s
  rw [if_neg (by decide)]
  have hz : sizeOk (.seq #[v, u]) := by show 2 ≤ sizeLine; decide +kernel
  have e : ((List.range 2).filterMap fun (k : Nat) => (#[u, v] : Array Value)[((1 : Int) + (k : Int) * (-1)).toNat]?).toArray = #[v, u] := rfl
  rw [e]
  first
    | exact wpAny_bind (m := Builtin.Tuple.tupleExact _) (wpAny_newObj_type (wpAny_pure ⟨_, rfl, wpAny_pure h⟩) hz)
    | exact wpAny_bind (m := Builtin.Tuple.tupleExact _) (wpAny_newObj_type (wpAny_bind (wpAny_pure (wpAny_pure ⟨_, rfl, wpAny_pure h⟩))) hz)
    | exact wpAny_bind (wpAny_bind (m := Builtin.Tuple.tupleExact _) (wpAny_newObj_type (wpAny_pure (wpAny_pure ⟨_, rfl, wpAny_pure h⟩)) hz))
    | exact wpAny_bind (wpAny_bind (m := Builtin.Tuple.tupleExact _) (wpAny_newObj_type (wpAny_pure ⟨_, rfl, wpAny_pure h⟩) hz))
end
end RevX
namespace L2
open PySem PySem.Spec PyProof.Rows
/-- t[::-1], t a pair -/
def tRev2 (K : PySem.W.Frag) (te : TE) : TE := fun σ H Q => te σ H fun x H1 => ∃ a y z, x = .ref a ∧ SqT K H1 a [y, z] ∧ ∀ p, H1 p = none → Q (.ref p) (upd H1 p (.tup [z, y]))
theorem pe_rev2 {X : Cx} {e : Expr} {te : TE} {k : Nat} {p1 p2 p3 pos : Pos} (he : PE X e te) : PE X (.Subscript e (.Slice none none (some (.UnaryOp .USub (.Constant (.int 1) k p1) p2)) p3) pos) (tRev2 X.K te) := by
  refine ⟨fun pins s σ H Q I h => ?_⟩
  refine Subscript_ (thn (he.run pins s σ H _ I h) fun v s1 ⟨x, H1, I1, r1, a, y, z, ex, hx, q⟩ => ?_)
  subst ex
  cases r1
  have step : PO X (some (.UnaryOp .USub (.Constant (.int 1) k p1) p2)) (tPart (tUn (rU fun i => .int (-i)) (tC (.int 1)))) := po_some (pe_un un_neg pe_int)
  refine wpAny_Slice (thn (po_none.run pins s1 σ H1 (fun o G => o = none ∧ G = H1) I1 ⟨rfl, rfl⟩) fun vl s2 ⟨l, H2, I2, pl, el, e2⟩ => thn (po_none.run pins s2 σ H2 (fun o G => o = none ∧ G = H2) I2 ⟨rfl, rfl⟩) fun vu s3 ⟨u, H3, I3, pu, eu, e3⟩ =>
    thn (step.run pins s3 σ H3 (fun o G => o = some (-1) ∧ G = H3) I3 ⟨1, rfl, -1, rfl, rfl, rfl⟩) fun vs s4 ⟨o, H4, I4, ps, eo, e4⟩ => ?_)
  subst el e2 eu e3 eo e4
  have I5 : Inv X pins σ H4 { s4 with heap := s4.heap.push { cls := .type "slice", data := .fields #[vl, vu, vs] } } := I4.kept (t' := s4.toks) fun b ob q => Heap.get?_push_of_some _ q
  obtain ⟨its, r, ht, hz⟩ := I5.tuple hx
  obtain ⟨u1, u2, rfl, ra, rb⟩ := vals2 r
  show wpAny (model X.prog X.w) X.A (subscriptTail e (.Slice none none (some (.UnaryOp .USub (.Constant (.int 1) k p1) p2)) p3) (.ref a) (.ref s4.heap.objs.size)) (EP X pins σ Q) X.xe { s4 with heap := s4.heap.push { cls := .type "slice", data := .fields #[vl, vu, vs] } }
  refine tail_any (ops := [.ref a, .ref s4.heap.objs.size]) ht.typeIs (PyProof.Rows.slot_tuple_getitem.lookup) ?_ (by with_unfolding_all rfl)
  refine RevX.item_rev ht (Heap.IsSliceOf.new _ vl vu vs) pl pu ps ?_
  exact ⟨.ref _, _, I5.laid (t' := s4.toks) (o := .tup [z, y]) (fun b ob q => Heap.get?_push_of_some _ q) (Nat.le_refl _) ⟨by show 2 ≤ sizeLine; decide +kernel, _, .cons rb (.cons ra .nil), IsTup.new _ _⟩, rfl, q _ (I5.hok.fresh (Nat.le_refl _))⟩
end L2
end
section
set_option Elab.async false
set_option linter.all false
set_option maxRecDepth 100000
set_option maxHeartbeats 4000000
namespace K2
open PySem PySem.Spec PyProof.Rows L2
/-! ### data that are compared -/
theorem eqv_nil (ds : List PyData) : PyData.eqv (.list ds) (.list []) = ds.isEmpty := by
  cases ds <;> rfl
theorem nil_shaped : SeqAt.shaped (.list []) = true := by decide +kernel
theorem wd_ok {x : Str} (h : Wd x) : PyData.strOk x = true := by
  unfold PyData.strOk
  rw [← Array.all_toList, List.all_eq_true]
  intro c hc
  have := h.2.2 c hc
  exact decide_eq_true (by omega)
theorem lay_strs : ∀ ws : List Str, (∀ x ∈ ws, Wd x) → PyData.canLayAll0 (ws.map PyData.str) = true
  | [], _ => rfl
  | w :: ws, h => by
    have ih := lay_strs ws fun x hx => h x (List.mem_cons_of_mem _ hx)
    simp [PyData.canLayAll0, PyData.canLay0, ih, wd_ok (h w List.mem_cons_self)]
theorem depth_strs : ∀ ws : List Str, PyData.depthAll (ws.map PyData.str) ≤ 1
  | [] => Nat.zero_le _
  | w :: ws => by
    have ih := depth_strs ws
    show max (PyData.depth (.str w)) (PyData.depthAll (ws.map PyData.str)) ≤ 1
    exact Nat.max_le.mpr ⟨by simp [PyData.depth], ih⟩
theorem strs_shaped {ws : List Str} (h : ∀ x ∈ ws, Wd x) : SeqAt.shaped (.list (ws.map PyData.str)) = true := by
  have h1 : PyData.canLay0 (.list (ws.map PyData.str)) = true := lay_strs ws h
  have h2 : PyData.depth (.list (ws.map PyData.str)) ≤ 64 := by
    show PyData.depthAll (ws.map PyData.str) + 1 ≤ 64
    have := depth_strs ws
    omega
  unfold SeqAt.shaped
  rw [h1, decide_eq_true h2]
  rfl
theorem dp_strs {K : PySem.W.Frag} {H : Hp} : ∀ ws : List Str, DpAll K H (ws.map V.str) (ws.map PyData.str)
  | [] => .nil
  | w :: ws => .cons (.str w) (dp_strs ws)
/-- a street -/
structure S5 where
  nm : Str
  st : Str
  en : Str
  wd : Int
  ln : Int
def S5.vals (s : S5) : List V := [.str s.nm, .str s.st, .str s.en, .int s.wd, .int s.ln]
def S5.data (s : S5) : PyData := .tuple [.str s.nm, .str s.st, .str s.en, .int s.wd, .int s.ln]
/-- at D the list of the streets ts (address, street) -/
def Sts (H : Hp) (D : Addr) (ts : List (Addr × S5)) : Prop := H D = some (.lst (ts.map fun t => V.ref t.1)) ∧ ∀ t ∈ ts, H t.1 = some (.tup t.2.vals)
theorem dp_sts {K : PySem.W.Frag} {H : Hp} : ∀ {ts : List (Addr × S5)}, (∀ t ∈ ts, H t.1 = some (.tup t.2.vals)) → DpAll K H (ts.map fun t => V.ref t.1) (ts.map fun t => t.2.data)
  | [], _ => .nil
  | t :: ts, h => .cons (.tup (SqT.of (h t List.mem_cons_self)) (.cons (.str _) (.cons (.str _) (.cons (.str _) (.cons (.int _) (.cons (.int _) .nil)))))) (dp_sts fun u hu => h u (List.mem_cons_of_mem _ hu))
/-- its words are words -/
def S5.Ok (s : S5) : Prop := Wd s.nm ∧ Wd s.st ∧ Wd s.en ∧ s.st ≠ s.en ∧ 0 ≤ s.wd ∧ s.wd ≤ 9 ∧ 0 ≤ s.ln ∧ s.ln ≤ 9
theorem lay_sts : ∀ ss : List S5, (∀ s ∈ ss, s.Ok) → PyData.canLayAll0 (ss.map S5.data) = true
  | [], _ => rfl
  | s :: ss, h => by
    have ih := lay_sts ss fun x hx => h x (List.mem_cons_of_mem _ hx)
    obtain ⟨h1, h2, h3, _⟩ := h s List.mem_cons_self
    simp [PyData.canLayAll0, PyData.canLay0, S5.data, ih, wd_ok h1, wd_ok h2, wd_ok h3]
theorem depth_sts : ∀ ss : List S5, PyData.depthAll (ss.map S5.data) ≤ 3
  | [] => Nat.zero_le _
  | s :: ss => by
    have ih := depth_sts ss
    show max (PyData.depth s.data) (PyData.depthAll (ss.map S5.data)) ≤ 3
    refine Nat.max_le.mpr ⟨?_, ih⟩
    simp [S5.data, PyData.depth, PyData.depthAll]
theorem sts_shaped {ss : List S5} (h : ∀ s ∈ ss, s.Ok) : SeqAt.shaped (.list (ss.map S5.data)) = true := by
  have h1 : PyData.canLay0 (.list (ss.map S5.data)) = true := lay_sts ss h
  have h2 : PyData.depth (.list (ss.map S5.data)) ≤ 64 := by
    show PyData.depthAll (ss.map S5.data) + 1 ≤ 64
    have := depth_sts ss
    omega
  unfold SeqAt.shaped
  rw [h1, decide_eq_true h2]
  rfl
/-- a pair of unlike words of C at a -/
def Pr (H : Hp) (C : List Str) (a : Addr) : Prop := ∃ x y, H a = some (.tup [.str x, .str y]) ∧ x ∈ C ∧ y ∈ C ∧ x ≠ y
def Prs (H : Hp) (D : Addr) (C : List Str) (ps : List Addr) : Prop := H D = some (.lst (ps.map V.ref)) ∧ ∀ a ∈ ps, Pr H C a
end K2
end
section
set_option Elab.async false
set_option linter.all false
set_option maxRecDepth 100000
set_option maxHeartbeats 8000000
namespace K2
open PySem PySem.Spec PyProof.Rows L2
theorem weak {X : Cx} {st : List Stmt} {t t' : TS} (h : PSs X st t) (w : ∀ D σ H, t' D σ H → t D σ H) : PSs X st t' := ⟨fun pins s σ H D I q => h.run pins s σ H D I (w D σ H q)⟩
theorem Prs.keep {H H' : Hp} {D : Addr} {C : List Str} {ps : List Addr} (h : Prs H D C ps) (k : ∀ b o, H b = some o → H' b = some o) : Prs H' D C ps := by
  refine ⟨k _ _ h.1, fun a ha => ?_⟩
  obtain ⟨x, y, e, r⟩ := h.2 a ha
  exact ⟨x, y, k _ _ e, r⟩
theorem Pr.keep {H H' : Hp} {a : Addr} {C : List Str} (h : Pr H C a) (k : ∀ b o, H b = some o → H' b = some o) : Pr H' C a := by
  obtain ⟨x, y, e, r⟩ := h
  exact ⟨x, y, k _ _ e, r⟩
theorem strs_at {gs : List Str} {i : Nat} {x : Str} (h : gs[i]? = some x) : (gs.map V.str)[i]? = some (.str x) := by
  rw [List.getElem?_map, h]
  rfl
theorem prev_at {gs : List Str} {i : Nat} {x : Str} (nd : gs.Nodup) (h2 : 2 ≤ gs.length) (hx : gs[i]? = some x) : ∃ y, atI (gs.map V.str) ((0 + (i : Int)) - 1) = some (.str y) ∧ y ∈ gs ∧ y ≠ x := by
  have lt := (List.getElem?_eq_some_iff.mp hx).1
  have key : ∀ j : Nat, j < gs.length → j ≠ i → ixN gs.length ((0 + (i : Int)) - 1) = some j → ∃ y, atI (gs.map V.str) ((0 + (i : Int)) - 1) = some (.str y) ∧ y ∈ gs ∧ y ≠ x := fun j lj nj e => by
    have ej : gs[j]? = some gs[j] := List.getElem?_eq_getElem lj
    refine ⟨gs[j], ?_, List.getElem_mem lj, fun e2 => nj ?_⟩
    · unfold atI
      rw [List.length_map, e]
      exact strs_at ej
    · exact (List.getElem?_inj lj nd).mp (by rw [ej, e2, hx])
  unfold ixN at key
  by_cases h0 : i = 0
  · subst h0
    refine key (gs.length - 1) (by omega) (by omega) ?_
    rw [if_neg (by omega), if_pos (by omega)]
    congr 1
    omega
  · refine key (i - 1) (by omega) (by omega) ?_
    rw [if_pos (by omega), if_pos (by omega)]
    congr 1
    omega
abbrev NS : List Str := ["_law_purse_here", "_law_gates", "_law_inner", "_law_way", "_law_found", "_law_at", "_law_row", "_law_gate"]
theorem scShape : FnScope NS ["_law_purse_here", "_law_gates", "_law_inner"] (defScope sShape) := ⟨rfl, rfl, rfl, by decide +kernel, rfl, by decide +kernel, by decide +kernel⟩
def shS (i : Nat) : Stmt := (defBody sShape).getD i (.Pass ⟨0, 0, 0, 0⟩)
/-- what is handed: gates and crossings within, all unlike -/
structure ShG (H : Hp) (p lg li : Addr) (gs is : List Str) : Prop where
  g : Ws H lg gs
  i : Ws H li is
  np : lg ≠ p
  pt : ∃ xs, H p = some (.lst xs)
  nq : li ≠ p
  nd : (gs ++ is).Nodup
  wd : ∀ x ∈ gs ++ is, Wd x
  l1 : 1 ≤ gs.length
  l5 : gs.length ≤ 5
  l8 : is.length ≤ 8
def ShI (k : Int) (p lg li : Addr) (gs is : List Str) (H : Hp) (n : Int) : L2.St → Hp → Prop := fun σ H' => ∃ (way : Int) (D : Addr) (ps : List Addr) (o5 o6 o7 : Option V), σ = [some (.ref p), some (.ref lg), some (.ref li), some (.int way), some (.ref D), o5, o6, o7] ∧
  Pu H' p (n + 1) ∧ But p H H' ∧ H D = none ∧ Prs H' D (gs ++ is) ps ∧ ps.length ≤ 12 ∧ (ps = [] ∨ way < k)
def tSh (k : Int) (p lg li : Addr) (gs is : List Str) (H0 : Hp) (n : Int) (u : TS) : TS := fun E σ H' => ShI k p lg li gs is H0 n σ H' ∧ ∀ σ2 H2, ShI (k + 1) p lg li gs is H0 n σ2 H2 → u E σ2 H2
abbrev SX (P : Program) (w : World) (K : PySem.W.Frag) (mg : Str → Option Value) (base : Heap) (f : Addr) (cdv : Value) (A : Around) (outer : List Env) (s : Shared) (H : Hp) (E : XK) : Cx := (cxOf CX0 P w K mg base NS "_law_shape" (defScope sShape) f cdv A outer s H E).nox
section
variable {P : Program} {w : World} {K : PySem.W.Frag} {mg : Str → Option Value} {base : Heap} {f : Addr} {cdv : Value} {A : Around} {outer : List Env} {s : Shared} {Hl : Hp} {E : XK} {p lg li : Addr} {gs is : List Str} {H0 : Hp} {n : Int}
theorem sh0 (T : Tx K mg) (B : ShG H0 p lg li gs is) {rest : List Stmt} {u : TS} (hu : PSs (SX P w K mg base f cdv A outer s Hl E) rest u) : PSs (SX P w K mg base f cdv A outer s Hl E) (shS 1 :: rest) (tSh 0 p lg li gs is H0 n u) := by
  have gL := T.fr "len" (by decide +kernel)
  have gR := T.fr "range" (by decide +kernel)
  refine weak (t := tSeq _ u) (pss_cons (ps_if (PW.pt (pw_and (pt_cmpR op_eq (pv 3) pe_int (nomark _)) (pw_and1 (pt_cmpR op_gt (pe_callB call_len_seq (by rfl) gL PySem.boot_len (pa_cons (pv 1) pa_nil)) pe_int (nomark _)))))
    (pss_one (ps_for PassesOwn.never rfl (pi_range1 rfl gR (pa_cons (pe_callB call_len_seq (by rfl) gL PySem.boot_len (pa_cons (pv 1) pa_nil)) pa_nil)) (pg_name (i := 5) scShape.nd rfl (Or.inl rfl))
      (pss_one (ps_expr (pe_bm PySem.F.plainAttrs_list PySem.F.slot_list_append PySem.F.type_list_append mt_append (pv 4) (pa_cons (pe_tup (pa_cons (pe_ix ix_list (pv 1) (pv 5) (fun _ _ => rfl)) (pa_cons (pe_ix ix_list (pv 1) (pe_op op_sub (pv 5) pe_int) (fun _ _ => rfl)) pa_nil))) pa_nil)))))) pss_nil) hu) ?_
  rintro D σ H ⟨⟨way, L, ps, o5, o6, o7, rfl, hp, bu, fL, hP, hl, hk⟩, q⟩
  have hg : Ws H lg gs := bu _ _ B.np B.g
  have sl := sizeLine_eq
  have back : ∀ o5 o6 o7, u D [some (.ref p), some (.ref lg), some (.ref li), some (.int way), some (.ref L), o5, o6, o7] H := fun a b c => q _ _ ⟨way, L, ps, a, b, c, rfl, hp, bu, fL, hP, hl, hk.imp id fun z => by omega⟩
  refine ⟨_, rfl, rfl, _, rfl, ?_⟩
  by_cases hw : way = 0
  · refine ifT (by simpa using hw) ⟨_, rfl, lg, _, rfl, Or.inl (SqL.of hg), _, _, rfl, rfl, _, rfl, ?_⟩
    have e0 : ps = [] := hk.elim id fun z => absurd z (by omega)
    subst e0
    by_cases h2 : 2 ≤ gs.length
    · refine ifT (decide_eq_true (by rw [List.length_map]; omega)) ?_
      refine ⟨_, rfl, lg, _, rfl, Or.inl (SqL.of hg), _, rfl, by rw [List.length_map]; have := B.l5; omega, by rw [List.length_map]; have := B.l5; omega, ?_⟩
      rw [List.length_map]
      have nLg : L ≠ lg := fun e => by
        rw [e, B.g] at fL
        cases fL
      refine for_range (n := gs.length) (fun i σ H' => (∃ o5, σ = [some (.ref p), some (.ref lg), some (.ref li), some (.int way), some (.ref L), o5, o6, o7]) ∧ Pu H' p (n + 1) ∧ But p H0 H' ∧ ∃ ps : List Addr, Prs H' L (gs ++ is) ps ∧ ps.length = i)
        ⟨⟨_, rfl⟩, hp, bu, [], hP, rfl⟩ ?_ ?_
      · rintro i σ H' hi ⟨⟨o5, rfl⟩, hp1, b1, ps, hP1, hl1⟩
        have hg1 : Ws H' lg gs := b1 _ _ B.np B.g
        have l5 := B.l5
        have ei : gs[i]? = some gs[i] := List.getElem?_eq_getElem hi
        obtain ⟨y, ey, my, ny⟩ := prev_at (List.nodup_append.mp B.nd).1 h2 ei
        refine ⟨_, rfl, Or.inl ⟨rfl, _, SqL.of hP1.1⟩, _, rfl, _, rfl, lg, _, ((i : Nat) : Int), _, rfl, by rw [Int.zero_add], SqL.of hg1, atI_nat (strs_at ei), _, rfl, _, rfl, _, _, rfl, rfl, lg, _, _, _, rfl, rfl, SqL.of hg1, ey, ?_⟩
        refine ⟨(by show 2 ≤ sizeLine; decide +kernel), fun t nt => ?_⟩
        have ntL : L ≠ t := ne_of_none hP1.1 nt
        obtain ⟨xs1, hx1, hx2⟩ := hp1
        have ntp : p ≠ t := ne_of_none hx1 nt
        have npL : p ≠ L := fun e => by
          obtain ⟨xs, h1⟩ := B.pt
          rw [e, fL] at h1
          cases h1
        refine ⟨L, _, _, rfl, rfl, by rw [upd_ne (Ne.symm (Ne.symm ntL))]; exact hP1.1, by rw [List.length_map]; omega, ?_⟩
        refine ⟨⟨_, rfl⟩, ⟨xs1, by rw [upd_ne npL, upd_ne ntp]; exact hx1, hx2⟩, fun b o nb e => by rw [upd_ne (ne_of_none e fL)]; exact but_new nt b o nb (b1 b o nb e), ps ++ [t], ⟨by rw [upd_same, List.map_append]; rfl, fun a ha => ?_⟩, by simp [hl1]⟩
        rcases List.mem_append.mp ha with h | h
        · obtain ⟨x, z, e, r⟩ := hP1.2 a h
          exact ⟨x, z, by rw [upd_ne (ne_of e hP1.1 (by intro z; cases z)), upd_ne (ne_of_none e nt)]; exact e, r⟩
        · rw [List.mem_singleton.mp h]
          exact ⟨_, _, by rw [upd_ne (Ne.symm ntL)]; exact upd_same, List.mem_append_left _ (List.getElem_mem hi), List.mem_append_left _ my, Ne.symm ny⟩
      · rintro σ H' ⟨⟨o5, rfl⟩, hp1, b1, ps, hP1, hl1⟩
        exact q _ _ ⟨way, L, ps, _, _, _, rfl, hp1, b1, fL, hP1, by have := B.l5; omega, Or.inr (by omega)⟩
    · exact ifF (fun z => by have z := of_decide_eq_true z; rw [List.length_map] at z; omega) (back o5 o6 o7)
  · exact ifF (by simpa using hw) (ifF (by decide) (back o5 o6 o7))
end
end K2
end
section
set_option Elab.async false
set_option linter.all false
set_option maxRecDepth 100000
set_option maxHeartbeats 8000000
namespace K2
open PySem PySem.Spec PyProof.Rows L2
/-- a comprehension of pairs, at its turn j -/
def PvC (H1 : Hp) (D : Addr) (C : List Str) (j : Nat) (H' : Hp) : Prop := Same H1 H' ∧ ∃ ps, Prs H' D C ps ∧ ps.length = j
theorem pvc_start {H1 : Hp} {D : Addr} {C : List Str} (nD : H1 D = none) : PvC H1 D C 0 (upd H1 D (.lst [])) := ⟨same_upd nD, [], ⟨upd_same, fun a h => by simp at h⟩, rfl⟩
theorem pvc_step {H1 H' : Hp} {D t : Addr} {C : List Str} {j : Nat} {x y : Str} (h : PvC H1 D C j H') (nD : H1 D = none) (nt : H' t = none) (hx : x ∈ C) (hy : y ∈ C) (ne : x ≠ y) :
    ∃ ps : List Addr, upd H' t (.tup [.str x, .str y]) D = some (.lst (ps.map V.ref)) ∧ ps.length = j ∧ PvC H1 D C (j + 1) (upd (upd H' t (.tup [.str x, .str y])) D (.lst (ps.map V.ref ++ [V.ref t]))) := by
  obtain ⟨s1, ps, ⟨h1, h2⟩, hl⟩ := h
  have nDt : D ≠ t := ne_of_none h1 nt
  refine ⟨ps, by rw [upd_ne nDt]; exact h1, hl, fun b o e => ?_, ps ++ [t], ⟨by rw [upd_same, List.map_append]; rfl, fun a ha => ?_⟩, by simp [hl]⟩
  · rw [upd_ne (ne_of_none e nD), upd_ne (ne_of_none (s1 _ _ e) nt)]
    exact s1 _ _ e
  · rcases List.mem_append.mp ha with h | h
    · obtain ⟨u, v, e, r⟩ := h2 a h
      exact ⟨u, v, by rw [upd_ne (ne_of e h1 (by intro z; cases z)), upd_ne (ne_of_none e nt)]; exact e, r⟩
    · rw [List.mem_singleton.mp h]
      exact ⟨x, y, by rw [upd_ne (Ne.symm nDt)]; exact upd_same, hx, hy, ne⟩
section
variable {P : Program} {w : World} {K : PySem.W.Frag} {mg : Str → Option Value} {base : Heap} {f : Addr} {cdv : Value} {A : Around} {outer : List Env} {s : Shared} {Hl : Hp} {E : XK} {p lg li : Addr} {gs is : List Str} {H0 : Hp} {n : Int}
theorem sh1 (T : Tx K mg) (B : ShG H0 p lg li gs is) (hu64 : (A.deeper (envOfC "_law_shape" (defScope sShape) s.heap.objs.size f cdv)).units + 64 < cLine) {rest : List Stmt} {u : TS} (hu : PSs (SX P w K mg base f cdv A outer s Hl E) rest u) :
    PSs (SX P w K mg base f cdv A outer s Hl E) (shS 2 :: rest) (tSh 1 p lg li gs is H0 n u) := by
  refine weak (t := tSeq _ u) (pss_cons (ps_if (PW.pt (pw_and (pt_cmpR op_eq (pv 3) pe_int (nomark _)) (pw_and1 (pt_cmpR (op_neD hu64) (pv 2) (pe_lst pa_nil) (nomark _)))))
    (pss_one (ps_set (i := 4) scShape.nd rfl (Or.inl rfl) (pe_op op_cat
      (pe_lc (own := [("_law_gate", 7)]) (g := gName 7) (tt := tYes) rfl scShape.nd (pi_list (pv 1)) (blkOk_by (own := [("_law_gate", 7)]) (N := NS) (sc := defScope sShape) (by decide +kernel))
        (fun _ _ _ _ _ => pg_name (i := 7) scShape.nd rfl (Or.inl rfl)) (fun _ _ _ _ _ => pts_nil) (te := tTup (tCons (tVar 7) (tCons (tOp (rIxL K) (tVar 2) (tC (.int 0))) tNil))) (fun _ _ _ _ _ => pe_tup (pa_cons (pv 7) (pa_cons (pe_ix ix_list (pv 2) pe_int (fun _ _ => rfl)) pa_nil))))
      (pe_lc (own := [("_law_gate", 7)]) (g := gName 7) (tt := tYes) rfl scShape.nd (pi_list (pv 1)) (blkOk_by (own := [("_law_gate", 7)]) (N := NS) (sc := defScope sShape) (by decide +kernel))
        (fun _ _ _ _ _ => pg_name (i := 7) scShape.nd rfl (Or.inl rfl)) (fun _ _ _ _ _ => pts_nil) (te := tTup (tCons (tOp (rIxL K) (tVar 2) (tC (.int 0))) (tCons (tVar 7) tNil))) (fun _ _ _ _ _ => pe_tup (pa_cons (pe_ix ix_list (pv 2) pe_int (fun _ _ => rfl)) (pa_cons (pv 7) pa_nil))))))) pss_nil) hu) ?_
  rintro D σ H ⟨⟨way, L, ps, o5, o6, o7, rfl, hp, bu, fL, hP, hl, hk⟩, q⟩
  have hg : Ws H lg gs := bu _ _ B.np B.g
  have hi : Ws H li is := bu _ _ B.nq B.i
  have sl := sizeLine_eq
  have l5 := B.l5
  have l8 := B.l8
  have back : ∀ o5 o6 o7, u D [some (.ref p), some (.ref lg), some (.ref li), some (.int way), some (.ref L), o5, o6, o7] H := fun a b c => q _ _ ⟨way, L, ps, a, b, c, rfl, hp, bu, fL, hP, hl, hk.imp id fun z => by omega⟩
  refine ⟨_, rfl, rfl, _, rfl, ?_⟩
  by_cases hw : way = 1
  · refine ifT (by simpa using hw) ⟨_, rfl, Nat.zero_le _, fun N nN => ?_⟩
    have sN : Same H (upd H N (.lst [])) := same_upd nN
    have hN : upd H N (.lst []) N = some (.lst []) := upd_same
    generalize upd H N (.lst []) = H1 at sN hN ⊢
    refine ⟨_, _, .lst (SqL.of (sN _ _ hi)) (dp_strs is), .lst (SqL.of hN) .nil, strs_shaped fun x hx => B.wd x (List.mem_append_right _ hx), nil_shaped, _, rfl, ?_⟩
    rw [eqv_nil]
    have b1 : But p H0 H1 := bu.trans fun b o _ e => sN b o e
    have p1 : Pu H1 p (n + 1) := by
      obtain ⟨xs, h1, h2⟩ := hp
      exact ⟨xs, sN _ _ h1, h2⟩
    match is, hi, B with
    | [], hi, B =>
      exact ifF (by decide) (q _ _ ⟨way, L, ps, _, _, _, rfl, p1, b1, fL, hP.keep sN, hl, hk.imp id fun z => by omega⟩)
    | x0 :: r, hi, B =>
      refine ifT rfl ?_
      have x0C : x0 ∈ gs ++ x0 :: r := List.mem_append_right _ List.mem_cons_self
      have gC : ∀ {i : Nat} {y : Str}, gs[i]? = some y → y ∈ gs ++ x0 :: r ∧ y ≠ x0 := fun {i y} e => by
        have m := List.mem_of_getElem? e
        exact ⟨List.mem_append_left _ m, (List.nodup_append.mp B.nd).2.2 y m x0 List.mem_cons_self⟩
      have hg1 := sN _ _ hg
      have hi1 := sN _ _ hi
      refine ⟨_, rfl, lg, rfl, ⟨_, SqL.of hg1⟩, fun D1 nD1 => ?_⟩
      refine lc_list (K := K) (a := lg) (xs := gs.map V.str) (PvC H1 D1 (gs ++ x0 :: r)) (pvc_start nD1) (fun i H' _ h => SqL.of (h.1 _ _ hg1)) ?_ ?_
      · intro i y H' hj h
        rw [List.getElem?_map] at hj
        cases e : gs[i]? with
        | none =>
          rw [e] at hj
          cases hj
        | some y =>
          rw [e] at hj
          cases hj
          have lt := (List.getElem?_eq_some_iff.mp e).1
          refine ⟨rfl, _, rfl, _, rfl, li, _, ((0 : Nat) : Int), _, rfl, rfl, SqL.of (h.1 _ _ hi1), atI_nat rfl, (by show 2 ≤ sizeLine; decide +kernel), fun t nt => ?_⟩
          obtain ⟨qs, k1, k2, k3⟩ := pvc_step h nD1 nt (gC e).1 x0C (gC e).2
          exact ⟨_, k1, by rw [List.length_map]; omega, k3⟩
      · rintro H2 ⟨s2, ps1, hP1, hl1⟩
        have hg2 := s2 _ _ hg1
        have hi2 := s2 _ _ hi1
        refine ⟨_, rfl, lg, rfl, ⟨_, SqL.of hg2⟩, fun D2 nD2 => ?_⟩
        refine lc_list (K := K) (a := lg) (xs := gs.map V.str) (PvC H2 D2 (gs ++ x0 :: r)) (pvc_start nD2) (fun i H' _ h => SqL.of (h.1 _ _ hg2)) ?_ ?_
        · intro i y H' hj h
          rw [List.getElem?_map] at hj
          cases e : gs[i]? with
          | none =>
            rw [e] at hj
            cases hj
          | some y =>
            rw [e] at hj
            cases hj
            have lt := (List.getElem?_eq_some_iff.mp e).1
            refine ⟨rfl, _, rfl, li, _, ((0 : Nat) : Int), _, rfl, rfl, SqL.of (h.1 _ _ hi2), atI_nat rfl, _, rfl, (by show 2 ≤ sizeLine; decide +kernel), fun t nt => ?_⟩
            obtain ⟨qs, k1, k2, k3⟩ := pvc_step h nD2 nt x0C (gC e).1 (Ne.symm (gC e).2)
            exact ⟨_, k1, by rw [List.length_map]; omega, k3⟩
        · rintro H3 ⟨s3, ps2, hP2, hl2⟩
          have hP13 := hP1.keep s3
          rw [List.length_map] at hl1 hl2
          refine ⟨D1, D2, _, _, rfl, rfl, hP13.1, hP2.1, by rw [List.length_map, List.length_map]; omega, fun D3 nD3 => ?_⟩
          have b3 : But p H0 H3 := b1.trans fun b o _ e => s3 _ _ (s2 _ _ e)
          have ND : D3 ≠ p := fun e => by
            obtain ⟨xs, h1, _⟩ := p1
            rw [e, s3 _ _ (s2 _ _ h1)] at nD3
            cases nD3
          have p3 : Pu H3 p (n + 1) := by
            obtain ⟨xs, h1, h2⟩ := p1
            exact ⟨xs, s3 _ _ (s2 _ _ h1), h2⟩
          refine q _ _ ⟨way, D3, ps1 ++ ps2, _, _, _, rfl, p3.upd (Ne.symm ND), b3.trans (but_new nD3), b3.free nD3 ND, ⟨by rw [upd_same, List.map_append], fun a ha => ?_⟩, by rw [List.length_append]; omega, Or.inr (by omega)⟩
          rcases List.mem_append.mp ha with h | h
          · exact (hP13.2 a h).keep (same_upd nD3)
          · exact (hP2.2 a h).keep (same_upd nD3)
  · exact ifF (by simpa using hw) (ifF (by decide) (back o5 o6 o7))
end
end K2
end
section
set_option Elab.async false
set_option linter.all false
set_option maxRecDepth 100000
set_option maxHeartbeats 8000000
namespace K2
open PySem PySem.Spec PyProof.Rows L2
section
variable {P : Program} {w : World} {K : PySem.W.Frag} {mg : Str → Option Value} {base : Heap} {f : Addr} {cdv : Value} {A : Around} {outer : List Env} {s : Shared} {Hl : Hp} {E : XK} {p lg li : Addr} {gs is : List Str} {H0 : Hp} {n : Int}
theorem sh2 (T : Tx K mg) (B : ShG H0 p lg li gs is) {rest : List Stmt} {u : TS} (hu : PSs (SX P w K mg base f cdv A outer s Hl E) rest u) :
    PSs (SX P w K mg base f cdv A outer s Hl E) (shS 3 :: rest) (tSh 2 p lg li gs is H0 n u) := by
  have gL := T.fr "len" (by decide +kernel)
  refine weak (t := tSeq _ u) (pss_cons (ps_if (PW.pt (pw_and (pt_cmpR op_eq (pv 3) pe_int (nomark _)) (pw_and1 (pt_cmpR op_gt (pe_callB call_len_seq (by rfl) gL PySem.boot_len (pa_cons (pv 1) pa_nil)) pe_int (nomark _)))))
    (pss_one (ps_set (i := 4) scShape.nd rfl (Or.inl rfl) (pe_op op_cat
      (pe_op op_rep (pe_lst (pa_cons (pe_tup (pa_cons (pe_ix ix_list (pv 1) pe_int (fun _ _ => rfl)) (pa_cons (pe_ix ix_list (pv 1) pe_int (fun _ _ => rfl)) pa_nil))) pa_nil)) pe_int)
      (pe_lst (pa_cons (pe_tup (pa_cons (pe_ix ix_list (pv 1) pe_int (fun _ _ => rfl)) (pa_cons (pe_ix ix_list (pv 1) pe_int (fun _ _ => rfl)) pa_nil))) pa_nil))))) pss_nil) hu) ?_
  rintro D σ H ⟨⟨way, L, ps, o5, o6, o7, rfl, hp, bu, fL, hP, hl, hk⟩, q⟩
  have hg : Ws H lg gs := bu _ _ B.np B.g
  have sl := sizeLine_eq
  have back : ∀ o5 o6 o7, u D [some (.ref p), some (.ref lg), some (.ref li), some (.int way), some (.ref L), o5, o6, o7] H := fun a b c => q _ _ ⟨way, L, ps, a, b, c, rfl, hp, bu, fL, hP, hl, hk.imp id fun z => by omega⟩
  refine ⟨_, rfl, rfl, _, rfl, ?_⟩
  by_cases hw : way = 2
  · refine ifT (by simpa using hw) ⟨_, rfl, lg, _, rfl, Or.inl (SqL.of hg), _, _, rfl, rfl, _, rfl, ?_⟩
    match gs, hg, B with
    | [], hg, B => exact absurd B.l1 (by decide)
    | [g], hg, B => exact ifF (by simp) (q _ _ ⟨way, L, ps, _, _, _, rfl, hp, bu, fL, hP, hl, hk.imp id fun z => by omega⟩)
    | g0 :: g1 :: r, hg, B =>
      refine ifT (decide_eq_true (by simp only [List.map_cons, List.length_cons]; omega)) ?_
      have ne : g0 ≠ g1 := fun e => by
        have := (List.nodup_cons.mp B.nd).1
        rw [e] at this
        exact this (by simp)
      have m0 : g0 ∈ (g0 :: g1 :: r) ++ is := by simp
      have m1 : g1 ∈ (g0 :: g1 :: r) ++ is := by simp
      refine ⟨_, rfl, lg, _, ((0 : Nat) : Int), _, rfl, rfl, SqL.of hg, atI_nat rfl, _, rfl, lg, _, ((1 : Nat) : Int), _, rfl, rfl, SqL.of hg, atI_nat rfl, (by show 2 ≤ sizeLine; decide +kernel), fun t nt => ?_⟩
      have s1 : Same H (upd H t (.tup [.str g0, .str g1])) := same_upd nt
      have et : upd H t (.tup [.str g0, .str g1]) t = some (.tup [.str g0, .str g1]) := upd_same
      generalize upd H t (.tup [.str g0, .str g1]) = H1 at s1 et ⊢
      refine ⟨(by show 1 ≤ sizeLine; decide +kernel), fun a na => ?_⟩
      have s2 : Same H1 (upd H1 a (.lst [.ref t])) := same_upd na
      have ea : upd H1 a (.lst [.ref t]) a = some (.lst [.ref t]) := upd_same
      generalize upd H1 a (.lst [.ref t]) = H2 at s2 ea ⊢
      refine ⟨a, 3, _, rfl, rfl, ea, by decide, by decide, (by show 1 * 3 ≤ sizeLine; decide +kernel), fun b nb => ?_⟩
      have er : (List.replicate (Int.toNat 3) [V.ref t]).flatten = [V.ref t, V.ref t, V.ref t] := rfl
      rw [er]
      have s3 : Same H2 (upd H2 b (.lst [V.ref t, V.ref t, V.ref t])) := same_upd nb
      have eb : upd H2 b (.lst [V.ref t, V.ref t, V.ref t]) b = some (.lst [V.ref t, V.ref t, V.ref t]) := upd_same
      generalize upd H2 b (.lst [V.ref t, V.ref t, V.ref t]) = H3 at s3 eb ⊢
      have s03 : Same H H3 := same_trans s1 (same_trans s2 s3)
      have hg3 := s03 _ _ hg
      refine ⟨_, rfl, lg, _, ((1 : Nat) : Int), _, rfl, rfl, SqL.of hg3, atI_nat rfl, _, rfl, lg, _, ((0 : Nat) : Int), _, rfl, rfl, SqL.of hg3, atI_nat rfl, (by show 2 ≤ sizeLine; decide +kernel), fun t2 nt2 => ?_⟩
      have s4 : Same H3 (upd H3 t2 (.tup [.str g1, .str g0])) := same_upd nt2
      have et2 : upd H3 t2 (.tup [.str g1, .str g0]) t2 = some (.tup [.str g1, .str g0]) := upd_same
      generalize upd H3 t2 (.tup [.str g1, .str g0]) = H4 at s4 et2 ⊢
      refine ⟨(by show 1 ≤ sizeLine; decide +kernel), fun c nc => ?_⟩
      have s5 : Same H4 (upd H4 c (.lst [.ref t2])) := same_upd nc
      have ec : upd H4 c (.lst [.ref t2]) c = some (.lst [.ref t2]) := upd_same
      generalize upd H4 c (.lst [.ref t2]) = H5 at s5 ec ⊢
      have s35 := same_trans s4 s5
      have s05 := same_trans s03 s35
      refine ⟨b, c, _, _, rfl, rfl, s35 _ _ eb, ec, (by show 3 + 1 ≤ sizeLine; decide +kernel), fun d nd => ?_⟩
      have b5 : But p H0 H5 := bu.trans fun b o _ e => s05 _ _ e
      have ND : d ≠ p := fun e => by
        obtain ⟨xs, h1, _⟩ := hp
        rw [e, s05 _ _ h1] at nd
        cases nd
      have p5 : Pu H5 p (n + 1) := by
        obtain ⟨xs, h1, h2⟩ := hp
        exact ⟨xs, s05 _ _ h1, h2⟩
      have kd : Same H5 (upd H5 d (.lst ([V.ref t, V.ref t, V.ref t] ++ [V.ref t2]))) := same_upd nd
      have pt : Pr (upd H5 d (.lst ([V.ref t, V.ref t, V.ref t] ++ [V.ref t2]))) ((g0 :: g1 :: r) ++ is) t := ⟨g0, g1, kd _ _ (s35 _ _ (s3 _ _ (s2 _ _ et))), m0, m1, ne⟩
      have pt2 : Pr (upd H5 d (.lst ([V.ref t, V.ref t, V.ref t] ++ [V.ref t2]))) ((g0 :: g1 :: r) ++ is) t2 := ⟨g1, g0, kd _ _ (s5 _ _ et2), m1, m0, Ne.symm ne⟩
      refine q _ _ ⟨way, d, [t, t, t, t2], _, _, _, rfl, p5.upd (Ne.symm ND), b5.trans (but_new nd), b5.free nd ND, ⟨upd_same, fun a ha => ?_⟩, (by show 4 ≤ 12; decide), Or.inr (by omega)⟩
      simp only [List.mem_cons, List.not_mem_nil, or_false] at ha
      rcases ha with rfl | rfl | rfl | rfl
      · exact pt
      · exact pt
      · exact pt
      · exact pt2
  · exact ifF (by simpa using hw) (ifF (by decide) (back o5 o6 o7))
end
end K2
end
section
set_option Elab.async false
set_option linter.all false
set_option maxRecDepth 100000
set_option maxHeartbeats 8000000
namespace K2
open PySem PySem.Spec PyProof.Rows L2
section
variable {P : Program} {w : World} {K : PySem.W.Frag} {mg : Str → Option Value} {base : Heap} {f : Addr} {cdv : Value} {A : Around} {outer : List Env} {s : Shared} {Hl : Hp} {E : XK} {p lg li : Addr} {gs is : List Str} {H0 : Hp} {n : Int}
theorem sh3 (T : Tx K mg) (B : ShG H0 p lg li gs is) (hu64 : (A.deeper (envOfC "_law_shape" (defScope sShape) s.heap.objs.size f cdv)).units + 64 < cLine) {rest : List Stmt} {u : TS} (hu : PSs (SX P w K mg base f cdv A outer s Hl E) rest u) :
    PSs (SX P w K mg base f cdv A outer s Hl E) (shS 4 :: rest) (tSh 3 p lg li gs is H0 n u) := by
  have gL := T.fr "len" (by decide +kernel)
  have gR := T.fr "range" (by decide +kernel)
  refine weak (t := tSeq _ u) (pss_cons (ps_if (PW.pt (pw_and (pt_cmpR op_eq (pv 3) pe_int (nomark _)) (pw_and (pt_cmpR (op_neD hu64) (pv 2) (pe_lst pa_nil) (nomark _)) (pw_and1 (pt_cmpR op_gt (pe_callB call_len_seq (by rfl) gL PySem.boot_len (pa_cons (pv 1) pa_nil)) pe_int (nomark _))))))
    (pss_cons (ps_set (i := 6) scShape.nd rfl (Or.inr rfl) (pe_op op_cat (pe_op op_cat (pe_lst (pa_cons (pe_ix ix_list (pv 1) pe_int (fun _ _ => rfl)) pa_nil)) (pv 2)) (pe_lst (pa_cons (pe_ix ix_list (pv 1) pe_int (fun _ _ => rfl)) pa_nil))))
    (pss_one (ps_set (i := 4) scShape.nd rfl (Or.inl rfl) (pe_op op_cat
      (pe_lc (own := [("_law_at", 5)]) (g := gName 5) (tt := tYes) rfl scShape.nd (pi_range1 rfl gR (pa_cons (pe_op op_sub (pe_callB call_len_seq (by rfl) gL PySem.boot_len (pa_cons (pv 6) pa_nil)) pe_int) pa_nil)) (blkOk_by (own := [("_law_at", 5)]) (N := NS) (sc := defScope sShape) (by decide +kernel))
        (fun _ _ _ _ _ => pg_name (i := 5) scShape.nd rfl (Or.inl rfl)) (fun _ _ _ _ _ => pts_nil) (te := tTup (tCons (tOp (rIxL K) (tVar 6) (tVar 5)) (tCons (tOp (rIxL K) (tVar 6) (tOp (rI0 fun i j => V.int (i + j)) (tVar 5) (tC (.int 1)))) tNil)))
        (fun _ _ _ _ _ => pe_tup (pa_cons (pe_ix ix_list (pv 6) (pv 5) (fun _ _ => rfl)) (pa_cons (pe_ix ix_list (pv 6) (pe_op op_add (pv 5) pe_int) (fun _ _ => rfl)) pa_nil))))
      (pe_lst (pa_cons (pe_tup (pa_cons (pe_ix ix_list (pv 1) pe_int (fun _ _ => rfl)) (pa_cons (pe_ix ix_list (pv 1) pe_int (fun _ _ => rfl)) pa_nil))) pa_nil)))))) pss_nil) hu) ?_
  rintro D σ H ⟨⟨way, L, ps, o5, o6, o7, rfl, hp, bu, fL, hP, hl, hk⟩, q⟩
  have hg : Ws H lg gs := bu _ _ B.np B.g
  have hi : Ws H li is := bu _ _ B.nq B.i
  have sl := sizeLine_eq
  have l5 := B.l5
  have l8 := B.l8
  have back : ∀ o5 o6 o7, u D [some (.ref p), some (.ref lg), some (.ref li), some (.int way), some (.ref L), o5, o6, o7] H := fun a b c => q _ _ ⟨way, L, ps, a, b, c, rfl, hp, bu, fL, hP, hl, hk.imp id fun z => by omega⟩
  refine ⟨_, rfl, rfl, _, rfl, ?_⟩
  by_cases hw : way = 3
  · refine ifT (by simpa using hw) ⟨_, rfl, Nat.zero_le _, fun N nN => ?_⟩
    have sN : Same H (upd H N (.lst [])) := same_upd nN
    have hN : upd H N (.lst []) N = some (.lst []) := upd_same
    generalize upd H N (.lst []) = H1 at sN hN ⊢
    refine ⟨_, _, .lst (SqL.of (sN _ _ hi)) (dp_strs is), .lst (SqL.of hN) .nil, strs_shaped fun x hx => B.wd x (List.mem_append_right _ hx), nil_shaped, _, rfl, ?_⟩
    rw [eqv_nil]
    have b1 : But p H0 H1 := bu.trans fun b o _ e => sN b o e
    have p1 : Pu H1 p (n + 1) := by
      obtain ⟨xs, h1, h2⟩ := hp
      exact ⟨xs, sN _ _ h1, h2⟩
    have back1 : ∀ o5 o6 o7, u D [some (.ref p), some (.ref lg), some (.ref li), some (.int way), some (.ref L), o5, o6, o7] H1 := fun a b c => q _ _ ⟨way, L, ps, a, b, c, rfl, p1, b1, fL, hP.keep sN, hl, hk.imp id fun z => by omega⟩
    have hg1 := sN _ _ hg
    have hi1 := sN _ _ hi
    by_cases hne : is = []
    · subst hne
      exact ifF (by decide) (ifF (by decide) (back1 _ _ _))
    · have hnb : (!(is.map PyData.str).isEmpty) = true := by
        cases is with
        | nil => exact absurd rfl hne
        | cons => rfl
      refine ifT hnb ⟨_, rfl, lg, _, rfl, Or.inl (SqL.of hg1), _, _, rfl, rfl, _, rfl, ?_⟩
      by_cases h2 : 2 ≤ gs.length
      · refine ifT (decide_eq_true (by rw [List.length_map]; omega)) ?_
        obtain ⟨g0, g1, r, rfl⟩ : ∃ g0 g1 r, gs = g0 :: g1 :: r := by
          match gs, h2 with
          | a :: b :: r, _ => exact ⟨a, b, r, rfl⟩
        have m0 : g0 ∈ (g0 :: g1 :: r) ++ is := by simp
        have m1 : g1 ∈ (g0 :: g1 :: r) ++ is := by simp
        have ne01 : g0 ≠ g1 := fun e => by
          have := (List.nodup_cons.mp B.nd).1
          rw [e] at this
          exact this (by simp)
        -- the row
        refine ⟨_, rfl, lg, _, ((0 : Nat) : Int), _, rfl, rfl, SqL.of hg1, atI_nat rfl, (by show 1 ≤ sizeLine; decide +kernel), fun a na => ?_⟩
        have s2 : Same H1 (upd H1 a (.lst [.str g0])) := same_upd na
        have ea : upd H1 a (.lst [.str g0]) a = some (.lst [.str g0]) := upd_same
        generalize upd H1 a (.lst [.str g0]) = H2 at s2 ea ⊢
        have hi2 := s2 _ _ hi1
        refine ⟨_, rfl, a, li, _, _, rfl, rfl, ea, hi2, (by rw [List.length_map]; show 1 + _ ≤ _; omega), fun b nb => ?_⟩
        have s3 := same_upd (o := HO.lst ([V.str g0] ++ is.map V.str)) nb
        have eb : upd H2 b (.lst ([V.str g0] ++ is.map V.str)) b = some (.lst ([V.str g0] ++ is.map V.str)) := upd_same
        generalize upd H2 b (.lst ([V.str g0] ++ is.map V.str)) = H3 at s3 eb ⊢
        have hg3 := s3 _ _ (s2 _ _ hg1)
        refine ⟨_, rfl, lg, _, ((1 : Nat) : Int), _, rfl, rfl, SqL.of hg3, atI_nat rfl, (by show 1 ≤ sizeLine; decide +kernel), fun c nc => ?_⟩
        have s4 : Same H3 (upd H3 c (.lst [.str g1])) := same_upd nc
        have ec : upd H3 c (.lst [.str g1]) c = some (.lst [.str g1]) := upd_same
        generalize upd H3 c (.lst [.str g1]) = H4 at s4 ec ⊢
        refine ⟨b, c, _, _, rfl, rfl, s4 _ _ eb, ec, (by rw [List.length_append, List.length_map]; show 1 + _ + 1 ≤ _; omega), fun W nW => ?_⟩
        have er : ([V.str g0] ++ is.map V.str) ++ [V.str g1] = (g0 :: (is ++ [g1])).map V.str := by simp
        rw [er]
        have s5 := same_upd (o := HO.lst ((g0 :: (is ++ [g1])).map V.str)) nW
        have eW : Ws (upd H4 W (.lst ((g0 :: (is ++ [g1])).map V.str))) W (g0 :: (is ++ [g1])) := upd_same
        generalize upd H4 W (.lst ((g0 :: (is ++ [g1])).map V.str)) = H5 at s5 eW ⊢
        have s15 : Same H1 H5 := same_trans s2 (same_trans s3 (same_trans s4 s5))
        have rn : (g0 :: (is ++ [g1])).Nodup := by
          have h := List.nodup_append.mp B.nd
          have hgn := List.nodup_cons.mp h.1
          refine List.nodup_cons.mpr ⟨fun m => ?_, List.nodup_append.mpr ⟨h.2.1, by simp, fun x hx y hy => ?_⟩⟩
          · rcases List.mem_append.mp m with m | m
            · exact h.2.2 g0 List.mem_cons_self g0 m rfl
            · exact ne01 (List.mem_singleton.mp m)
          · rw [List.mem_singleton.mp hy]
            exact fun e => h.2.2 g1 (by simp) x hx e.symm
        have rC : ∀ x ∈ g0 :: (is ++ [g1]), x ∈ (g0 :: g1 :: r) ++ is := fun x hx => by
          rcases List.mem_cons.mp hx with e | hx
          · rw [e]; exact m0
          · rcases List.mem_append.mp hx with h | h
            · exact List.mem_append_right _ h
            · rw [List.mem_singleton.mp h]; exact m1
        have rl : (g0 :: (is ++ [g1])).length = is.length + 2 := by simp
        generalize g0 :: (is ++ [g1]) = R at eW rn rC rl
        have b5 : But p H0 H5 := b1.trans fun b o _ e => s15 _ _ e
        have p5 : Pu H5 p (n + 1) := by
          obtain ⟨xs, h1, h2⟩ := p1
          exact ⟨xs, s15 _ _ h1, h2⟩
        have hg5 := s15 _ _ hg1
        refine ⟨_, rfl, W, _, rfl, Or.inl (SqL.of eW), _, _, rfl, rfl, _, rfl, by rw [List.length_map]; omega, by rw [List.length_map]; omega, fun D1 nD1 => ?_⟩
        refine lc_range (lo := 0) (n := ((((R.map V.str).length : Nat) : Int) - 1).toNat) (PvC H5 D1 ((g0 :: g1 :: r) ++ is)) (pvc_start nD1) ?_ ?_
        · intro i H' hii h
          rw [List.length_map] at hii
          have e1 : R[i]? = some R[i] := List.getElem?_eq_getElem (by omega)
          have e2 : R[i + 1]? = some R[i + 1] := List.getElem?_eq_getElem (by omega)
          have ee : (0 + (i : Int)) + 1 = ((i + 1 : Nat) : Int) := by omega
          refine ⟨rfl, _, rfl, _, rfl, W, _, ((i : Nat) : Int), _, rfl, by rw [Int.zero_add], SqL.of (h.1 _ _ eW), atI_nat (strs_at e1), _, rfl, _, rfl, _, _, rfl, rfl, W, _, ((i + 1 : Nat) : Int), _, rfl, congrArg V.int ee, SqL.of (h.1 _ _ eW), atI_nat (strs_at e2), (by show 2 ≤ sizeLine; decide +kernel), fun t nt => ?_⟩
          obtain ⟨qs, k1, k2, k3⟩ := pvc_step h nD1 nt (rC _ (List.getElem_mem _)) (rC _ (List.getElem_mem _)) (fun e => by
            have li : i < R.length := by omega
            have := (List.getElem?_inj (j := i + 1) li rn).mp (by rw [e1, e2, e])
            omega)
          exact ⟨_, k1, by rw [List.length_map]; omega, k3⟩
        · rintro H6 ⟨s6, ps1, hP1, hl1⟩
          rw [List.length_map] at hl1
          have hg6 := s6 _ _ hg5
          refine ⟨_, rfl, lg, _, ((0 : Nat) : Int), _, rfl, rfl, SqL.of hg6, atI_nat rfl, _, rfl, lg, _, ((1 : Nat) : Int), _, rfl, rfl, SqL.of hg6, atI_nat rfl, (by show 2 ≤ sizeLine; decide +kernel), fun t nt => ?_⟩
          have s7 : Same H6 (upd H6 t (.tup [.str g0, .str g1])) := same_upd nt
          have et : upd H6 t (.tup [.str g0, .str g1]) t = some (.tup [.str g0, .str g1]) := upd_same
          generalize upd H6 t (.tup [.str g0, .str g1]) = H7 at s7 et ⊢
          refine ⟨(by show 1 ≤ sizeLine; decide +kernel), fun c nc => ?_⟩
          have s8 : Same H7 (upd H7 c (.lst [.ref t])) := same_upd nc
          have ec : upd H7 c (.lst [.ref t]) c = some (.lst [.ref t]) := upd_same
          generalize upd H7 c (.lst [.ref t]) = H8 at s8 ec ⊢
          have hP8 := hP1.keep (same_trans s7 s8)
          refine ⟨D1, c, _, _, rfl, rfl, hP8.1, ec, by rw [List.length_map]; show _ + 1 ≤ _; omega, fun d nd => ?_⟩
          have s58 := same_trans s6 (same_trans s7 s8)
          have b8 : But p H0 H8 := b5.trans fun b o _ e => s58 _ _ e
          have ND : d ≠ p := fun e => by
            obtain ⟨xs, h1, _⟩ := p5
            rw [e, s58 _ _ h1] at nd
            cases nd
          have p8 : Pu H8 p (n + 1) := by
            obtain ⟨xs, h1, h2⟩ := p5
            exact ⟨xs, s58 _ _ h1, h2⟩
          refine q _ _ ⟨way, d, ps1 ++ [t], _, _, _, rfl, p8.upd (Ne.symm ND), b8.trans (but_new nd), b8.free nd ND, ⟨by rw [upd_same, List.map_append]; rfl, fun a ha => ?_⟩, by rw [List.length_append]; show _ + 1 ≤ _; omega, Or.inr (by omega)⟩
          rcases List.mem_append.mp ha with h | h
          · exact (hP8.2 a h).keep (same_upd nd)
          · rw [List.mem_singleton.mp h]
            exact ⟨g0, g1, same_upd nd _ _ (s8 _ _ et), m0, m1, ne01⟩
      · exact ifF (fun z => by have z := of_decide_eq_true z; rw [List.length_map] at z; omega) (back1 _ _ _)
  · exact ifF (by simpa using hw) (ifF (by decide) (back o5 o6 o7))
end
/-! ### _law_shape -/
def spShape : Sp := fun vs H Q _ => ∃ (p lg li : Addr) (gs is : List Str) (n : Int), vs = [.ref p, .ref lg, .ref li] ∧ ShG H p lg li gs is ∧ Pu H p n ∧ n ≤ 800000 ∧
  ∀ (D : Addr) (ps : List Addr) (H' : Hp), Pu H' p (n + 1) → But p H H' → H D = none → Prs H' D (gs ++ is) ps → ps.length ≤ 12 → Q (.ref D) H'
section
variable {P : Program} {w : World} {K : PySem.W.Frag} {mg : Str → Option Value} {base : Heap}
theorem ok_shape {f : Addr} {fd : FuncData} (F : FnP K "_law_shape" sShape f fd) (G : DrawZ P w K mg base) (T : Tx K mg) : FnOk P w K mg base CX0 3 f fd ["_law_purse_here", "_law_gates", "_law_inner"] spShape := by
  refine F.ok scShape (fun vs H Q E h => ?_) (fun cdv A outer s H vs Q E hr h => ?_)
  · obtain ⟨_, _, _, _, _, _, rfl, _⟩ := h
    rfl
  · obtain ⟨p, lg, li, gs, is, n, rfl, B, hp, hn, q⟩ := h
    have hu64 : (A.deeper (envOfC "_law_shape" (defScope sShape) s.heap.objs.size f cdv)).units + 64 < cLine := by
      have := hr.un
      omega
    refine ⟨_, PSs.nox (pss_cons (ps_par (i := 3) (j := 4) rfl scShape.nd rfl rfl (by decide) rfl rfl (pa_cons (pe_fz G hr (by rfl) (pa_cons (pv 0) (pa_cons pe_int pa_nil))) (pa_cons (pe_lst pa_nil) pa_nil)) (by rfl))
      (sh0 (n := n) T B (sh1 (n := n) T B hu64 (sh2 (n := n) T B (sh3 (n := n) T B hu64 (pss_one (ps_ret (pv 4)))))))), ?_⟩
    obtain ⟨xs, hx1, hx2⟩ := hp
    refine ⟨_, rfl, p, 6, n, xs, rfl, hx1, hx2, by omega, by decide, by decide, fun r ys r0 r1 hy => ?_⟩
    have hp1 : upd H p (.lst ys) p = some (.lst ys) := upd_same
    have b1 : But p H (upd H p (.lst ys)) := but_self
    generalize upd H p (.lst ys) = H1 at hp1 b1 ⊢
    refine ⟨Nat.zero_le _, fun L nL => ⟨_, _, rfl, ?_⟩⟩
    have nLp : L ≠ p := fun e => by
      rw [e, hp1] at nL
      cases nL
    refine ⟨⟨r, L, [], _, _, _, rfl, ⟨ys, by rw [upd_ne (Ne.symm nLp)]; exact hp1, hy⟩, b1.trans (but_new nL), b1.free nL nLp, ⟨upd_same, fun a h => by simp at h⟩, Nat.zero_le _, Or.inl rfl⟩, fun σ2 H2 h2 => ⟨h2, fun σ3 H3 h3 => ⟨h3, fun σ4 H4 h4 => ⟨h4, fun σ5 H5 h5 => ?_⟩⟩⟩⟩
    obtain ⟨way, D, ps, o5, o6, o7, rfl, hpu, bu, fD, hP, hl, _⟩ := h5
    exact ⟨_, rfl, q D ps H5 hpu bu fD hP hl⟩
end
end K2
end
section
set_option Elab.async false
set_option linter.all false
set_option maxRecDepth 100000
set_option maxHeartbeats 8000000
namespace K2
open PySem PySem.Spec PyProof.Rows L2
abbrev PairZ (P : Program) (w : World) (K : PySem.W.Frag) (mg : Str → Option Value) (base : Heap) : Prop := Fz P w K mg base "_law_pair" 4 ["_law_purse_here", "_law_crossings"] spPair
abbrev WidthZ (P : Program) (w : World) (K : PySem.W.Frag) (mg : Str → Option Value) (base : Heap) : Prop := Fz P w K mg base "_law_width" 4 ["_law_purse_here"] spSmall
abbrev LengthZ (P : Program) (w : World) (K : PySem.W.Frag) (mg : Str → Option Value) (base : Heap) : Prop := Fz P w K mg base "_law_length" 4 ["_law_purse_here"] spSmall
abbrev NT : List Str := ["_law_purse_here", "_law_crossings", "_law_names", "_law_pairs", "_law_many", "_law_found", "_law_at", "_law_pair_here"]
theorem scStreetsOf : FnScope NT ["_law_purse_here", "_law_crossings", "_law_names", "_law_pairs", "_law_many"] (defScope sStreetsOf) := ⟨rfl, rfl, rfl, by decide +kernel, rfl, by decide +kernel, by decide +kernel⟩
def forBody (s : Stmt) : List Stmt := match s with
  | .For _ _ b _ _ => b
  | _ => []
def ifBody (s : Stmt) : List Stmt := match s with
  | .If _ b _ _ => b
  | _ => []
/-- the suite of the turn -/
def suite : List Stmt := ifBody ((forBody ((defBody sStreetsOf).getD 1 (.Pass ⟨0, 0, 0, 0⟩))).getD 0 (.Pass ⟨0, 0, 0, 0⟩))
def suS (i : Nat) : Stmt := suite.getD i (.Pass ⟨0, 0, 0, 0⟩)
/-- what is handed -/
structure StG (H : Hp) (p lc ln lp : Addr) (cs ns : List Str) (ps : List Addr) : Prop where
  hc : Ws H lc cs
  hn : Ws H ln ns
  hp : Prs H lp cs ps
  nc : lc ≠ p
  nn : ln ≠ p
  np : lp ≠ p
  pt : ∃ xs, H p = some (.lst xs)
  cd : cs.Nodup
  cw : ∀ x ∈ cs, Wd x
  nw : ∀ x ∈ ns, Wd x
  l1 : cs.length ≤ 100
  l2 : ps.length ≤ 100
/-- the streets made so far -/
structure StI (H H' : Hp) (p D : Addr) (cs ns : List Str) (i : Nat) (ts : List (Addr × S5)) : Prop where
  bu : But p H H'
  fD : H D = none
  st : Sts H' D ts
  ok : ∀ t ∈ ts, t.2.Ok ∧ t.2.st ∈ cs ∧ t.2.en ∈ cs ∧ H t.1 = none
  nm : ts.map (fun t => t.2.nm) = ns.take i
  ln : ts.length = i
abbrev TX (P : Program) (w : World) (K : PySem.W.Frag) (mg : Str → Option Value) (base : Heap) (f : Addr) (cdv : Value) (A : Around) (outer : List Env) (s : Shared) (H : Hp) (E : XK) : Cx := (cxOf CX0 P w K mg base NT "_law_streets_of" (defScope sStreetsOf) f cdv A outer s H E).nox
/-- the slots in a turn -/
abbrev stσ (p lc ln lp D : Addr) (m : Int) (i : Nat) (o7 : Option V) : L2.St := [some (.ref p), some (.ref lc), some (.ref ln), some (.ref lp), some (.int m), some (.ref D), some (.int (0 + (i : Nat))), o7]
theorem sts_keep {H H' : Hp} {D : Addr} {ts : List (Addr × S5)} (h : Sts H D ts) (k : ∀ b o, H b = some o → H' b = some o) : Sts H' D ts := ⟨k _ _ h.1, fun t ht => k _ _ (h.2 t ht)⟩
section
variable {P : Program} {w : World} {K : PySem.W.Frag} {mg : Str → Option Value} {base : Heap} {f : Addr} {cdv : Value} {A : Around} {outer : List Env} {s : Shared} {Hl : Hp} {E : XK} {p lc ln lp D : Addr} {cs ns : List Str} {ps : List Addr} {H0 : Hp} {n m : Int} {i : Nat}
/-- the street is put to the others -/
def tPutS (p lc ln lp D : Addr) (cs ns : List Str) (H0 : Hp) (n m : Int) (i : Nat) : TS := fun E σ H => ∃ (a : Addr) (x y : Str) (ts : List (Addr × S5)), σ = stσ p lc ln lp D m i (some (.ref a)) ∧ H a = some (.tup [.str x, .str y]) ∧ x ∈ cs ∧ y ∈ cs ∧ x ≠ y ∧ Pu H p n ∧ n ≤ 700000 ∧ StI H0 H p D cs ns i ts ∧
  ∀ ts' H', Pu H' p (n + 2) → StI H0 H' p D cs ns (i + 1) ts' → E.nx (stσ p lc ln lp D m i (some (.ref a))) H'
theorem putS (B : StG H0 p lc ln lp cs ns ps) (hi : i < ns.length) (h100 : i < 1000) (GW : WidthZ P w K mg base) (GL : LengthZ P w K mg base) (hr : Room 4 (A.deeper (envOfC "_law_streets_of" (defScope sStreetsOf) s.heap.objs.size f cdv))) :
    PSs (TX P w K mg base f cdv A outer s Hl E) [suS 2] (tPutS p lc ln lp D cs ns H0 n m i) := by
  refine weak (t := _) (pss_one (ps_expr (pe_bm PySem.F.plainAttrs_list PySem.F.slot_list_append PySem.F.type_list_append mt_append (pv 5) (pa_cons
    (pe_op op_catT (pe_op op_catT (pe_tup (pa_cons (pe_ix ix_list (pv 2) (pv 6) (fun _ _ => rfl)) pa_nil)) (pv 7))
      (pe_tup (pa_cons (pe_fz GW hr (by rfl) (pa_cons (pv 0) pa_nil)) (pa_cons (pe_fz GL hr (by rfl) (pa_cons (pv 0) pa_nil)) pa_nil)))) pa_nil)))) ?_
  rintro Z σ H ⟨a, x, y, ts, rfl, ha, hx, hy, hxy, hp, hn, I, q⟩
  have hN : Ws H ln ns := I.bu _ _ B.nn B.hn
  have en : ns[i]? = some ns[i] := List.getElem?_eq_getElem hi
  have sl := sizeLine_eq
  refine ⟨_, rfl, Or.inl ⟨rfl, _, SqL.of I.st.1⟩, _, rfl, _, rfl, ln, _, ((i : Nat) : Int), _, rfl, by rw [Int.zero_add], SqL.of hN, atI_nat (strs_at en), (by show 1 ≤ sizeLine; decide +kernel), fun t1 nt1 => ?_⟩
  have s1 := same_upd (o := HO.tup [V.str ns[i]]) nt1
  have e1 : upd H t1 (.tup [V.str ns[i]]) t1 = some (.tup [V.str ns[i]]) := upd_same
  generalize upd H t1 (.tup [V.str ns[i]]) = H1 at s1 e1 ⊢
  refine ⟨_, rfl, t1, a, _, _, rfl, rfl, SqT.of e1, SqT.of (s1 _ _ ha), by simp, (by show 1 + 2 ≤ sizeLine; decide +kernel), (fun z => by cases z), fun _ t2 nt2 => ?_⟩
  have s2 := same_upd (o := HO.tup ([V.str ns[i]] ++ [V.str x, V.str y])) nt2
  have e2 : upd H1 t2 (.tup ([V.str ns[i]] ++ [V.str x, V.str y])) t2 = some (.tup ([V.str ns[i]] ++ [V.str x, V.str y])) := upd_same
  generalize upd H1 t2 (.tup ([V.str ns[i]] ++ [V.str x, V.str y])) = H2 at s2 e2 ⊢
  have s02 := same_trans s1 s2
  have p2 : Pu H2 p n := by
    obtain ⟨xs, h1, h2⟩ := hp
    exact ⟨xs, s02 _ _ h1, h2⟩
  have nt2p : t2 ≠ p := fun e => by
    obtain ⟨xs, h1, _⟩ := p2
    rw [← e, e2] at h1
    cases h1
  refine ⟨_, rfl, p, n, rfl, p2, by omega, fun r1 H3 r10 r19 p3 b3 => ?_⟩
  refine ⟨_, rfl, p, n + 1, rfl, p3, by omega, fun r2 H4 r20 r29 p4 b4 => ?_⟩
  have b24 := b3.trans b4
  refine ⟨(by show 2 ≤ sizeLine; decide +kernel), fun t3 nt3 => ?_⟩
  have s5 := same_upd (o := HO.tup [V.int r1, V.int r2]) nt3
  have e5 : upd H4 t3 (.tup [V.int r1, V.int r2]) t3 = some (.tup [V.int r1, V.int r2]) := upd_same
  have e25 := s5 _ _ (b24 _ _ nt2p e2)
  have p5 : Pu (upd H4 t3 (.tup [V.int r1, V.int r2])) p (n + 2) := by
    obtain ⟨xs, h1, h2⟩ := p4
    exact ⟨xs, s5 _ _ h1, h2.mono (by omega)⟩
  generalize upd H4 t3 (.tup [V.int r1, V.int r2]) = H5 at s5 e5 e25 p5 ⊢
  refine ⟨t2, t3, _, _, rfl, rfl, SqT.of e25, SqT.of e5, by simp, (by show 3 + 2 ≤ sizeLine; decide +kernel), (fun z => by cases z), fun _ t nt => ?_⟩
  have b05 : But p H H5 := But.trans (B := H2) (fun b o _ e => s02 b o e) (But.trans b24 fun b o _ e => s5 b o e)
  have bu5 := I.bu.trans b05
  have nDp : D ≠ p := fun e => by
    obtain ⟨xs, h1⟩ := B.pt
    rw [← e, I.fD] at h1
    cases h1
  have keep5 : Sts H5 D ts := ⟨b05 _ _ nDp I.st.1, fun u hu => b05 _ _ (fun e => by
    obtain ⟨xs, h1⟩ := B.pt
    have := (I.ok u hu).2.2.2
    rw [e, h1] at this
    cases this) (I.st.2 u hu)⟩
  have hD5 := keep5.1
  have ntD : t ≠ D := fun e => by
    rw [e, hD5] at nt
    cases nt
  have ntp : t ≠ p := fun e => by
    obtain ⟨xs, h1, _⟩ := p5
    rw [e, h1] at nt
    cases nt
  have s6 := same_upd (o := HO.tup (([V.str ns[i]] ++ [V.str x, V.str y]) ++ [V.int r1, V.int r2])) nt
  refine ⟨D, _, _, rfl, rfl, s6 _ _ hD5, by rw [List.length_map, I.ln]; omega, ?_⟩
  refine q (ts ++ [(t, ⟨ns[i], x, y, r1, r2⟩)]) _ ((p5.upd (Ne.symm ntp)).upd (Ne.symm nDp)) ⟨fun b o nb e => ?_, I.fD, ⟨by rw [upd_same, List.map_append]; rfl, fun u hu => ?_⟩, fun u hu => ?_, ?_, by simp [I.ln]⟩
  · rw [upd_ne (ne_of_none e I.fD)]
    exact s6 _ _ (bu5 b o nb e)
  · rcases List.mem_append.mp hu with h | h
    · have e := s6 _ _ (keep5.2 u h)
      rw [upd_ne (ne_of e (s6 _ _ hD5) (by intro z; cases z))]
      exact e
    · rw [List.mem_singleton.mp h, upd_ne ntD]
      exact upd_same
  · rcases List.mem_append.mp hu with h | h
    · exact I.ok u h
    · rw [List.mem_singleton.mp h]
      exact ⟨⟨B.nw _ (List.getElem_mem hi), B.cw x hx, B.cw y hy, hxy, r10, r19, r20, r29⟩, hx, hy, bu5.free nt ntp⟩
  · rw [List.map_append, I.nm, List.take_add_one, en]
    rfl
end
end K2
end
section
set_option Elab.async false
set_option linter.all false
set_option maxRecDepth 100000
set_option maxHeartbeats 8000000
namespace K2
open PySem PySem.Spec PyProof.Rows L2
theorem StI.same {H0 H H' : Hp} {p D : Addr} {cs ns : List Str} {i : Nat} {ts : List (Addr × S5)} (I : StI H0 H p D cs ns i ts) (s : Same H H') : StI H0 H' p D cs ns i ts :=
  ⟨I.bu.trans fun b o _ e => s b o e, I.fD, sts_keep I.st s, I.ok, I.nm, I.ln⟩
theorem StI.but {H0 H H' : Hp} {p D : Addr} {cs ns : List Str} {i : Nat} {ts : List (Addr × S5)} (I : StI H0 H p D cs ns i ts) (s : But p H H') (h : H0 p ≠ none) : StI H0 H' p D cs ns i ts :=
  ⟨I.bu.trans s, I.fD, ⟨s _ _ (fun e => h (by rw [← e]; exact I.fD)) I.st.1, fun t ht => s _ _ (fun e => h (by rw [← e]; exact (I.ok t ht).2.2.2)) (I.st.2 t ht)⟩, I.ok, I.nm, I.ln⟩
theorem Pu.same {H H' : Hp} {p : Addr} {n : Int} (h : Pu H p n) (s : Same H H') : Pu H' p n := by
  obtain ⟨xs, h1, h2⟩ := h
  exact ⟨xs, s _ _ h1, h2⟩
section
variable {P : Program} {w : World} {K : PySem.W.Frag} {mg : Str → Option Value} {base : Heap} {f : Addr} {cdv : Value} {A : Around} {outer : List Env} {s : Shared} {Hl : Hp} {E : XK} {p lc ln lp D : Addr} {cs ns : List Str} {ps : List Addr} {H0 : Hp} {n m : Int} {i : Nat}
/-- the pair is taken of another street, now and then -/
def tMid (p lc ln lp D : Addr) (cs ns : List Str) (H0 : Hp) (n m : Int) (i : Nat) (u : TS) : TS := fun E σ H => ∃ (a : Addr) (x y : Str) (ts : List (Addr × S5)), σ = stσ p lc ln lp D m i (some (.ref a)) ∧ H a = some (.tup [.str x, .str y]) ∧ x ∈ cs ∧ y ∈ cs ∧ x ≠ y ∧ Pu H p n ∧ n ≤ 700000 ∧ StI H0 H p D cs ns i ts ∧
  ∀ (a' : Addr) (x' y' : Str) (H' : Hp), H' a' = some (.tup [.str x', .str y']) → x' ∈ cs → y' ∈ cs → x' ≠ y' → Pu H' p (n + 3) → StI H0 H' p D cs ns i ts → u E (stσ p lc ln lp D m i (some (.ref a'))) H'
theorem midS (B : StG H0 p lc ln lp cs ns ps) (h100 : i < 100) (G : DrawZ P w K mg base) (GO : OneZ P w K mg base) (T : Tx K mg) (hr : Room 4 (A.deeper (envOfC "_law_streets_of" (defScope sStreetsOf) s.heap.objs.size f cdv)))
    {rest : List Stmt} {u : TS} (hu : PSs (TX P w K mg base f cdv A outer s Hl E) rest u) : PSs (TX P w K mg base f cdv A outer s Hl E) (suS 1 :: rest) (tMid p lc ln lp D cs ns H0 n m i u) := by
  have gL := T.fr "len" (by decide +kernel)
  have hr2 : Room 2 (A.deeper (envOfC "_law_streets_of" (defScope sStreetsOf) s.heap.objs.size f cdv)) := hr.mono (by decide)
  have hr3 : Room 3 (A.deeper (envOfC "_law_streets_of" (defScope sStreetsOf) s.heap.objs.size f cdv)) := hr.mono (by decide)
  have hu64 : (A.deeper (envOfC "_law_streets_of" (defScope sStreetsOf) s.heap.objs.size f cdv)).units + 64 < cLine := by
    have := hr.un
    omega
  refine weak (t := tSeq _ u) (pss_cons (ps_if (PW.pt (pw_and (pt_cmpR op_ge (pv 6) (pe_callB call_len_seq (by rfl) gL PySem.boot_len (pa_cons (pv 3) pa_nil)) (nomark _)) (pw_and (pt_cmpR (op_neD hu64) (pv 5) (pe_lst pa_nil) (nomark _))
      (pw_and1 (pt_cmpR op_eq (pe_fz G hr2 (by rfl) (pa_cons (pv 0) (pa_cons pe_int pa_nil))) pe_int (nomark _))))))
    (pss_cons (ps_set (i := 7) scStreetsOf.nd rfl (Or.inl rfl) (pe_slice sl_tup (pe_fz GO hr3 (by rfl) (pa_cons (pv 0) (pa_cons (pv 5) pa_nil))) (po_some pe_int) (po_some pe_int)))
    (pss_one (ps_set (i := 7) scStreetsOf.nd rfl (Or.inl rfl) (pe_ifExp (pt_cmpR op_eq (pe_fz G hr2 (by rfl) (pa_cons (pv 0) (pa_cons pe_int pa_nil))) pe_int (nomark _)) (pv 7) (pe_rev2 (pv 7)))))) pss_nil) hu) ?_
  rintro Z σ H ⟨a, x, y, ts, rfl, ha, hx, hy, hxy, hp, hn, I, q⟩
  have hlp : Prs H lp cs ps → True := fun _ => trivial
  have hLp : H lp = some (.lst (ps.map V.ref)) := I.bu _ _ B.np B.hp.1
  have sl := sizeLine_eq
  have pt0 : H0 p ≠ none := by
    obtain ⟨xs, h⟩ := B.pt
    rw [h]
    simp
  refine ⟨_, rfl, _, rfl, lp, _, rfl, Or.inl (SqL.of hLp), _, _, rfl, rfl, _, rfl, ?_⟩
  refine ite2 (fun _ => ?_) (fun _ => ifF (by decide) (q a x y H ha hx hy hxy (hp.mono (by omega)) I))
  refine ⟨_, rfl, Nat.zero_le _, fun N nN => ?_⟩
  have sN : Same H (upd H N (.lst [])) := same_upd nN
  have hN : upd H N (.lst []) N = some (.lst []) := upd_same
  generalize upd H N (.lst []) = H1 at sN hN ⊢
  have I1 := I.same sN
  have hp1 := hp.same sN
  have ha1 := sN _ _ ha
  have shp : SeqAt.shaped (.list (ts.map fun t => t.2.data)) = true := by
    have h := sts_shaped (ss := ts.map (·.2)) (fun s hs => by
      obtain ⟨t, ht, rfl⟩ := List.mem_map.mp hs
      exact (I.ok t ht).1)
    rw [List.map_map] at h
    exact h
  refine ⟨_, _, .lst (SqL.of I1.st.1) (dp_sts I1.st.2), .lst (SqL.of hN) .nil, shp, nil_shaped, _, rfl, ?_⟩
  rw [eqv_nil]
  by_cases hne : ts = []
  · subst hne
    exact ifF (by decide) (ifF (by decide) (q a x y H1 ha1 hx hy hxy (hp1.mono (by omega)) I1))
  · have hb : (!(ts.map fun t => t.2.data).isEmpty) = true := by
      cases ts with
      | nil => exact absurd rfl hne
      | cons => rfl
    have lpos : 0 < ts.length := List.length_pos_iff.mpr hne
    obtain ⟨xs1, hx1, hx2⟩ := hp1
    refine ifT hb ⟨_, rfl, p, 5, n, xs1, rfl, hx1, hx2, by omega, by decide, by decide, fun r ys r0 r1 hy5 => ⟨rfl, _, rfl, ?_⟩⟩
    have I2 := I1.but (but_self (o := .lst ys)) pt0
    have hp2 : upd H1 p (.lst ys) p = some (.lst ys) := upd_same
    have nap : a ≠ p := fun e => by
      rw [e, hx1] at ha1
      cases ha1
    have ha2 : upd H1 p (.lst ys) a = some (.tup [.str x, .str y]) := by rw [upd_ne nap]; exact ha1
    generalize upd H1 p (.lst ys) = H2 at I2 hp2 ha2 ⊢
    refine ite2 (fun _ => ?_) (fun _ => q a x y H2 ha2 hx hy hxy ⟨ys, hp2, hy5.mono (by omega)⟩ I2)
    have nDp : D ≠ p := fun e => pt0 (by rw [← e]; exact I.fD)
    refine ⟨_, rfl, _, rfl, p, D, n + 1, ys, _, rfl, hp2, hy5, by omega, I2.st.1, Ne.symm nDp, by rw [List.length_map]; exact lpos, by rw [List.length_map, I.ln]; omega, fun j z ys2 ej hy2 => ?_⟩
    rw [List.getElem?_map] at ej
    cases e2 : ts[j]? with
    | none =>
      rw [e2] at ej
      cases ej
    | some t =>
      rw [e2] at ej
      cases ej
      have tm := List.mem_of_getElem? e2
      obtain ⟨ok, st, se, fr⟩ := I.ok t tm
      have I3 := I2.but (but_self (o := .lst ys2)) pt0
      have hp3 : upd H2 p (.lst ys2) p = some (.lst ys2) := upd_same
      generalize upd H2 p (.lst ys2) = H3 at I3 hp3 ⊢
      have ht3 := I3.st.2 t tm
      refine ⟨_, rfl, _, rfl, t.1, _, rfl, SqT.of ht3, ?_, fun b nb => ?_⟩
      · intro z
        exact absurd (show (1 : Nat) = 0 from z.1) (by decide)
      have ec : cutV t.2.vals (some 1) (some 3) = [V.str t.2.st, V.str t.2.en] := rfl
      rw [ec]
      have s4 := same_upd (o := HO.tup [V.str t.2.st, V.str t.2.en]) nb
      have eb : upd H3 b (.tup [V.str t.2.st, V.str t.2.en]) b = some (.tup [V.str t.2.st, V.str t.2.en]) := upd_same
      have I4 := I3.same s4
      have hp4 := s4 _ _ hp3
      generalize upd H3 b (.tup [V.str t.2.st, V.str t.2.en]) = H4 at s4 eb I4 hp4 ⊢
      refine ⟨_, rfl, p, 2, n + 1 + 1, ys2, rfl, hp4, hy2, by omega, by decide, by decide, fun r' ys3 r0' r1' hy3 => ⟨rfl, _, rfl, ?_⟩⟩
      have nbp : b ≠ p := fun e => by
        rw [e, hp4] at eb
        cases eb
      have I5 := I4.but (but_self (o := .lst ys3)) pt0
      have hp5 : upd H4 p (.lst ys3) p = some (.lst ys3) := upd_same
      have eb5 : upd H4 p (.lst ys3) b = some (.tup [V.str t.2.st, V.str t.2.en]) := by rw [upd_ne nbp]; exact eb
      generalize upd H4 p (.lst ys3) = H5 at I5 hp5 eb5 ⊢
      refine ite2 (fun _ => ⟨_, rfl, q b _ _ H5 eb5 st se ok.2.2.2.1 ⟨ys3, hp5, hy3.mono (by omega)⟩ I5⟩) (fun _ => ⟨_, rfl, b, _, _, rfl, SqT.of eb5, fun c nc => ?_⟩)
      have s6 := same_upd (o := HO.tup [V.str t.2.en, V.str t.2.st]) nc
      exact q c _ _ _ upd_same se st (Ne.symm ok.2.2.2.1) ⟨ys3, s6 _ _ hp5, hy3.mono (by omega)⟩ (I5.same s6)
end
end K2
end
section
set_option Elab.async false
set_option linter.all false
set_option maxRecDepth 100000
set_option maxHeartbeats 8000000
namespace K2
open PySem PySem.Spec PyProof.Rows L2
def spStreetsOf : Sp := fun vs H Q _ => ∃ (p lc ln lp : Addr) (cs ns : List Str) (ps : List Addr) (n m : Int), vs = [.ref p, .ref lc, .ref ln, .ref lp, .int m] ∧ StG H p lc ln lp cs ns ps ∧ Pu H p n ∧ n ≤ 500000 ∧ 0 ≤ m ∧ m ≤ (ns.length : Int) ∧ m ≤ 90 ∧
  ∀ (D : Addr) (ts : List (Addr × S5)) (H' : Hp), Pu H' p (n + 8 * m) → But p H H' → H D = none → Sts H' D ts → (∀ t ∈ ts, t.2.Ok ∧ t.2.st ∈ cs ∧ t.2.en ∈ cs ∧ H t.1 = none) → ts.map (fun t => t.2.nm) = ns.take ts.length → (ts.length : Int) ≤ m → (2 ≤ cs.length → (ts.length : Int) = m) → Q (.ref D) H'
section
variable {P : Program} {w : World} {K : PySem.W.Frag} {mg : Str → Option Value} {base : Heap} {f : Addr} {cdv : Value} {A : Around} {outer : List Env} {s : Shared} {Hl : Hp} {E : XK} {p lc ln lp : Addr} {cs ns : List Str} {ps : List Addr} {H0 : Hp} {m : Int}
def tTl (p lc ln lp : Addr) (cs ns : List Str) (H0 : Hp) (m : Int) : TS := fun E σ H => ∃ (D : Addr) (i : Nat) (n : Int), i < ns.length ∧ i < 100 ∧ tMid p lc ln lp D cs ns H0 n m i (tPutS p lc ln lp D cs ns H0 (n + 3) m i) E σ H
theorem tailS (B : StG H0 p lc ln lp cs ns ps) (G : DrawZ P w K mg base) (GO : OneZ P w K mg base) (GW : WidthZ P w K mg base) (GL : LengthZ P w K mg base) (T : Tx K mg) (hr : Room 4 (A.deeper (envOfC "_law_streets_of" (defScope sStreetsOf) s.heap.objs.size f cdv))) :
    PSs (TX P w K mg base f cdv A outer s Hl E) [suS 1, suS 2] (tTl p lc ln lp cs ns H0 m) :=
  ⟨fun pins s' σ H Z I ⟨D, i, n, h1, h2, h⟩ => (midS (i := i) (n := n) B h2 G GO T hr (putS B h1 (by omega) GW GL hr)).run pins s' σ H Z I h⟩
theorem ok_streetsOf {f : Addr} {fd : FuncData} (F : FnP K "_law_streets_of" sStreetsOf f fd) (G : DrawZ P w K mg base) (GO : OneZ P w K mg base) (GP : PairZ P w K mg base) (GW : WidthZ P w K mg base) (GL : LengthZ P w K mg base) (T : Tx K mg) :
    FnOk P w K mg base CX0 5 f fd ["_law_purse_here", "_law_crossings", "_law_names", "_law_pairs", "_law_many"] spStreetsOf := by
  refine F.ok scStreetsOf (fun vs H Q E h => ?_) (fun cdv A outer s H vs Q E hr h => ?_)
  · obtain ⟨_, _, _, _, _, _, _, _, _, rfl, _⟩ := h
    rfl
  · obtain ⟨p, lc, ln, lp, cs, ns, ps, n, m, rfl, B, hp, hn, m0, mn, m90, q⟩ := h
    have gL := T.fr "len" (by decide +kernel)
    have gR := T.fr "range" (by decide +kernel)
    refine ⟨_, PSs.nox (pss_cons (ps_set (i := 5) scStreetsOf.nd rfl (Or.inl rfl) (pe_lst pa_nil))
      (pss_cons (ps_for PassesOwn.never rfl (pi_range1 rfl gR (pa_cons (pv 4) pa_nil)) (pg_name (i := 6) scStreetsOf.nd rfl (Or.inl rfl))
        (pss_one (ps_if (pt_cmpR op_gt (pe_callB call_len_seq (by rfl) gL PySem.boot_len (pa_cons (pv 1) pa_nil)) pe_int (nomark _))
          (pss_cons (ps_set (i := 7) scStreetsOf.nd rfl (Or.inl rfl) (pe_ifExp (pt_cmpR op_lt (pv 6) (pe_callB call_len_seq (by rfl) gL PySem.boot_len (pa_cons (pv 3) pa_nil)) (nomark _)) (pe_ix ix_list (pv 3) (pv 6) (fun _ _ => rfl)) (pe_fz GP hr (by rfl) (pa_cons (pv 0) (pa_cons (pv 1) pa_nil)))))
            (tailS (m := m) B G GO GW GL T hr)) pss_nil)))
      (pss_one (ps_ret (pv 5))))), ?_⟩
    have sl := sizeLine_eq
    refine ⟨Nat.zero_le _, fun D nD => ?_⟩
    have pt0 : H p ≠ none := by
      obtain ⟨xs, h⟩ := B.pt
      rw [h]
      simp
    have nDp : D ≠ p := fun e => pt0 (by rw [← e]; exact nD)
    have I0 : StI H (upd H D (.lst [])) p D cs ns 0 [] := ⟨but_new nD, nD, ⟨upd_same, fun t h => by simp at h⟩, fun t h => by simp at h, rfl, rfl⟩
    have hp0 := hp.same (same_upd (o := .lst []) nD)
    generalize upd H D (.lst []) = H1 at I0 hp0 ⊢
    refine ⟨_, rfl, _, rfl, by omega, by omega, ?_⟩
    by_cases h2 : 2 ≤ cs.length
    · refine for_range (n := m.toNat) (fun i σ H' => (∃ o6 o7, σ = [some (.ref p), some (.ref lc), some (.ref ln), some (.ref lp), some (.int m), some (.ref D), o6, o7]) ∧ Pu H' p (n + 8 * (i : Nat)) ∧ ∃ ts, StI H H' p D cs ns i ts)
        ⟨⟨_, _, rfl⟩, hp0.mono (by omega), [], I0⟩ ?_ ?_
      · rintro i σ H' hi ⟨⟨o6, o7, rfl⟩, hp1, ts, I⟩
        have hlc : Ws H' lc cs := I.bu _ _ B.nc B.hc
        have hlp : H' lp = some (.lst (ps.map V.ref)) := I.bu _ _ B.np B.hp.1
        have fin : ∀ (a : Addr) (x y : Str) (H2 : Hp), H2 a = some (.tup [.str x, .str y]) → x ∈ cs → y ∈ cs → x ≠ y → Pu H2 p (n + 8 * (i : Nat) + 2) → StI H H2 p D cs ns i ts →
            tTl p lc ln lp cs ns H m { nx := fun σ H' => (∃ o6 o7, σ = [some (.ref p), some (.ref lc), some (.ref ln), some (.ref lp), some (.int m), some (.ref D), o6, o7]) ∧ Pu H' p (n + 8 * ((i + 1 : Nat) : Int)) ∧ ∃ ts, StI H H' p D cs ns (i + 1) ts, rt := fun v H' => Q v H' } (stσ p lc ln lp D m i (some (.ref a))) H2 := fun a x y H2 h1 h2 h3 h4 h5 h6 =>
          ⟨D, i, _, by omega, by omega, a, x, y, ts, rfl, h1, h2, h3, h4, h5, by omega, h6, fun a' x' y' H3 k1 k2 k3 k4 k5 k6 => ⟨a', x', y', ts, rfl, k1, k2, k3, k4, k5, by omega, k6, fun ts' H4 l1 l2 => ⟨⟨_, _, rfl⟩, l1.mono (by push_cast; omega), ts', l2⟩⟩⟩
        refine ⟨_, rfl, lc, _, rfl, Or.inl (SqL.of hlc), _, _, rfl, rfl, _, rfl, ifT (decide_eq_true (by rw [List.length_map]; omega)) ?_⟩
        refine ⟨_, rfl, _, rfl, lp, _, rfl, Or.inl (SqL.of hlp), _, _, rfl, rfl, _, rfl, ?_⟩
        refine ite2 (fun hc => ?_) (fun _ => ?_)
        · have lt : i < ps.length := by
            have z := of_decide_eq_true hc
            rw [List.length_map] at z
            omega
          have ei : (ps.map V.ref)[i]? = some (V.ref ps[i]) := by
            rw [List.getElem?_map, List.getElem?_eq_getElem lt]
            rfl
          obtain ⟨x, y, e, hx, hy, ne⟩ := B.hp.2 ps[i] (List.getElem_mem lt)
          have e' : H' ps[i] = some (.tup [.str x, .str y]) := I.bu _ _ (fun z => by
            obtain ⟨xs, h⟩ := B.pt
            rw [z, h] at e
            cases e) e
          exact ⟨_, rfl, _, rfl, lp, _, ((i : Nat) : Int), _, rfl, by rw [Int.zero_add], SqL.of hlp, atI_nat ei, fin _ x y H' e' hx hy ne (hp1.mono (by omega)) I⟩
        · exact ⟨_, rfl, _, rfl, p, lc, _, cs, rfl, hp1, by omega, hlc, B.nc, B.cd, h2, B.l1, fun t a b H2 ha hb ne hp2 b2 nt et => fin t a b H2 et ha hb ne hp2 (I.but b2 pt0)⟩
      · rintro σ H' ⟨⟨o6, o7, rfl⟩, hp1, ts, I⟩
        refine ⟨_, rfl, q D ts H' (hp1.mono (by omega)) I.bu nD I.st I.ok (by rw [I.ln]; exact I.nm) (by have := I.ln; omega) fun _ => by have := I.ln; omega⟩
    · refine for_range (n := m.toNat) (fun i σ H' => (∃ o6 o7, σ = [some (.ref p), some (.ref lc), some (.ref ln), some (.ref lp), some (.int m), some (.ref D), o6, o7]) ∧ H' = H1) ⟨⟨_, _, rfl⟩, rfl⟩ ?_ ?_
      · rintro i σ H' hi ⟨⟨o6, o7, rfl⟩, rfl⟩
        exact ⟨_, rfl, lc, _, rfl, Or.inl (SqL.of (I0.bu _ _ B.nc B.hc)), _, _, rfl, rfl, _, rfl, ifF (fun z => by have z := of_decide_eq_true z; rw [List.length_map] at z; omega) ⟨⟨_, _, rfl⟩, rfl⟩⟩
      · rintro σ H' ⟨⟨o6, o7, rfl⟩, rfl⟩
        exact ⟨_, rfl, q D [] H' (hp0.mono (by omega)) I0.bu nD I0.st I0.ok rfl (by simpa using m0) fun z => absurd z h2⟩
end
end K2
end
section
set_option Elab.async false
set_option linter.all false
set_option maxRecDepth 100000
set_option maxHeartbeats 8000000
namespace K2
open PySem PySem.Spec PyProof.Rows L2
theorem cut_take (xs : List V) (k : Nat) : cutV xs none (some (k : Int)) = xs.take k := by
  show (xs.drop (HT.sIx xs.length 0 none)).take (HT.sIx xs.length xs.length (some (k : Int)) - HT.sIx xs.length 0 none) = _
  rw [HT.sIx_none, HT.sIx_nat, List.drop_zero, Nat.sub_zero]
  rcases Nat.le_total k xs.length with h | h
  · rw [Nat.min_eq_left h]
  · rw [Nat.min_eq_right h, List.take_length, List.take_of_length_le h]
theorem cut_drop (xs : List V) (k : Nat) : cutV xs (some (k : Int)) none = xs.drop k := by
  show (xs.drop (HT.sIx xs.length 0 (some (k : Int)))).take (HT.sIx xs.length xs.length none - HT.sIx xs.length 0 (some (k : Int))) = _
  rw [HT.sIx_none, HT.sIx_nat]
  rcases Nat.le_total k xs.length with h | h
  · rw [Nat.min_eq_left h]
    exact List.take_of_length_le (by rw [List.length_drop]; omega)
  · rw [Nat.min_eq_right h, List.drop_length, List.drop_of_length_le h]
    simp
theorem perm_map_inv {α β : Type} {g : α → β} : ∀ {us vs : List β}, us.Perm vs → ∀ l : List α, vs = l.map g → ∃ l' : List α, l'.Perm l ∧ us = l'.map g := by
  intro us vs h
  induction h with
  | nil => exact fun l e => ⟨l, List.Perm.refl _, e⟩
  | cons x _ ih =>
    intro l e
    match l, e with
    | y :: r, e =>
      rw [List.map_cons] at e
      obtain ⟨e1, e2⟩ := List.cons.inj e
      obtain ⟨l', p, e3⟩ := ih r e2
      exact ⟨y :: l', p.cons y, by rw [List.map_cons, e1, e3]⟩
  | swap x y l0 =>
    intro l e
    match l, e with
    | a :: b :: r, e =>
      rw [List.map_cons, List.map_cons] at e
      obtain ⟨e1, e2⟩ := List.cons.inj e
      obtain ⟨e3, e4⟩ := List.cons.inj e2
      exact ⟨b :: a :: r, List.Perm.swap a b r, by rw [List.map_cons, List.map_cons, e1, e3, e4]⟩
  | trans _ _ ih1 ih2 =>
    intro l e
    obtain ⟨l1, p1, e1⟩ := ih2 l e
    obtain ⟨l2, p2, e2⟩ := ih1 l1 e1
    exact ⟨l2, p2.trans p1, e2⟩
/-- a world's parts: streets, gates, crossings, names -/
structure Wo (H : Hp) (ls lg lc ln : Addr) (ts : List (Addr × S5)) (gs cs ns : List Str) : Prop where
  s : Sts H ls ts
  g : Ws H lg gs
  c : Ws H lc cs
  n : Ws H ln ns
  ok : ∀ t ∈ ts, t.2.Ok ∧ t.2.st ∈ cs ∧ t.2.en ∈ cs ∧ t.2.nm ∈ ns
  nd : (ts.map fun t => t.2.nm).Nodup
  gp : ∃ k : Nat, 1 ≤ k ∧ k ≤ 5 ∧ k ≤ cs.length ∧ gs = cs.take k
  cd : cs.Nodup
  nn : ns.Nodup
  cw : ∀ x ∈ cs, Wd x
  nw : ∀ x ∈ ns, Wd x
  l1 : cs.length ≤ 9
  l2 : ns.length ≤ 14
  l3 : ts.length ≤ ns.length
/-- all these were not there in H -/
def NewIn (H : Hp) (ls lg lc ln : Addr) (ts : List (Addr × S5)) : Prop := H ls = none ∧ H lg = none ∧ H lc = none ∧ H ln = none ∧ ∀ t ∈ ts, H t.1 = none
def spWorld : Sp := fun vs H Q _ => ∃ (p : Addr) (g i m n : Int), vs = [.ref p, .int g, .int i, .int m] ∧ Pu H p n ∧ n ≤ 400000 ∧ 1 ≤ g ∧ g ≤ 5 ∧ 0 ≤ i ∧ g + i ≤ 9 ∧ 0 ≤ m ∧ m ≤ 14 ∧
  ∀ (W ls lg lc ln : Addr) (ts : List (Addr × S5)) (gs cs ns : List Str) (H' : Hp), Pu H' p (n + 1000) → But p H H' → H W = none → H' W = some (.lst [.ref ls, .ref lg, .ref lc, .ref ln]) → Wo H' ls lg lc ln ts gs cs ns → NewIn H ls lg lc ln ts →
    (gs.length : Int) = g → (cs.length : Int) = g + i → (ns.length : Int) = m → Q (.ref W) H'
abbrev NO : List Str := ["_law_purse_here", "_law_gates", "_law_inner", "_law_most", "_law_words_here", "_law_crossings", "_law_names", "_law_pairs", "_law_many", "_law_streets"]
theorem scWorld : FnScope NO ["_law_purse_here", "_law_gates", "_law_inner", "_law_most"] (defScope sWorld) := ⟨rfl, rfl, rfl, by decide +kernel, rfl, by decide +kernel, by decide +kernel⟩
section
variable {P : Program} {w : World} {K : PySem.W.Frag} {mg : Str → Option Value} {base : Heap}
theorem ok_world {f : Addr} {fd : FuncData} (F : FnP K "_law_world" sWorld f fd) (G : DrawZ P w K mg base) (GWs : Fz P w K mg base "_law_words" 4 ["_law_purse_here", "_law_many"] spWords) (GSh : Fz P w K mg base "_law_shuffled" 3 ["_law_purse_here", "_law_some"] spShuffled)
    (GS : Fz P w K mg base "_law_shape" 3 ["_law_purse_here", "_law_gates", "_law_inner"] spShape) (GSt : Fz P w K mg base "_law_streets_of" 5 ["_law_purse_here", "_law_crossings", "_law_names", "_law_pairs", "_law_many"] spStreetsOf) (T : Tx K mg) :
    FnOk P w K mg base CX0 6 f fd ["_law_purse_here", "_law_gates", "_law_inner", "_law_most"] spWorld := by
  refine F.ok scWorld (fun vs H Q E h => ?_) (fun cdv A outer s H vs Q E hr h => ?_)
  · obtain ⟨_, _, _, _, _, rfl, _⟩ := h
    rfl
  · obtain ⟨p, g, i, m, n, rfl, hp, hn, g1, g5, i0, gi9, m0, m14, q⟩ := h
    have gL := T.fr "len" (by decide +kernel)
    have gMa := T.fr "max" (by decide +kernel)
    have r4 : Room 4 (A.deeper (envOfC "_law_world" (defScope sWorld) s.heap.objs.size f cdv)) := hr.mono (by decide)
    have r3 : Room 3 (A.deeper (envOfC "_law_world" (defScope sWorld) s.heap.objs.size f cdv)) := hr.mono (by decide)
    have r2 : Room 2 (A.deeper (envOfC "_law_world" (defScope sWorld) s.heap.objs.size f cdv)) := hr.mono (by decide)
    refine ⟨_, PSs.nox (pss_cons (ps_set (i := 4) scWorld.nd rfl (Or.inl rfl) (pe_fz GWs r4 (by rfl) (pa_cons (pv 0) (pa_cons (pe_callB (call_max2 rfl) (by rfl) gMa (by decide +kernel) (pa_cons (pe_op op_add (pv 1) (pv 2)) (pa_cons (pe_op op_add (pv 3) pe_int) pa_nil))) pa_nil))))
      (pss_cons (ps_par (i := 5) (j := 6) rfl scWorld.nd rfl rfl (by decide) rfl rfl (pa_cons (pe_slice sl_list (pv 4) po_none (po_some (pe_op op_add (pv 1) (pv 2)))) (pa_cons (pe_slice sl_list (pe_fz GSh r3 (by rfl) (pa_cons (pv 0) (pa_cons (pv 4) pa_nil))) po_none (po_some (pv 3))) pa_nil)) (by rfl))
      (pss_cons (ps_set (i := 7) scWorld.nd rfl (Or.inl rfl) (pe_slice sl_list (pe_fz GS r3 (by rfl) (pa_cons (pv 0) (pa_cons (pe_slice sl_list (pv 5) po_none (po_some (pv 1))) (pa_cons (pe_slice sl_list (pv 5) (po_some (pv 1)) po_none) pa_nil)))) po_none (po_some (pv 3))))
      (pss_cons (ps_set (i := 8) scWorld.nd rfl (Or.inl rfl) (pe_callB (call_max2 rfl) (by rfl) gMa (by decide +kernel) (pa_cons (pe_callB call_len_seq (by rfl) gL PySem.boot_len (pa_cons (pv 7) pa_nil)) (pa_cons (pe_fz G r2 (by rfl) (pa_cons (pv 0) (pa_cons (pe_op op_add (pv 3) pe_int) pa_nil))) pa_nil))))
      (pss_cons (ps_set (i := 9) scWorld.nd rfl (Or.inl rfl) (pe_fz GSt hr (by rfl) (pa_cons (pv 0) (pa_cons (pv 5) (pa_cons (pv 6) (pa_cons (pv 7) (pa_cons (pv 8) pa_nil)))))))
      (pss_one (ps_ret (pe_lst (pa_cons (pe_fz GSh r3 (by rfl) (pa_cons (pv 0) (pa_cons (pv 9) pa_nil))) (pa_cons (pe_slice sl_list (pv 5) po_none (po_some (pv 1))) (pa_cons (pv 5) (pa_cons (pv 6) pa_nil)))))))))))), ?_⟩
    have sl := sizeLine_eq
    have fr : ∀ {b : Addr} {X Y : Hp}, But p X Y → Y b = none → (∃ xs, X p = some (.lst xs)) → (∃ xs, Y p = some (.lst xs)) → X b = none := fun {b X Y} bu e hx hy => bu.free e fun z => by
      obtain ⟨ys, hy⟩ := hy
      rw [z, hy] at e
      cases e
    have np : ∀ {b : Addr} {X : Hp} {k : Int}, Pu X p k → X b = none → b ≠ p := fun {b X k} h e z => by
      obtain ⟨ys, hy, _⟩ := h
      rw [z, hy] at e
      cases e
    obtain ⟨g, rfl⟩ := Int.eq_ofNat_of_zero_le (show 0 ≤ g by omega)
    obtain ⟨i, rfl⟩ := Int.eq_ofNat_of_zero_le i0
    obtain ⟨m, rfl⟩ := Int.eq_ofNat_of_zero_le m0
    refine ⟨_, rfl, _, rfl, _, rfl, _, _, rfl, rfl, _, rfl, _, _, rfl, rfl, _, _, rfl, p, _, n, rfl, hp, by omega, ?_⟩
    have hk : ∃ k : Int, (if ((m : Int) + 2) > ((g : Int) + i) then ((m : Int) + 2) else ((g : Int) + i)) = k ∧ (g : Int) + i ≤ k ∧ (m : Int) + 2 ≤ k ∧ k ≤ 16 := by
      refine ⟨_, rfl, ?_⟩
      split <;> omega
    obtain ⟨k, ek, k1, k2, k3⟩ := hk
    rw [ek]
    refine ⟨by omega, by omega, fun D ws H1 hl nd wd hp1 b1 fD hw => ?_⟩
    have egi : (g : Int) + i = ((g + i : Nat) : Int) := by omega
    -- crossings
    refine ⟨_, rfl, _, rfl, _, rfl, _, _, rfl, rfl, _, rfl, D, _, rfl, SqL.of hw, fun lc nlc => ?_⟩
    rw [egi, cut_take, ← List.map_take]
    have s2 := same_upd (o := HO.lst ((ws.take (g + i)).map V.str)) nlc
    have hc2 : Ws (upd H1 lc (.lst ((ws.take (g + i)).map V.str))) lc (ws.take (g + i)) := upd_same
    have hp2 := hp1.same s2
    have b2 : But p H (upd H1 lc (.lst ((ws.take (g + i)).map V.str))) := b1.trans fun b o _ e => s2 b o e
    have nDp := np hp fD
    have nlcp := np hp1 nlc
    have fc : H lc = none := b1.free nlc nlcp
    generalize upd H1 lc (.lst ((ws.take (g + i)).map V.str)) = H2 at s2 hc2 hp2 b2 ⊢
    have hw2 := s2 _ _ hw
    -- names
    refine ⟨_, rfl, _, rfl, p, D, _, _, rfl, hp2, by omega, hw2, nDp, by rw [List.length_map]; omega, fun S us H3 pu hp3 b3 fS hS => ?_⟩
    obtain ⟨vs, pv, rfl⟩ := perm_map_inv pu ws rfl
    refine ⟨_, rfl, _, rfl, S, _, rfl, SqL.of hS, fun ln nln => ⟨_, _, rfl, ?_⟩⟩
    rw [cut_take, ← List.map_take]
    have s4 := same_upd (o := HO.lst ((vs.take m).map V.str)) nln
    have hn4 : Ws (upd H3 ln (.lst ((vs.take m).map V.str))) ln (vs.take m) := upd_same
    have hc4 := s4 _ _ (b3 _ _ nlcp hc2)
    have hp4 := hp3.same s4
    have b4 : But p H (upd H3 ln (.lst ((vs.take m).map V.str))) := (b2.trans b3).trans fun b o _ e => s4 b o e
    have nlnp := np hp3 nln
    have fn : H ln = none := (b2.trans b3).free nln nlnp
    generalize upd H3 ln (.lst ((vs.take m).map V.str)) = H4 at s4 hn4 hc4 hp4 b4 ⊢
    have hvl := pv.length_eq
    rw [List.length_map] at hp4
    have cl : (ws.take (g + i)).length = g + i := by rw [List.length_take]; omega
    have nl : (vs.take m).length = m := by rw [List.length_take]; omega
    have cd : (ws.take (g + i)).Nodup := (List.take_sublist _ _).nodup nd
    have nn : (vs.take m).Nodup := (List.take_sublist _ _).nodup (pv.nodup_iff.mpr nd)
    have cw : ∀ x ∈ ws.take (g + i), Wd x := fun x hx => wd x (List.mem_of_mem_take hx)
    have nw : ∀ x ∈ vs.take m, Wd x := fun x hx => wd x (pv.mem_iff.mp (List.mem_of_mem_take hx))
    generalize ws.take (g + i) = cs at hc2 hc4 cl cd cw
    generalize vs.take m = ns at hn4 nl nn nw
    -- the pairs
    refine ⟨_, rfl, _, rfl, _, rfl, _, rfl, lc, _, rfl, SqL.of hc4, fun lg nlg => ?_⟩
    rw [cut_take, ← List.map_take]
    have s5 := same_upd (o := HO.lst ((cs.take g).map V.str)) nlg
    have hg5 : Ws (upd H4 lg (.lst ((cs.take g).map V.str))) lg (cs.take g) := upd_same
    have hp5 := hp4.same s5
    have nlgp := np hp4 nlg
    have b5 := b4.trans (Same.but (p := p) s5)
    generalize upd H4 lg (.lst ((cs.take g).map V.str)) = H5 at s5 hg5 hp5 b5 ⊢
    refine ⟨_, rfl, _, rfl, _, rfl, lc, _, rfl, SqL.of (s5 _ _ hc4), fun li nli => ?_⟩
    rw [cut_drop, ← List.map_drop]
    have s6 := same_upd (o := HO.lst ((cs.drop g).map V.str)) nli
    have hi6 : Ws (upd H5 li (.lst ((cs.drop g).map V.str))) li (cs.drop g) := upd_same
    have hp6 := hp5.same s6
    have nlip := np hp5 nli
    have b6 := b5.trans (Same.but (p := p) s6)
    generalize upd H5 li (.lst ((cs.drop g).map V.str)) = H6 at s6 hi6 hp6 b6 ⊢
    have etd : cs.take g ++ cs.drop g = cs := List.take_append_drop g cs
    refine ⟨p, lg, li, cs.take g, cs.drop g, _, rfl, ⟨s6 _ _ hg5, hi6, nlgp, ?_, nlip, by rw [etd]; exact cd, by rw [etd]; exact cw, by rw [List.length_take]; omega, by rw [List.length_take]; omega, by rw [List.length_drop]; omega⟩, hp6, by omega, fun L ps H7 hp7 b67 fL hP hpl => ?_⟩
    · obtain ⟨xs, h, _⟩ := hp6
      exact ⟨xs, h⟩
    rw [etd] at hP
    have b7 := b6.trans b67
    have hc7 : Ws H7 lc cs := b67 _ _ nlcp (s6 _ _ (s5 _ _ hc4))
    have hn7 : Ws H7 ln ns := b67 _ _ nlnp (s6 _ _ (s5 _ _ hn4))
    refine ⟨_, rfl, _, rfl, L, _, rfl, SqL.of hP.1, fun lp nlp => ?_⟩
    rw [cut_take, ← List.map_take]
    have s8 := same_upd (o := HO.lst ((ps.take m).map V.ref)) nlp
    have hl8 : upd H7 lp (.lst ((ps.take m).map V.ref)) lp = some (.lst ((ps.take m).map V.ref)) := upd_same
    have hP8 : Prs (upd H7 lp (.lst ((ps.take m).map V.ref))) lp cs (ps.take m) := ⟨hl8, fun a ha => (hP.2 a (List.mem_of_mem_take ha)).keep s8⟩
    have hp8 := hp7.same s8
    have nlpp := np hp7 nlp
    have b8 := b7.trans (Same.but (p := p) s8)
    have hc8 := s8 _ _ hc7
    have hn8 := s8 _ _ hn7
    have pl : (ps.take m).length ≤ m := by rw [List.length_take]; omega
    generalize upd H7 lp (.lst ((ps.take m).map V.ref)) = H8 at s8 hl8 hP8 hp8 b8 hc8 hn8 ⊢
    generalize ps.take m = qs at hl8 hP8 pl ⊢
    obtain ⟨xs8, hx8, hu8⟩ := hp8
    refine ⟨_, rfl, lp, _, rfl, Or.inl (SqL.of hl8), _, rfl, _, rfl, _, _, rfl, rfl, p, _, _, xs8, rfl, hx8, hu8, by omega, by omega, by omega, fun r ys r0 r1 hy => ⟨_, _, rfl, ?_⟩⟩
    have b9 := b8.trans (but_self (p := p) (H := H8) (o := .lst ys))
    have hx9 : upd H8 p (.lst ys) p = some (.lst ys) := upd_same
    have hc9 : Ws (upd H8 p (.lst ys)) lc cs := by
      show upd H8 p (.lst ys) lc = _
      rw [upd_ne nlcp]
      exact hc8
    have hn9 : Ws (upd H8 p (.lst ys)) ln ns := by
      show upd H8 p (.lst ys) ln = _
      rw [upd_ne nlnp]
      exact hn8
    have hP9 : Prs (upd H8 p (.lst ys)) lp cs qs := ⟨by rw [upd_ne nlpp]; exact hl8, fun a ha => by
      obtain ⟨x, y, e, rr⟩ := hP8.2 a ha
      exact ⟨x, y, by rw [upd_ne (fun z => by rw [z, hx8] at e; cases e)]; exact e, rr⟩⟩
    generalize upd H8 p (.lst ys) = H9 at b9 hx9 hc9 hn9 hP9 ⊢
    have hk2 : ∃ k2 : Int, (if r > (((qs.map V.ref).length : Nat) : Int) then r else (((qs.map V.ref).length : Nat) : Int)) = k2 ∧ 0 ≤ k2 ∧ k2 ≤ m := by
      refine ⟨_, rfl, ?_⟩
      rw [List.length_map]
      split <;> omega
    obtain ⟨k2, ek2, k20, k2m⟩ := hk2
    rw [ek2]
    refine ⟨_, rfl, _, rfl, _, rfl, _, rfl, _, rfl, p, lc, ln, lp, cs, ns, qs, _, k2, rfl, ⟨hc9, hn9, hP9, nlcp, nlnp, nlpp, ⟨_, hx9⟩, cd, cw, nw, by omega, by omega⟩, ⟨ys, hx9, hy⟩, by omega, k20, by omega, by omega, fun T0 ts H10 hp10 b910 fT hT okT nmT lT _ => ?_⟩
    have b10 := b9.trans b910
    have hc10 : Ws H10 lc cs := b910 _ _ nlcp hc9
    have hn10 : Ws H10 ln ns := b910 _ _ nlnp hn9
    have p9 : ∀ {b : Addr}, H9 b = none → b ≠ p := fun {b} e z => by
      rw [z, hx9] at e
      cases e
    refine ⟨_, rfl, _, rfl, p, T0, _, _, rfl, hp10, by omega, hT.1, p9 fT, by rw [List.length_map]; omega, fun ls us2 H11 pu2 hp11 b11 fl hls => ?_⟩
    obtain ⟨ts2, pt2, rfl⟩ := perm_map_inv pu2 ts rfl
    have hc11 : Ws H11 lc cs := b11 _ _ nlcp hc10
    have hn11 : Ws H11 ln ns := b11 _ _ nlnp hn10
    have b011 := b10.trans b11
    rw [List.length_map] at hp11
    have nlsp := np hp10 fl
    refine ⟨_, rfl, _, rfl, _, rfl, lc, _, rfl, SqL.of hc11, fun lg2 nlg2 => ?_⟩
    rw [cut_take, ← List.map_take]
    have s12 := same_upd (o := HO.lst ((cs.take g).map V.str)) nlg2
    have hg12 : Ws (upd H11 lg2 (.lst ((cs.take g).map V.str))) lg2 (cs.take g) := upd_same
    have hp12 := hp11.same s12
    have nlg2p := np hp11 nlg2
    have b12 := b011.trans (Same.but (p := p) s12)
    have fl0 : H ls = none := b10.free fl nlsp
    have flg0 : H lg2 = none := b011.free nlg2 nlg2p
    generalize upd H11 lg2 (.lst ((cs.take g).map V.str)) = H12 at s12 hg12 hp12 b12 ⊢
    refine ⟨_, rfl, _, rfl, (by show 4 ≤ sizeLine; decide +kernel), fun W nW => ?_⟩
    have s13 := same_upd (o := HO.lst [V.ref ls, V.ref lg2, V.ref lc, V.ref ln]) nW
    have nWp := np hp12 nW
    have okN : ∀ t ∈ ts2, H9 t.1 = none := fun t ht => (okT t (pt2.mem_iff.mp ht)).2.2.2
    refine q W ls lg2 lc ln ts2 (cs.take g) cs ns _ ((hp12.same s13).mono (by omega)) (b12.trans (Same.but (p := p) s13)) (b12.free nW nWp) upd_same ⟨⟨s13 _ _ (s12 _ _ hls), fun t ht => s13 _ _ (s12 _ _ (b11 _ _ (p9 (okN t ht)) (hT.2 t (pt2.mem_iff.mp ht))))⟩, s13 _ _ hg12, s13 _ _ (s12 _ _ hc11), s13 _ _ (s12 _ _ hn11), fun t ht => ?_, ?_, ⟨g, by omega, by omega, by omega, rfl⟩, cd, nn, cw, nw, by omega, by omega, by have := pt2.length_eq; omega⟩
      ⟨fl0, flg0, fc, fn, fun t ht => b9.free (okN t ht) (p9 (okN t ht))⟩ (by rw [List.length_take]; omega) (by omega) (by omega)
    · obtain ⟨h1, h2, h3, _⟩ := okT t (pt2.mem_iff.mp ht)
      refine ⟨h1, h2, h3, ?_⟩
      have : t.2.nm ∈ ts.map fun t => t.2.nm := List.mem_map.mpr ⟨t, pt2.mem_iff.mp ht, rfl⟩
      rw [nmT] at this
      exact List.mem_of_mem_take this
    · have h1 : (ts.map fun t => t.2.nm).Nodup := by
        rw [nmT]
        exact (List.take_sublist _ _).nodup nn
      exact ((pt2.map fun t => t.2.nm).nodup_iff).mpr h1
end
end K2
end
section
set_option Elab.async false
set_option linter.all false
set_option maxRecDepth 100000
set_option maxHeartbeats 8000000
namespace K2
open PySem PySem.Spec PyProof.Rows L2
theorem one_lt {a b : Nat} (h : b ≤ a) : (!decide ((one a).cps.toList < (one b).cps.toList)) = true := by
  have : ¬ (one a).cps.toList < (one b).cps.toList := by
    show ¬ [a] < [b]
    rw [List.cons_lt_cons_iff]
    rintro (h1 | ⟨_, h2⟩)
    · omega
    · exact List.not_lt_nil _ h2
  rw [decide_eq_false this]
  rfl
theorem kfl {K : PySem.W.Frag} {a b : String} (h : kitB a b = some false) : PySem.W.kitOne K (.type a) (.type b) = some false := kit_ty h
theorem ktr {K : PySem.W.Frag} {a b : String} (h : kitB a b = some true) : PySem.W.kitOne K (.type a) (.type b) = some true := kit_ty h
section
variable {P : Program} {w : World} {K : PySem.W.Frag} {mg : Str → Option Value} {base : Heap}
/-! ### is_whole, is_count, of counts -/
def spIsWhole : Sp := fun vs H Q _ => ∃ i : Int, vs = [.int i] ∧ Q (.bl true) H
theorem scIsWhole : FnScope ["value"] ["value"] (defScope sWhole) := ⟨rfl, rfl, rfl, by decide +kernel, rfl, by decide +kernel, by decide +kernel⟩
theorem ok_isWhole {f : Addr} {fd : FuncData} (F : FnP K "is_whole" sWhole f fd) (T : Tx K mg) : FnOk P w K mg base CX0 1 f fd ["value"] spIsWhole := by
  refine F.ok scIsWhole (fun vs H Q E h => ?_) (fun cdv A outer s H vs Q E hr h => ?_)
  · obtain ⟨_, rfl, _⟩ := h
    rfl
  · obtain ⟨i, rfl, q⟩ := h
    have gIs := T.fr "isinstance" (by decide +kernel)
    have gI := T.fr "int" (by decide +kernel)
    have gB := T.fr "bool" (by decide +kernel)
    refine ⟨_, PSs.nox (pss_one (ps_ret (pe_and (pe_callB call_isi (by rfl) gIs (by decide +kernel) (pa_cons (pv 0) (pa_cons (pe_bltn (v := .ty "int") (by rfl) gI (by decide +kernel) rfl) pa_nil)))
      (pe_one (pe_not (pe_callB call_isi (by rfl) gIs (by decide +kernel) (pa_cons (pv 0) (pa_cons (pe_bltn (v := .ty "bool") (by rfl) gB (by decide +kernel) rfl) pa_nil)))))))), ?_⟩
    refine ⟨_, rfl, _, _, _, _, _, rfl, .ty _, .base (.int i), ktr (by decide +kernel), _, rfl, ifT rfl ?_⟩
    exact ⟨_, rfl, _, _, _, _, _, rfl, .ty _, .base (.int i), kfl (by decide +kernel), _, rfl, q⟩
def spIsCount : Sp := fun vs H Q _ => ∃ i : Int, vs = [.int i] ∧ 0 ≤ i ∧ Q (.bl true) H
theorem scIsCount : FnScope ["value"] ["value"] (defScope sCount) := ⟨rfl, rfl, rfl, by decide +kernel, rfl, by decide +kernel, by decide +kernel⟩
theorem ok_isCount {f : Addr} {fd : FuncData} (F : FnP K "is_count" sCount f fd) (GW : Fz P w K mg base "is_whole" 1 ["value"] spIsWhole) (T : Tx K mg) : FnOk P w K mg base CX0 2 f fd ["value"] spIsCount := by
  refine F.ok scIsCount (fun vs H Q E h => ?_) (fun cdv A outer s H vs Q E hr h => ?_)
  · obtain ⟨_, rfl, _⟩ := h
    rfl
  · obtain ⟨i, rfl, h0, q⟩ := h
    refine ⟨_, PSs.nox (pss_one (ps_ret (pe_and (pe_fz GW hr (by rfl) (pa_cons (pv 0) pa_nil)) (pe_one (pe_cmpR op_ge (pv 0) pe_int (nomark _)))))), ?_⟩
    refine ⟨_, rfl, i, rfl, _, rfl, ifT rfl ?_⟩
    refine ⟨_, rfl, _, _, rfl, rfl, ?_⟩
    show Q (.bl (decide ((0 : Int) ≤ i))) H
    rw [decide_eq_true h0]
    exact q
/-! ### is_word, of words -/
def spIsWord : Sp := fun vs H Q _ => ∃ z : Str, vs = [.str z] ∧ Wd z ∧ ∀ H', Same H H' → Q (.bl true) H'
theorem scIsWord : FnScope ["value", "letter"] ["value"] (defScope sIsWord) := ⟨rfl, rfl, rfl, by decide +kernel, rfl, by decide +kernel, by decide +kernel⟩
theorem ok_isWord {f : Addr} {fd : FuncData} (F : FnP K "is_word" sIsWord f fd) (T : Tx K mg) : FnOk P w K mg base CX0 1 f fd ["value"] spIsWord := by
  refine F.ok scIsWord (fun vs H Q E h => ?_) (fun cdv A outer s H vs Q E hr h => ?_)
  · obtain ⟨_, rfl, _⟩ := h
    rfl
  · obtain ⟨z, rfl, hz, q⟩ := h
    have gIs := T.fr "isinstance" (by decide +kernel)
    have gS := T.fr "str" (by decide +kernel)
    have gL := T.fr "len" (by decide +kernel)
    have gA := T.fr "all" (by decide +kernel)
    have lz := str_length z
    have h1 := hz.1
    have h8 := hz.2.1
    have sl := sizeLine_eq
    refine ⟨_, PSs.nox (pss_cons (ps_if (PW.pt (pw_or (pt_not (pt_val (pe_callB call_isi (by rfl) gIs (by decide +kernel) (pa_cons (pv 0) (pa_cons (pe_bltn (v := .ty "str") (by rfl) gS (by decide +kernel) rfl) pa_nil)))))
        (pw_or1 (pt_not (pt_chain op_le op_le pe_int (pe_callB call_len_str (by rfl) gL PySem.boot_len (pa_cons (pv 0) pa_nil)) pe_int))))) (pss_one (ps_ret pe_bl)) pss_nil)
      (pss_one (ps_ret (pe_callB (cr_all rfl) (by rfl) gA (by decide +kernel) (pa_cons (pe_lc (own := [("letter", 1)]) (g := gName 1) (tt := tYes) rfl scIsWord.nd (pi_str (pv 0)) (blkOk_by (own := [("letter", 1)]) (N := ["value", "letter"]) (sc := defScope sIsWord) (by decide +kernel))
        (fun _ _ _ _ _ => pg_name (i := 1) scIsWord.nd rfl (Or.inl rfl)) (fun _ _ _ _ _ => pts_nil) (fun _ _ _ _ _ => pe_chain op_le_str op_le_str pe_str (pv 1) pe_str)) pa_nil))))), ?_⟩
    refine ⟨_, rfl, _, _, _, _, _, rfl, .ty _, .base (.str z), ktr (by decide +kernel), _, rfl, ifF (by decide) ?_⟩
    refine ⟨_, rfl, z, rfl, by omega, _, _, rfl, rfl, _, rfl, ifT (decide_eq_true (by omega)) ⟨_, _, rfl, rfl, _, rfl, ?_⟩⟩
    rw [decide_eq_true (show (z.length : Int) ≤ 8 by omega)]
    refine ifF (by decide) ?_
    refine ⟨_, rfl, z, rfl, fun D nD => ?_⟩
    refine lc_it walk_str (fun j H' => Same H H' ∧ H' D = some (.lst ((List.replicate j true).map V.bl))) ⟨same_upd nD, upd_same⟩ (fun _ _ _ _ => trivial) ?_ ?_
    · rintro j x H1 H2 hj ⟨s1, hD⟩ ⟨rfl, c, hc, rfl⟩
      have mc : c ∈ z.cps.toList := by
        rw [← Array.getElem?_toList] at hc
        exact List.mem_of_getElem? hc
      have bc := hz.2.2 c mc
      refine ⟨rfl, _, rfl, _, _, rfl, rfl, _, rfl, ifT ?_ ⟨_, _, rfl, rfl, _, hD, ?_, ?_⟩⟩
      · exact one_lt (b := 97) bc.1
      · rw [List.length_map, List.length_replicate]
        have : z.cps.size = z.cps.toList.length := by simp
        omega
      · have e : (!decide (("z" : Str).cps.toList < (one c).cps.toList)) = true := one_lt (a := 122) bc.2
        have e2 : (V.bl (!decide (("z" : Str).cps.toList < (one c).cps.toList))) = V.bl true := by rw [e]
        refine ⟨fun b o eb => ?_, ?_⟩
        · rw [upd_ne (ne_of_none eb nD)]
          exact s1 _ _ eb
        · rw [upd_same, List.replicate_succ', List.map_append]
          exact congrArg (fun v => some (HO.lst ((List.replicate j true).map V.bl ++ [v]))) e2
    · rintro H' ⟨s1, hD⟩
      refine ⟨D, List.replicate z.cps.size true, rfl, SqL.of hD, ?_⟩
      have e : (List.replicate z.cps.size true).all id = true := by simp
      rw [e]
      exact q H' s1
end
end K2
end
section
set_option Elab.async false
set_option linter.all false
set_option maxRecDepth 100000
set_option maxHeartbeats 8000000
namespace K2
open PySem PySem.Spec PyProof.Rows L2
section
variable {P : Program} {w : World} {K : PySem.W.Frag} {mg : Str → Option Value} {base : Heap}
def spIsStreet : Sp := fun vs H Q _ => ∃ (t : Addr) (s : S5), vs = [.ref t] ∧ H t = some (.tup s.vals) ∧ s.Ok ∧ ∀ H', Same H H' → Q (.bl true) H'
abbrev NE : List Str := ["value", "name", "start", "end", "width", "length"]
theorem scIsStreet : FnScope NE ["value"] (defScope sIsStreet) := ⟨rfl, rfl, rfl, by decide +kernel, rfl, by decide +kernel, by decide +kernel⟩
theorem ok_isStreet {f : Addr} {fd : FuncData} (F : FnP K "is_street" sIsStreet f fd) (GC : Fz P w K mg base "is_count" 2 ["value"] spIsCount) (GW : Fz P w K mg base "is_word" 1 ["value"] spIsWord) (T : Tx K mg) : FnOk P w K mg base CX0 3 f fd ["value"] spIsStreet := by
  refine F.ok scIsStreet (fun vs H Q E h => ?_) (fun cdv A outer s H vs Q E hr h => ?_)
  · obtain ⟨_, _, rfl, _⟩ := h
    rfl
  · obtain ⟨t, z, rfl, ht, ⟨o1, o2, o3, o4, o5, o6, o7, o8⟩, q⟩ := h
    have gIs := T.fr "isinstance" (by decide +kernel)
    have gTu := T.fr "tuple" (by decide +kernel)
    have gL := T.fr "len" (by decide +kernel)
    refine ⟨_, PSs.nox (pss_cons (ps_if (PW.pt (pw_or (pt_not (pt_val (pe_callB call_isi (by rfl) gIs (by decide +kernel) (pa_cons (pv 0) (pa_cons (pe_bltn (v := .ty "tuple") (by rfl) gTu (by decide +kernel) rfl) pa_nil)))))
        (pw_or1 (pt_cmpR op_ne (pe_callB call_len_seq (by rfl) gL PySem.boot_len (pa_cons (pv 0) pa_nil)) pe_int (nomark _))))) (pss_one (ps_ret pe_bl)) pss_nil)
      (pss_cons (ps_asg (pv 0) (pg_tup rfl (pgs_cons (pg_name (i := 1) scIsStreet.nd rfl (Or.inl rfl)) (pgs_cons (pg_name (i := 2) scIsStreet.nd rfl (Or.inl rfl)) (pgs_cons (pg_name (i := 3) scIsStreet.nd rfl (Or.inl rfl)) (pgs_cons (pg_name (i := 4) scIsStreet.nd rfl (Or.inl rfl)) (pgs_cons (pg_name (i := 5) scIsStreet.nd rfl (Or.inl rfl)) pgs_nil)))))))
      (pss_cons (ps_if (pt_not (PW.pt (pw_and (pt_val (pe_fz GW (hr.mono (by decide)) (by rfl) (pa_cons (pv 1) pa_nil))) (pw_and (pt_val (pe_fz GW (hr.mono (by decide)) (by rfl) (pa_cons (pv 2) pa_nil))) (pw_and1 (pt_val (pe_fz GW (hr.mono (by decide)) (by rfl) (pa_cons (pv 3) pa_nil)))))))) (pss_one (ps_ret pe_bl)) pss_nil)
      (pss_one (ps_ret (pe_and (pe_cmpR op_ne (pv 2) (pv 3) (nomark _)) (pe_and (pe_fz GC hr (by rfl) (pa_cons (pv 4) pa_nil)) (pe_one (pe_fz GC hr (by rfl) (pa_cons (pv 5) pa_nil)))))))))), ?_⟩
    refine ⟨_, rfl, _, _, _, _, _, rfl, .ty _, .base (.tup ht), ktr (by decide +kernel), _, rfl, ifF (by decide) ?_⟩
    refine ⟨_, rfl, t, _, rfl, Or.inr (SqT.of ht), rfl, _, rfl, ifF ?_ ?_⟩
    · show ¬ (!decide (V.int 5 = V.int 5)) = true
      decide
    refine ⟨_, rfl, t, _, rfl, SqT.of ht, rfl, _, _, rfl, _, _, rfl, _, _, rfl, _, _, rfl, _, _, rfl, rfl, ?_⟩
    refine ⟨_, rfl, z.nm, rfl, o1, fun H1 s1 => ⟨_, rfl, ifT rfl ⟨_, rfl, z.st, rfl, o2, fun H2 s2 => ⟨_, rfl, ifT rfl ⟨_, rfl, z.en, rfl, o3, fun H3 s3 => ⟨_, rfl, ifF (by decide) ?_⟩⟩⟩⟩⟩⟩
    exact ⟨_, rfl, _, rfl, rfl, _, rfl, ifT (by simpa using o4) ⟨_, rfl, z.wd, rfl, o5, _, rfl, ifT rfl ⟨_, rfl, z.ln, rfl, o7, q H3 (same_trans s1 (same_trans s2 s3))⟩⟩⟩
end
end K2
end
section
set_option Elab.async false
set_option linter.all false
set_option maxRecDepth 100000
set_option maxHeartbeats 8000000
namespace K2
open PySem PySem.Spec PyProof.Rows L2
section
variable {P : Program} {w : World} {K : PySem.W.Frag} {mg : Str → Option Value} {base : Heap}
/-- a list of streets with unlike names is let -/
def spChkStreets (K : PySem.W.Frag) : Sp := fun vs H Q _ => ∃ (l : Addr) (ts : List (Addr × S5)), vs = [.ref l] ∧ Sts H l ts ∧ (∀ t ∈ ts, t.2.Ok) ∧ (ts.map fun t => t.2.nm).Nodup ∧ ts.length ≤ 100 ∧ ∀ H', Same H H' → Q .non H'
/-- are_streets -/
def spAreStreets (K : PySem.W.Frag) : Sp := fun vs H Q _ => ∃ (l : Addr) (ts : List (Addr × S5)), vs = [.ref l] ∧ Sts H l ts ∧ (∀ t ∈ ts, t.2.Ok) ∧ (ts.map fun t => t.2.nm).Nodup ∧ ts.length ≤ 100 ∧ ∀ H', Same H H' → Q (.bl true) H'
abbrev NC : List Str := ["value", "street"]
theorem scAreStreets : FnScope NC ["value"] (defScope sAreStreets) := ⟨rfl, rfl, rfl, by decide +kernel, rfl, by decide +kernel, by decide +kernel⟩
theorem ok_areStreets {f : Addr} {fd : FuncData} (F : FnP K "are_streets" sAreStreets f fd) (GS : Fz P w K mg base "is_street" 3 ["value"] spIsStreet) (T : Tx K mg) : FnOk P w K mg base CX0 4 f fd ["value"] (spAreStreets K) := by
  refine F.ok scAreStreets (fun vs H Q E h => ?_) (fun cdv A outer s H vs Q E hr h => ?_)
  · obtain ⟨_, _, rfl, _⟩ := h
    rfl
  · obtain ⟨l, ts, rfl, hl, ok, nd, h100, q⟩ := h
    have gIs := T.fr "isinstance" (by decide +kernel)
    have gLi := T.fr "list" (by decide +kernel)
    have gL := T.fr "len" (by decide +kernel)
    have gA := T.fr "all" (by decide +kernel)
    have sl := sizeLine_eq
    refine ⟨_, PSs.nox (pss_cons (ps_if (PW.pt (pw_or (pt_not (pt_val (pe_callB call_isi (by rfl) gIs (by decide +kernel) (pa_cons (pv 0) (pa_cons (pe_bltn (v := .ty "list") (by rfl) gLi (by decide +kernel) rfl) pa_nil)))))
        (pw_or1 (pt_not (pt_val (pe_callB (cr_all rfl) (by rfl) gA (by decide +kernel) (pa_cons (pe_lc (own := [("street", 1)]) (g := gName 1) (tt := tYes) rfl scAreStreets.nd (pi_list (pv 0)) (blkOk_by (own := [("street", 1)]) (N := NC) (sc := defScope sAreStreets) (by decide +kernel))
          (fun _ _ _ _ _ => pg_name (i := 1) scAreStreets.nd rfl (Or.inl rfl)) (fun _ _ _ _ _ => pts_nil) (fun _ _ _ _ _ => pe_fz GS hr (by rfl) (pa_cons (pv 1) pa_nil))) pa_nil))))))) (pss_one (ps_ret pe_bl)) pss_nil)
      (pss_one (ps_ret (pe_cmpR op_eq (pe_callB cr_lenX (by rfl) gL PySem.boot_len (pa_cons
          (pe_scX (own := [("street", 1)]) (g := gName 1) (tt := tYes) (te := tOp (rIxT K) (tVar 1) (tC (.int 0))) rfl scAreStreets.nd (pi_list (pv 0)) (blkOk_by (own := [("street", 1)]) (N := NC) (sc := defScope sAreStreets) (by decide +kernel))
            (fun _ _ _ _ _ => pg_name (i := 1) scAreStreets.nd rfl (Or.inl rfl)) (fun _ _ _ _ _ => pts_nil) (fun _ _ _ _ _ => pe_ix ix_tup (pv 1) pe_int (fun _ _ => rfl))) pa_nil)) (pe_callB call_len_seq (by rfl) gL PySem.boot_len (pa_cons (pv 0) pa_nil)) (nomark _))))), ?_⟩
    refine ⟨_, rfl, _, _, _, _, _, rfl, .ty _, .base (.lst hl.1), ktr (by decide +kernel), _, rfl, ifF (by decide) ?_⟩
    refine ⟨_, rfl, l, rfl, ⟨_, SqL.of hl.1⟩, fun D nD => ?_⟩
    refine lc_list (K := K) (a := l) (xs := ts.map fun t => V.ref t.1) (fun j H' => Same H H' ∧ H' D = some (.lst ((List.replicate j true).map V.bl))) ⟨same_upd nD, upd_same⟩ (fun j H' _ h => SqL.of (h.1 _ _ hl.1)) ?_ ?_
    · rintro j x H' hj ⟨s1, hD⟩
      rw [List.getElem?_map] at hj
      cases e : ts[j]? with
      | none =>
        rw [e] at hj
        cases hj
      | some t =>
        rw [e] at hj
        cases hj
        have tm := List.mem_of_getElem? e
        have lt := (List.getElem?_eq_some_iff.mp e).1
        refine ⟨rfl, _, rfl, t.1, t.2, rfl, s1 _ _ (hl.2 t tm), ok t tm, fun H2 s2 => ⟨_, s2 _ _ hD, by rw [List.length_map, List.length_replicate]; omega, fun b o eb => ?_, ?_⟩⟩
        · rw [upd_ne (ne_of_none eb nD)]
          exact s2 _ _ (s1 _ _ eb)
        · rw [upd_same, List.replicate_succ', List.map_append]
          rfl
    · rintro H1 ⟨s1, hD⟩
      refine ⟨D, List.replicate _ true, rfl, SqL.of hD, ?_⟩
      have e : (List.replicate (ts.map fun t => V.ref t.1).length true).all id = true := by simp
      rw [e]
      refine ⟨_, rfl, ifF (by decide) ?_⟩
      have hl1 := sts_keep hl s1
      refine ⟨_, rfl, l, rfl, ⟨_, SqL.of hl1.1⟩, fun S nS => ?_⟩
      refine scX_list (K := K) (a := l) (xs := ts.map fun t => V.ref t.1) (fun j H' => Same H1 H' ∧ H' S = some (SetX w S (((ts.map fun t => t.2.nm).take j).foldl TxSet.addL []))) ⟨same_upd nS, upd_same⟩ (fun j H' _ h => SqL.of (h.1 _ _ hl1.1)) ?_ ?_
      · rintro j x H' hj ⟨s2, hS⟩
        rw [List.getElem?_map] at hj
        cases e : ts[j]? with
        | none =>
          rw [e] at hj
          cases hj
        | some t =>
          rw [e] at hj
          cases hj
          have tm := List.mem_of_getElem? e
          have lt := (List.getElem?_eq_some_iff.mp e).1
          have en : (ts.map fun t => t.2.nm)[j]? = some t.2.nm := by
            rw [List.getElem?_map, e]
            rfl
          have et : (ts.map fun t => t.2.nm).take (j + 1) = (ts.map fun t => t.2.nm).take j ++ [t.2.nm] := by
            rw [List.take_add_one, en]
            rfl
          have ndj : ((ts.map fun t => t.2.nm).take j).Nodup := (List.take_sublist _ _).nodup nd
          have fl := TxSet.fold_fresh (ks := (ts.map fun t => t.2.nm).take j) (L := []) (by rw [List.append_nil]; exact ndj)
          refine ⟨rfl, _, rfl, t.1, _, ((0 : Nat) : Int), _, rfl, rfl, SqT.of (s2 _ _ (hl1.2 t tm)), atI_nat rfl, t.2.nm, _, rfl, hS, ?_, fun b o eb => ?_, ?_⟩
          · rw [fl, List.length_take, List.length_map]
            unfold scanBound
            simp only [List.length_nil]
            omega
          · rw [upd_ne (ne_of_none eb nS)]
            exact s2 _ _ eb
          · rw [upd_same, et, List.foldl_append]
            rfl
      · rintro H2 ⟨s2, hS⟩
        have fl := TxSet.fold_fresh (ks := ts.map fun t => t.2.nm) (L := []) (by rw [List.append_nil]; exact nd)
        have tk : (ts.map fun t => t.2.nm).take (ts.map fun t => V.ref t.1).length = ts.map fun t => t.2.nm := by
          rw [List.take_of_length_le]
          rw [List.length_map, List.length_map]
          exact Nat.le_refl _
        rw [tk] at hS
        have e3 : decide (V.int ((((ts.map fun t => t.2.nm).foldl TxSet.addL []).length : Nat) : Int) = V.int (((ts.map fun t => V.ref t.1).length : Nat) : Int)) = true := by
          rw [fl, List.length_map]
          simp
        refine ⟨S, _, rfl, hS, ?_, _, rfl, l, _, rfl, Or.inl (SqL.of (s2 _ _ hl1.1)), rfl, ?_⟩
        · rw [fl, List.length_map]
          unfold scanBound
          simp only [List.length_nil]
          omega
        · show Q (.bl (decide (V.int _ = V.int _))) H2
          rw [e3]
          exact q H2 (same_trans s1 s2)
theorem scChkStreets : FnScope ["value"] ["value"] (defScope sChkStreets) := ⟨rfl, rfl, rfl, by decide +kernel, rfl, by decide +kernel, by decide +kernel⟩
theorem ok_chkStreets {f : Addr} {fd : FuncData} (F : FnP K "check_streets" sChkStreets f fd) (GS : Fz P w K mg base "are_streets" 4 ["value"] (spAreStreets K)) (T : Tx K mg) : FnOk P w K mg base CX0 5 f fd ["value"] (spChkStreets K) := by
  refine F.ok scChkStreets (fun vs H Q E h => ?_) (fun cdv A outer s H vs Q E hr h => ?_)
  · obtain ⟨_, _, rfl, _⟩ := h
    rfl
  · obtain ⟨l, ts, rfl, hl, ok, nd, h100, q⟩ := h
    refine ⟨_, PSs.nox (pss_one (ps_if (pt_not (pt_val (pe_fz GS hr (by rfl) (pa_cons (pv 0) pa_nil)))) (pss_one ps_never) pss_nil)), ?_⟩
    exact ⟨_, rfl, l, ts, rfl, hl, ok, nd, h100, fun H' s => ⟨_, rfl, ifF (by decide) (q H' s)⟩⟩
end
end K2
end
section
set_option Elab.async false
set_option linter.all false
set_option maxRecDepth 100000
set_option maxHeartbeats 4000000
namespace K2
open PySem PySem.Spec PyProof.Rows L2
instance : DecidableEq S5 := fun a b => decidable_of_iff (a.nm = b.nm ∧ a.st = b.st ∧ a.en = b.en ∧ a.wd = b.wd ∧ a.ln = b.ln)
  ⟨fun h => by
    cases a
    cases b
    obtain ⟨h1, h2, h3, h4, h5⟩ := h
    cases h1
    cases h2
    cases h3
    cases h4
    cases h5
    rfl, fun h => by
    rw [h]
    exact ⟨rfl, rfl, rfl, rfl, rfl⟩⟩
/-! ### ascending lists -/
theorem perm_sorted {α : Type} {r : α → α → Prop} : ∀ {us vs : List α}, (∀ x ∈ us, ∀ y ∈ us, r x y → r y x → x = y) → us.Perm vs → us.Pairwise r → vs.Pairwise r → us = vs
  | [], vs, _, p, _, _ => (List.Perm.nil_eq p)
  | a :: us, [], _, p, _, _ => by
    have := p.length_eq
    simp at this
  | a :: us, b :: vs, h, p, h1, h2 => by
    have hab : a = b := by
      have ma : a ∈ b :: vs := p.mem_iff.mp List.mem_cons_self
      have mb : b ∈ a :: us := p.mem_iff.mpr List.mem_cons_self
      rcases List.mem_cons.mp ma with e | ma
      · exact e
      · rcases List.mem_cons.mp mb with e | mb
        · exact e.symm
        · exact h a List.mem_cons_self b (List.mem_cons_of_mem _ mb) ((List.pairwise_cons.mp h1).1 b mb) ((List.pairwise_cons.mp h2).1 a ma)
    subst hab
    rw [perm_sorted (fun x hx y hy => h x (List.mem_cons_of_mem _ hx) y (List.mem_cons_of_mem _ hy)) (List.Perm.cons_inv p) (List.pairwise_cons.mp h1).2 (List.pairwise_cons.mp h2).2]
/-- a is not behind b -/
abbrev leS (a b : Str) : Prop := SrtX.ltS b a = false
theorem str_ext {a b : Str} (h : a.cps.toList = b.cps.toList) : a = b := by
  cases a with
  | mk x =>
    cases b with
    | mk y =>
      have : x = y := Array.toList_inj.mp h
      rw [this]
theorem leS_antisymm {a b : Str} (h1 : leS a b) (h2 : leS b a) : a = b := by
  have a1 := List.not_lt.mp (of_decide_eq_false h1)
  have a2 := List.not_lt.mp (of_decide_eq_false h2)
  exact str_ext (List.le_antisymm a1 a2)
theorem leS_trans {a b c : Str} (h1 : leS a b) (h2 : leS b c) : leS a c := by
  have a1 := List.not_lt.mp (of_decide_eq_false h1)
  have a2 := List.not_lt.mp (of_decide_eq_false h2)
  exact decide_eq_false (List.not_lt.mpr (List.le_trans a1 a2))
abbrev Asc (ws : List Str) : Prop := ws.Pairwise leS
theorem asc_rising : ∀ {r : List Str} {p : Str}, risingS p r = true → (∀ x ∈ r, leS p x) ∧ Asc r
  | [], _, _ => ⟨fun x h => by simp at h, List.Pairwise.nil⟩
  | x :: r, p, h => by
    have h := Bool.and_eq_true_iff.mp h
    have h1 : leS p x := by
      have e := h.1
      rw [ltCps_eq] at e
      show decide (x.cps.toList < p.cps.toList) = false
      revert e
      cases decide (x.cps.toList < p.cps.toList) <;> simp
    obtain ⟨h2, h3⟩ := asc_rising h.2
    refine ⟨fun y hy => ?_, List.pairwise_cons.mpr ⟨h2, h3⟩⟩
    rcases List.mem_cons.mp hy with e | hy
    · rw [e]
      exact h1
    · exact leS_trans h1 (h2 y hy)
theorem asc_of_sortedS : ∀ {ws : List Str}, sortedS ws = true → Asc ws
  | [], _ => List.Pairwise.nil
  | x :: r, h => List.pairwise_cons.mpr (asc_rising h)
theorem asc_uniq {us vs : List Str} (p : us.Perm vs) (h1 : Asc us) (h2 : Asc vs) : us = vs := perm_sorted (fun _ _ _ _ a b => leS_antisymm a b) p h1 h2
theorem perm_of_mem {α : Type} {us vs : List α} (n1 : us.Nodup) (n2 : vs.Nodup) (h : ∀ x, x ∈ us ↔ x ∈ vs) : us.Perm vs := (List.perm_ext_iff_of_nodup n1 n2).mpr (fun {x} => h x)
theorem asc_ext {us vs : List Str} (n1 : us.Nodup) (n2 : vs.Nodup) (h : ∀ x, x ∈ us ↔ x ∈ vs) (h1 : Asc us) (h2 : Asc vs) : us = vs := asc_uniq (perm_of_mem n1 n2 h) h1 h2
theorem nodup_inj {α β : Type} {g : α → β} : ∀ {l : List α}, (l.map g).Nodup → ∀ x ∈ l, ∀ y ∈ l, g x = g y → x = y
  | [], _, x, hx, _, _, _ => by simp at hx
  | a :: l, h, x, hx, y, hy, e => by
    rw [List.map_cons] at h
    obtain ⟨h1, h2⟩ := List.nodup_cons.mp h
    rcases List.mem_cons.mp hx with ex | hx
    · rcases List.mem_cons.mp hy with ey | hy
      · rw [ex, ey]
      · exact absurd (List.mem_map.mpr ⟨y, hy, by rw [← e, ex]⟩) h1
    · rcases List.mem_cons.mp hy with ey | hy
      · exact absurd (List.mem_map.mpr ⟨x, hx, by rw [e, ey]⟩) h1
      · exact nodup_inj h2 x hx y hy e
abbrev nms (ss : List S5) : List Str := ss.map S5.nm
abbrev Asc5 (ss : List S5) : Prop := ss.Pairwise fun a b => leS a.nm b.nm
theorem asc5_uniq {us vs : List S5} (n : (nms us).Nodup) (p : us.Perm vs) (h1 : Asc5 us) (h2 : Asc5 vs) : us = vs := perm_sorted (fun x hx y hy a b => nodup_inj n x hx y hy (leS_antisymm a b)) p h1 h2
/-! ### streets as data -/
theorem eqv_s5 (a b : S5) : PyData.eqv a.data b.data = decide (a = b) := by
  obtain ⟨n, s, e, w, l⟩ := a
  obtain ⟨n', s', e', w', l'⟩ := b
  have k : PyData.eqv (S5.data ⟨n, s, e, w, l⟩) (S5.data ⟨n', s', e', w', l'⟩) = ((n == n') && ((s == s') && ((e == e') && ((w == w') && ((l == l') && true))))) := by
    simp only [S5.data, PyData.eqv, PyData.eqvAll]
  rw [k]
  by_cases h : (⟨n, s, e, w, l⟩ : S5) = ⟨n', s', e', w', l'⟩
  · cases h
    simp
  · rw [decide_eq_false h]
    apply Bool.eq_false_iff.mpr
    intro z
    simp only [Bool.and_eq_true, beq_iff_eq, and_true] at z
    obtain ⟨rfl, rfl, rfl, rfl, rfl⟩ := z
    exact h rfl
theorem eqvAll_s5 : ∀ ss ss' : List S5, PyData.eqvAll (ss.map S5.data) (ss'.map S5.data) = decide (ss = ss')
  | [], [] => by simp [PyData.eqvAll]
  | [], _ :: _ => by simp [PyData.eqvAll]
  | _ :: _, [] => by simp [PyData.eqvAll]
  | a :: ss, b :: ss' => by
    rw [List.map_cons, List.map_cons, PyData.eqvAll, eqv_s5, eqvAll_s5 ss ss']
    by_cases h1 : a = b
    · by_cases h2 : ss = ss'
      · simp [h1, h2]
      · simp [h1, h2]
    · simp [h1]
theorem eqv_sts (ss ss' : List S5) : PyData.eqv (.list (ss.map S5.data)) (.list (ss'.map S5.data)) = decide (ss = ss') := by
  rw [PyData.eqv, eqvAll_s5]
theorem eqvAll_strs : ∀ us vs : List Str, PyData.eqvAll (us.map PyData.str) (vs.map PyData.str) = decide (us = vs)
  | [], [] => by simp [PyData.eqvAll]
  | [], _ :: _ => by simp [PyData.eqvAll]
  | _ :: _, [] => by simp [PyData.eqvAll]
  | a :: ss, b :: ss' => by
    rw [List.map_cons, List.map_cons, PyData.eqvAll, eqvAll_strs ss ss', PyData.eqv]
    by_cases h1 : a = b
    · by_cases h2 : ss = ss'
      · simp [h1, h2]
      · simp [h1, h2]
    · simp [h1]
theorem eqv_strs (us vs : List Str) : PyData.eqv (.list (us.map PyData.str)) (.list (vs.map PyData.str)) = decide (us = vs) := by
  rw [PyData.eqv, eqvAll_strs]
end K2
end
section
set_option Elab.async false
set_option linter.all false
set_option maxRecDepth 100000
set_option maxHeartbeats 8000000
namespace K2
open PySem PySem.Spec PyProof.Rows L2
/-! ### values that are data, told by the heap -/
mutual
inductive Dt (H : Hp) : V → PyData → Prop
  | bl (b : Bool) : Dt H (.bl b) (.bool b)
  | int (i : Int) : Dt H (.int i) (.int i)
  | str (x : Str) : Dt H (.str x) (.str x)
  | lst {a : Addr} {xs : List V} {ds : List PyData} (h : H a = some (.lst xs)) (hs : DtAll H xs ds) : Dt H (.ref a) (.list ds)
  | tup {a : Addr} {xs : List V} {ds : List PyData} (h : H a = some (.tup xs)) (hs : DtAll H xs ds) : Dt H (.ref a) (.tuple ds)
inductive DtAll (H : Hp) : List V → List PyData → Prop
  | nil : DtAll H [] []
  | cons {v : V} {vs : List V} {d : PyData} {ds : List PyData} (h : Dt H v d) (hs : DtAll H vs ds) : DtAll H (v :: vs) (d :: ds)
end
mutual
theorem Dt.keep {H H' : Hp} (s : Same H H') : ∀ (d : PyData) (v : V), Dt H v d → Dt H' v d
  | .none, _, h => by cases h
  | .bool b, _, h => by cases h; exact .bl b
  | .int i, _, h => by cases h; exact .int i
  | .str x, _, h => by cases h; exact .str x
  | .list ds, _, h => by
    cases h with
    | lst h hs => exact .lst (s _ _ h) (DtAll.keep s ds _ hs)
  | .tuple ds, _, h => by
    cases h with
    | tup h hs => exact .tup (s _ _ h) (DtAll.keep s ds _ hs)
  | .dict ds, _, h => by cases h
theorem DtAll.keep {H H' : Hp} (s : Same H H') : ∀ (ds : List PyData) (vs : List V), DtAll H vs ds → DtAll H' vs ds
  | [], _, h => by cases h; exact .nil
  | d :: ds, _, h => by
    cases h with
    | cons h hs => exact .cons (Dt.keep s d _ h) (DtAll.keep s ds _ hs)
end
theorem DtAll.len {H : Hp} : ∀ {vs : List V} {ds : List PyData}, DtAll H vs ds → vs.length = ds.length
  | [], _, h => by cases h; rfl
  | _ :: _, _, h => by
    cases h with
    | cons _ hs => rw [List.length_cons, List.length_cons, hs.len]
theorem DtAll.get {H : Hp} : ∀ {vs : List V} {ds : List PyData} {i : Nat} {v : V}, DtAll H vs ds → vs[i]? = some v → ∃ d, ds[i]? = some d ∧ Dt H v d
  | [], _, i, v, _, e => by simp at e
  | x :: vs, _, 0, v, h, e => by
    cases h with
    | cons h hs =>
      cases e
      exact ⟨_, rfl, h⟩
  | x :: vs, _, i + 1, v, h, e => by
    cases h with
    | cons h hs =>
      obtain ⟨d, e2, h2⟩ := hs.get (i := i) (v := v) (by simpa using e)
      exact ⟨d, by simpa using e2, h2⟩
theorem depthAll_get : ∀ {ds : List PyData} {i : Nat} {d : PyData}, ds[i]? = some d → PyData.depth d ≤ PyData.depthAll ds
  | [], i, d, e => by simp at e
  | x :: ds, 0, d, e => by
    cases e
    exact Nat.le_max_left _ _
  | x :: ds, i + 1, d, e => Nat.le_trans (depthAll_get (i := i) (by simpa using e)) (Nat.le_max_right _ _)
mutual
/-- no list of it is longer -/
def wid : PyData → Nat
  | .list ds => max ds.length (widAll ds)
  | .tuple ds => max ds.length (widAll ds)
  | _ => 0
def widAll : List PyData → Nat
  | [] => 0
  | d :: ds => max (wid d) (widAll ds)
end
theorem widAll_get : ∀ {ds : List PyData} {i : Nat} {d : PyData}, ds[i]? = some d → wid d ≤ widAll ds
  | [], i, d, e => by simp at e
  | x :: ds, 0, d, e => by
    cases e
    rw [widAll]
    exact Nat.le_max_left _ _
  | x :: ds, i + 1, d, e => by
    rw [widAll]
    exact Nat.le_trans (widAll_get (i := i) (by simpa using e)) (Nat.le_max_right _ _)
/-- the tuples of a zip -/
theorem walk_zipT {K : PySem.W.Frag} {a b : Addr} {xs ys : List V} {n : Nat} (hn : n = min xs.length ys.length) : Walk (RZ.ItzT K a b) n (fun H => SqT K H a xs ∧ SqT K H b ys) (YPair (fun i => xs[i]?) (fun i => ys[i]?)) := by
  subst hn
  refine ⟨fun i _ hi q => ?_, fun _ q => ⟨xs, ys, q.1, q.2, by omega⟩, fun i H v H' _ q y => ?_⟩
  · have h1 : i < xs.length := by omega
    have h2 : i < ys.length := by omega
    exact ⟨xs, ys, xs[i], ys[i], q.1, q.2, by simp [h1], by simp [h2]⟩
  · obtain ⟨T, x, z, h1, h2, h3, h4, h5⟩ := y
    exact ⟨T, x, z, h1, h2, h3, h4 xs q.1, h5 ys q.2⟩
/-- both are the same data of at most n levels -/
def spExact (n : Nat) : Sp := fun vs H Q _ => ∃ (x y : V) (d : PyData), vs = [x, y] ∧ Dt H x d ∧ Dt H y d ∧ PyData.depth d ≤ n ∧ wid d ≤ 1000 ∧ ∀ H', Same H H' → Q (.bl true) H'
abbrev NX : List Str := ["_law_one", "_law_other", "_law_alike", "_law_a", "_law_b"]
theorem scExact : FnScope NX ["_law_one", "_law_other"] (defScope sExact) := ⟨rfl, rfl, rfl, by decide +kernel, rfl, by decide +kernel, by decide +kernel⟩
inductive TyD : V → PyData → String → Prop
  | bl (b : Bool) : TyD (.bl b) (.bool b) "bool"
  | int (i : Int) : TyD (.int i) (.int i) "int"
  | str (x : Str) : TyD (.str x) (.str x) "str"
section
variable {P : Program} {w : World} {K : PySem.W.Frag} {mg : Str → Option Value} {base : Heap}
theorem same_new {H H' : Hp} {a : Addr} {o : HO} (s : Same H H') (n : H' a = none) : Same H (upd H' a o) := same_trans s (same_upd n)
theorem ok_exact {f : Addr} {fd : FuncData} (F : FnP K "_law_exact" sExact f fd) (hm : mg "_law_exact" = some (.ref f)) (hk : PySem.W.keepIn K (.ref f) = true) (hb : Binds K fd ["_law_one", "_law_other"] []) (T : Tx K mg) :
    ∀ n, FnOk P w K mg base CX0 (n + 1) f fd ["_law_one", "_law_other"] (spExact n) := by
  intro n
  induction n with
  | zero =>
    refine F.ok scExact (fun vs H Q E h => ?_) (fun cdv A outer s H vs Q E hr h => ?_)
    · obtain ⟨_, _, _, rfl, _⟩ := h
      rfl
    · obtain ⟨x, y, d, rfl, hx, hy, hd, hw, q⟩ := h
      have gIs := T.fr "isinstance" (by decide +kernel)
      have gLi := T.fr "list" (by decide +kernel)
      have gTu := T.fr "tuple" (by decide +kernel)
      have gDi := T.fr "dict" (by decide +kernel)
      have gBo := T.fr "bool" (by decide +kernel)
      refine ⟨_, PSs.nox (pss_cons (ps_if (pt_val (pe_callB call_isiT (by rfl) gIs (by decide +kernel) (pa_cons (pv 0) (pa_cons (pe_tup (pa_cons (pe_bltn (v := .ty "list") (by rfl) gLi (by decide +kernel) rfl) (pa_cons (pe_bltn (v := .ty "tuple") (by rfl) gTu (by decide +kernel) rfl) pa_nil))) pa_nil)))) (pss_cons ps_never (pss_one ps_never)) pss_nil)
        (pss_cons (ps_if (pt_val (pe_callB call_isi (by rfl) gIs (by decide +kernel) (pa_cons (pv 0) (pa_cons (pe_bltn (v := .ty "dict") (by rfl) gDi (by decide +kernel) rfl) pa_nil)))) (pss_cons ps_never (pss_one ps_never)) pss_nil)
        (pss_one (ps_ret (pe_and (pe_cmpR op_eq (pe_callB call_isi (by rfl) gIs (by decide +kernel) (pa_cons (pv 0) (pa_cons (pe_bltn (v := .ty "bool") (by rfl) gBo (by decide +kernel) rfl) pa_nil))) (pe_callB call_isi (by rfl) gIs (by decide +kernel) (pa_cons (pv 1) (pa_cons (pe_bltn (v := .ty "bool") (by rfl) gBo (by decide +kernel) rfl) pa_nil))) (nomark _)) (pe_one (pe_cmpR op_eq (pv 0) (pv 1) (nomark _)))))))), ?_⟩
      have kd : ∃ (t : String) (b : Bool), (∀ H, TyX K H x (.type t)) ∧ x = y ∧ scal x x = true ∧ kitB t "list" = some false ∧ kitB t "tuple" = some false ∧ kitB t "dict" = some false ∧ kitB t "bool" = some b := by
        cases hx with
        | bl b =>
          cases hy
          exact ⟨"bool", true, fun H => .base (.bl b), rfl, rfl, by decide +kernel, by decide +kernel, by decide +kernel, by decide +kernel⟩
        | int b =>
          cases hy
          exact ⟨"int", false, fun H => .base (.int b), rfl, rfl, by decide +kernel, by decide +kernel, by decide +kernel, by decide +kernel⟩
        | str b =>
          cases hy
          exact ⟨"str", false, fun H => .base (.str b), rfl, rfl, by decide +kernel, by decide +kernel, by decide +kernel, by decide +kernel⟩
        | lst h hs =>
          simp [PyData.depth] at hd
        | tup h hs =>
          simp [PyData.depth] at hd
      obtain ⟨t, b, ty, e, e2, k1, k2, k3, k4⟩ := kd
      subst e
      refine ⟨_, rfl, (by show 2 ≤ sizeLine; decide +kernel), fun tp ntp => ?_⟩
      refine ⟨_, _, _, _, _, _, rfl, upd_same, .cons (.ty _) (.cons (.ty _) .nil), ty _, kitAny_cons (kit_ty k1) (fun _ => kitAny_cons (kit_ty k2) (fun _ => kitAny_nil) (fun z => nomatch z)) (fun z => nomatch z), _, rfl, ifF (by decide) ?_⟩
      refine ⟨_, rfl, _, _, _, _, _, rfl, .ty _, ty _, kit_ty k3, _, rfl, ifF (by decide) ?_⟩
      refine ⟨_, rfl, _, _, _, _, _, rfl, .ty _, ty _, kit_ty k4, _, rfl, _, _, _, _, _, rfl, .ty _, ty _, kit_ty k4, rfl, _, rfl, ifT (by simp) ?_⟩
      refine ⟨_, rfl, _, rfl, e2, ?_⟩
      rw [decide_eq_true rfl]
      exact q _ (same_upd ntp)
  | succ n ih =>
    refine F.ok scExact (fun vs H Q E h => ?_) (fun cdv A outer s H vs Q E hr h => ?_)
    · obtain ⟨_, _, _, rfl, _⟩ := h
      rfl
    · obtain ⟨x, y, d, rfl, hx, hy, hd, hw, q⟩ := h
      have gIs := T.fr "isinstance" (by decide +kernel)
      have gLi := T.fr "list" (by decide +kernel)
      have gTu := T.fr "tuple" (by decide +kernel)
      have gDi := T.fr "dict" (by decide +kernel)
      have gL := T.fr "len" (by decide +kernel)
      have gA := T.fr "all" (by decide +kernel)
      have gZ := T.fr "zip" (by decide +kernel)
      have GR : Fz P w K mg base "_law_exact" (n + 1) ["_law_one", "_law_other"] (spExact n) := ⟨f, fd, ih, hm, hk, hb⟩
      have gBo := T.fr "bool" (by decide +kernel)
      refine ⟨_, PSs.nox (pss_cons (ps_if (pt_val (pe_callB call_isiT (by rfl) gIs (by decide +kernel) (pa_cons (pv 0) (pa_cons (pe_tup (pa_cons (pe_bltn (v := .ty "list") (by rfl) gLi (by decide +kernel) rfl) (pa_cons (pe_bltn (v := .ty "tuple") (by rfl) gTu (by decide +kernel) rfl) pa_nil))) pa_nil)))) (pss_cons (ps_set (i := 2) scExact.nd rfl (Or.inl rfl) (pe_and (pe_cmpR op_eq (pe_callB call_isi (by rfl) gIs (by decide +kernel) (pa_cons (pv 1) (pa_cons (pe_bltn (v := .ty "list") (by rfl) gLi (by decide +kernel) rfl) pa_nil))) (pe_callB call_isi (by rfl) gIs (by decide +kernel) (pa_cons (pv 0) (pa_cons (pe_bltn (v := .ty "list") (by rfl) gLi (by decide +kernel) rfl) pa_nil))) (nomark _)) (pe_one (pe_cmpR op_eq (pe_callB call_isi (by rfl) gIs (by decide +kernel) (pa_cons (pv 1) (pa_cons (pe_bltn (v := .ty "tuple") (by rfl) gTu (by decide +kernel) rfl) pa_nil))) (pe_callB call_isi (by rfl) gIs (by decide +kernel) (pa_cons (pv 0) (pa_cons (pe_bltn (v := .ty "tuple") (by rfl) gTu (by decide +kernel) rfl) pa_nil))) (nomark _)))))
          (pss_one (ps_ret (pe_and (pv 2) (pe_and (pe_cmpR op_eq (pe_callB call_len_seq (by rfl) gL PySem.boot_len (pa_cons (pv 0) pa_nil)) (pe_callB call_len_seq (by rfl) gL PySem.boot_len (pa_cons (pv 1) pa_nil)) (nomark _)) (pe_one (pe_callB (cr_all rfl) (by rfl) gA (by decide +kernel)
            (pa_cons (pe_lc (own := [("_law_a", 3), ("_law_b", 4)]) (g := gTup K 2 (gCons (gName 3) (gCons (gName 4) gNil))) (tt := tYes) rfl scExact.nd (RZ.pi_zipA (by rfl) gZ (pa_cons (pv 0) (pa_cons (pv 1) pa_nil))) (blkOk_by (own := [("_law_a", 3), ("_law_b", 4)]) (N := NX) (sc := defScope sExact) (by decide +kernel))
              (fun _ _ _ _ _ => pg_tup rfl (pgs_cons (pg_name (i := 3) scExact.nd rfl (Or.inl rfl)) (pgs_cons (pg_name (i := 4) scExact.nd rfl (Or.inl rfl)) pgs_nil))) (fun _ _ _ _ _ => pts_nil) (fun _ _ _ _ _ => pe_fz GR hr (by rfl) (pa_cons (pv 3) (pa_cons (pv 4) pa_nil)))) pa_nil)))))))) pss_nil)
        (pss_cons (ps_if (pt_val (pe_callB call_isi (by rfl) gIs (by decide +kernel) (pa_cons (pv 0) (pa_cons (pe_bltn (v := .ty "dict") (by rfl) gDi (by decide +kernel) rfl) pa_nil)))) (pss_cons ps_never (pss_one ps_never)) pss_nil)
        (pss_one (ps_ret (pe_and (pe_cmpR op_eq (pe_callB call_isi (by rfl) gIs (by decide +kernel) (pa_cons (pv 0) (pa_cons (pe_bltn (v := .ty "bool") (by rfl) gBo (by decide +kernel) rfl) pa_nil))) (pe_callB call_isi (by rfl) gIs (by decide +kernel) (pa_cons (pv 1) (pa_cons (pe_bltn (v := .ty "bool") (by rfl) gBo (by decide +kernel) rfl) pa_nil))) (nomark _)) (pe_one (pe_cmpR op_eq (pv 0) (pv 1) (nomark _)))))))), ?_⟩
      have kd : (∃ (t : String) (b : Bool), (∀ H, TyX K H x (.type t)) ∧ x = y ∧ scal x x = true ∧ kitB t "list" = some false ∧ kitB t "tuple" = some false ∧ kitB t "dict" = some false ∧ kitB t "bool" = some b) ∨ (∃ a b xs ys ds, x = .ref a ∧ y = .ref b ∧ H a = some (.lst xs) ∧ H b = some (.lst ys) ∧ DtAll H xs ds ∧ DtAll H ys ds ∧ PyData.depthAll ds ≤ n ∧ ds.length ≤ 1000 ∧ widAll ds ≤ 1000) ∨ (∃ a b xs ys ds, x = .ref a ∧ y = .ref b ∧ H a = some (.tup xs) ∧ H b = some (.tup ys) ∧ DtAll H xs ds ∧ DtAll H ys ds ∧ PyData.depthAll ds ≤ n ∧ ds.length ≤ 1000 ∧ widAll ds ≤ 1000) := by
        cases hx with
        | bl b =>
          cases hy
          exact .inl ⟨"bool", true, fun H => .base (.bl b), rfl, rfl, by decide +kernel, by decide +kernel, by decide +kernel, by decide +kernel⟩
        | int b =>
          cases hy
          exact .inl ⟨"int", false, fun H => .base (.int b), rfl, rfl, by decide +kernel, by decide +kernel, by decide +kernel, by decide +kernel⟩
        | str b =>
          cases hy
          exact .inl ⟨"str", false, fun H => .base (.str b), rfl, rfl, by decide +kernel, by decide +kernel, by decide +kernel, by decide +kernel⟩
        | lst h hs =>
          cases hy with
          | lst h2 hs2 =>
            rw [PyData.depth] at hd
            rw [wid] at hw
            exact .inr (.inl ⟨_, _, _, _, _, rfl, rfl, h, h2, hs, hs2, by omega, by omega, by omega⟩)
        | tup h hs =>
          cases hy with
          | tup h2 hs2 =>
            rw [PyData.depth] at hd
            rw [wid] at hw
            exact .inr (.inr ⟨_, _, _, _, _, rfl, rfl, h, h2, hs, hs2, by omega, by omega, by omega⟩)
      rcases kd with kd | ⟨a, b, xs, ys, ds, rfl, rfl, ha, hb', hs, hs2, hd, hl, hw⟩ | ⟨a, b, xs, ys, ds, rfl, rfl, ha, hb', hs, hs2, hd, hl, hw⟩
      · obtain ⟨t, b, ty, e, e2, k1, k2, k3, k4⟩ := kd
        subst e
        refine ⟨_, rfl, (by show 2 ≤ sizeLine; decide +kernel), fun tp ntp => ?_⟩
        refine ⟨_, _, _, _, _, _, rfl, upd_same, .cons (.ty _) (.cons (.ty _) .nil), ty _, kitAny_cons (kit_ty k1) (fun _ => kitAny_cons (kit_ty k2) (fun _ => kitAny_nil) (fun z => nomatch z)) (fun z => nomatch z), _, rfl, ifF (by decide) ?_⟩
        refine ⟨_, rfl, _, _, _, _, _, rfl, .ty _, ty _, kit_ty k3, _, rfl, ifF (by decide) ?_⟩
        refine ⟨_, rfl, _, _, _, _, _, rfl, .ty _, ty _, kit_ty k4, _, rfl, _, _, _, _, _, rfl, .ty _, ty _, kit_ty k4, rfl, _, rfl, ifT (by simp) ?_⟩
        refine ⟨_, rfl, _, rfl, e2, ?_⟩
        rw [decide_eq_true rfl]
        exact q _ (same_upd ntp)
      · have sl := sizeLine_eq
        have lx := hs.len
        have ly := hs2.len
        refine ⟨_, rfl, (by show 2 ≤ sizeLine; decide +kernel), fun tp ntp => ?_⟩
        have s0 := same_upd (o := HO.tup [V.ty "list", V.ty "tuple"]) ntp
        refine ⟨_, _, _, _, _, _, rfl, upd_same, .cons (.ty _) (.cons (.ty _) .nil), .base (.lst (s0 _ _ ha)), kitAny_cons (kit_ty (r := true) (by decide +kernel)) (fun z => nomatch z) (fun _ => rfl), _, rfl, ifT rfl ?_⟩
        generalize upd H tp (.tup [V.ty "list", V.ty "tuple"]) = H1 at s0 ⊢
        have ha1 := s0 _ _ ha
        have hb1 := s0 _ _ hb'
        refine ⟨_, rfl, _, _, _, _, _, rfl, .ty _, .base (.lst hb1), kit_ty (r := true) (by decide +kernel), _, rfl, _, _, _, _, _, rfl, .ty _, .base (.lst ha1), kit_ty (r := true) (by decide +kernel), rfl, _, rfl, ifT (by simp) ?_⟩
        refine ⟨_, rfl, _, _, _, _, _, rfl, .ty _, .base (.lst hb1), kit_ty (r := false) (by decide +kernel), _, rfl, _, _, _, _, _, rfl, .ty _, .base (.lst ha1), kit_ty (r := false) (by decide +kernel), rfl, ?_⟩
        refine ⟨_, rfl, _, rfl, ifT (by simp) ?_⟩
        refine ⟨_, rfl, a, xs, rfl, Or.inl (SqL.of ha1), _, rfl, b, ys, rfl, Or.inl (SqL.of hb1), rfl, _, rfl, ifT ?_ ?_⟩
        · rw [lx, ly]
          simp
        refine ⟨_, rfl, _, rfl, a, b, xs, ys, rfl, Or.inl ⟨SqL.of ha1, SqL.of hb1, fun D nD => ?_⟩⟩
        refine lc_it (walk_zip (K := K) (a := a) (b := b) (xs := xs) (ys := ys) (n := ds.length) (by omega)) (fun j H' => Same H1 H' ∧ H' D = some (.lst ((List.replicate j true).map V.bl))) ⟨same_upd nD, upd_same⟩ (fun j H' _ h => ⟨SqL.of (h.1 _ _ ha1), SqL.of (h.1 _ _ hb1)⟩) ?_ ?_
        · rintro j v H2 H3 hj ⟨s1, hD⟩ ⟨Tp, u, z, rfl, nT, rfl, hu, hz⟩
          obtain ⟨d, hd1, hd2⟩ := hs.get hu
          obtain ⟨d', hd3, hd4⟩ := hs2.get hz
          rw [hd1] at hd3
          cases hd3
          have s3 := same_upd (o := HO.tup [u, z]) nT
          have hT : upd H2 Tp (.tup [u, z]) Tp = some (.tup [u, z]) := upd_same
          generalize upd H2 Tp (.tup [u, z]) = H3 at s3 hT ⊢
          have s13 := same_trans s0 (same_trans s1 s3)
          refine ⟨Tp, _, rfl, SqT.of hT, rfl, _, _, rfl, _, _, rfl, rfl, rfl, _, rfl, _, rfl, u, z, d, rfl, hd2.keep s13, hd4.keep s13, Nat.le_trans (depthAll_get hd1) hd, Nat.le_trans (widAll_get hd1) hw, fun H4 s4 => ?_⟩
          have hD4 := s4 _ _ (s3 _ _ hD)
          refine ⟨_, hD4, by rw [List.length_map, List.length_replicate]; omega, fun b o eb => ?_, ?_⟩
          · rw [upd_ne (ne_of_none eb nD)]
            exact s4 _ _ (s3 _ _ (s1 _ _ eb))
          · rw [upd_same, List.replicate_succ', List.map_append]
            rfl
        · rintro H2 ⟨s1, hD⟩
          refine ⟨D, List.replicate _ true, rfl, SqL.of hD, ?_⟩
          have e : (List.replicate ds.length true).all id = true := by simp
          rw [e]
          exact q H2 (same_trans s0 s1)
      · have sl := sizeLine_eq
        have lx := hs.len
        have ly := hs2.len
        refine ⟨_, rfl, (by show 2 ≤ sizeLine; decide +kernel), fun tp ntp => ?_⟩
        have s0 := same_upd (o := HO.tup [V.ty "list", V.ty "tuple"]) ntp
        refine ⟨_, _, _, _, _, _, rfl, upd_same, .cons (.ty _) (.cons (.ty _) .nil), .base (.tup (s0 _ _ ha)), kitAny_cons (kit_ty (r := false) (by decide +kernel)) (fun _ => kitAny_cons (kit_ty (r := true) (by decide +kernel)) (fun z => nomatch z) (fun _ => rfl)) (fun z => nomatch z), _, rfl, ifT rfl ?_⟩
        generalize upd H tp (.tup [V.ty "list", V.ty "tuple"]) = H1 at s0 ⊢
        have ha1 := s0 _ _ ha
        have hb1 := s0 _ _ hb'
        refine ⟨_, rfl, _, _, _, _, _, rfl, .ty _, .base (.tup hb1), kit_ty (r := false) (by decide +kernel), _, rfl, _, _, _, _, _, rfl, .ty _, .base (.tup ha1), kit_ty (r := false) (by decide +kernel), rfl, _, rfl, ifT (by simp) ?_⟩
        refine ⟨_, rfl, _, _, _, _, _, rfl, .ty _, .base (.tup hb1), kit_ty (r := true) (by decide +kernel), _, rfl, _, _, _, _, _, rfl, .ty _, .base (.tup ha1), kit_ty (r := true) (by decide +kernel), rfl, ?_⟩
        refine ⟨_, rfl, _, rfl, ifT (by simp) ?_⟩
        refine ⟨_, rfl, a, xs, rfl, Or.inr (SqT.of ha1), _, rfl, b, ys, rfl, Or.inr (SqT.of hb1), rfl, _, rfl, ifT ?_ ?_⟩
        · rw [lx, ly]
          simp
        refine ⟨_, rfl, _, rfl, a, b, xs, ys, rfl, Or.inr ⟨SqT.of ha1, SqT.of hb1, fun D nD => ?_⟩⟩
        refine lc_it (walk_zipT (K := K) (a := a) (b := b) (xs := xs) (ys := ys) (n := ds.length) (by omega)) (fun j H' => Same H1 H' ∧ H' D = some (.lst ((List.replicate j true).map V.bl))) ⟨same_upd nD, upd_same⟩ (fun j H' _ h => ⟨SqT.of (h.1 _ _ ha1), SqT.of (h.1 _ _ hb1)⟩) ?_ ?_
        · rintro j v H2 H3 hj ⟨s1, hD⟩ ⟨Tp, u, z, rfl, nT, rfl, hu, hz⟩
          obtain ⟨d, hd1, hd2⟩ := hs.get hu
          obtain ⟨d', hd3, hd4⟩ := hs2.get hz
          rw [hd1] at hd3
          cases hd3
          have s3 := same_upd (o := HO.tup [u, z]) nT
          have hT : upd H2 Tp (.tup [u, z]) Tp = some (.tup [u, z]) := upd_same
          generalize upd H2 Tp (.tup [u, z]) = H3 at s3 hT ⊢
          have s13 := same_trans s0 (same_trans s1 s3)
          refine ⟨Tp, _, rfl, SqT.of hT, rfl, _, _, rfl, _, _, rfl, rfl, rfl, _, rfl, _, rfl, u, z, d, rfl, hd2.keep s13, hd4.keep s13, Nat.le_trans (depthAll_get hd1) hd, Nat.le_trans (widAll_get hd1) hw, fun H4 s4 => ?_⟩
          have hD4 := s4 _ _ (s3 _ _ hD)
          refine ⟨_, hD4, by rw [List.length_map, List.length_replicate]; omega, fun b o eb => ?_, ?_⟩
          · rw [upd_ne (ne_of_none eb nD)]
            exact s4 _ _ (s3 _ _ (s1 _ _ eb))
          · rw [upd_same, List.replicate_succ', List.map_append]
            rfl
        · rintro H2 ⟨s1, hD⟩
          refine ⟨D, List.replicate _ true, rfl, SqL.of hD, ?_⟩
          have e : (List.replicate ds.length true).all id = true := by simp
          rw [e]
          exact q H2 (same_trans s0 s1)
end
end K2
end
section
set_option Elab.async false
set_option linter.all false
set_option maxRecDepth 100000
set_option maxHeartbeats 4000000
/-! == and != where one side is an instance of a class with an own == (and no own !=), the other side anything of the common kinds. -/
namespace OwnQ
open PySem PySem.Spec PyProof.Rows PySem.W
/-- what is known of the class -/
structure Facts (K : Frag) (C fE : Addr) : Prop where
  eq : findIn K (.ref C) "__eq__" = some (some (.ref fE))
  fn : isFn K (.ref fE) = true
  ne : findIn K (.ref C) "__ne__" = some (some (.builtin "object.__ne__"))
  ob : subIn K (.ref C) (.type "object") = some true
  sN : subIn K (.ref C) (.type "NoneType") = some false
  sI : subIn K (.ref C) (.type "int") = some false
  sB : subIn K (.ref C) (.type "bool") = some false
  sS : subIn K (.ref C) (.type "str") = some false
  sL : subIn K (.ref C) (.type "list") = some false
  sT : subIn K (.ref C) (.type "tuple") = some false
  sD : subIn K (.ref C) (.type "dict") = some false
section
variable {prog : Program} {w : World} {A : Around} {E : Value → Shared → Prop} {s : Shared} {K : Frag} {x y C f : Addr} {ox oy : Obj} {od : Option Obj} {name : Str} {b tb : Value} {id : String}
theorem ifBound_B {M : Model} {args : List Value} {Q : Option Value → Shared → Prop} (X : K.In s.heap) (I : InstAt s.heap x ox C od) (hs : findIn K (.ref C) name = some (some (.builtin id))) (hb : ∀ self, bindSpecial (.builtin id) self = pure (.builtin id, [self]))
    (h : wpAny M A (call (.builtin id) (.ref x :: args)) (fun v => Q (some v)) E s) : wpAny M A (callSpecialIfBound? (.ref x) name args) Q E s := by
  simp only [callSpecialIfBound?, bindSpecialIfBound?]
  refine wpAny_holding (wpAny_bind (wpAny_bind (wpAny_bind (I.type.here ((looks_findIn X hs).here ?_)))))
  simp only [hb]
  refine wpAny_bind (wpAny_askSetting (wpAny_ite ?_))
  have fin : wpAny M A (call (.builtin id) ([.ref x] ++ args) >>= fun v => pure (some v)) Q E s := wpAny_bind (wpAny_mono h (fun v s' h' => wpAny_pure h') fun _ _ h' => h')
  split
  · exact wpAny_bind (wpAny_pure (wpAny_pure fin))
  · exact wpAny_tryCatch (wpAny_bind (wpAny_pure (wpAny_pure fin)))
theorem check_inst {M : Model} {owner n : String} {rest : List Value} {Q : Unit → Shared → Prop} (X : K.In s.heap) (I : InstAt s.heap x ox C od) (hk : builtinKind id = some .slot) (hs : splitId id = some (owner, n))
    (ha : argsOk id ⟨.ref x :: rest, []⟩) (hob : subIn K (.ref C) (.type owner) = some true) (hq : Q () s) : wpAny M A (checkBuiltinCall id ⟨.ref x :: rest, []⟩) Q E s := by
  simp only [checkBuiltinCall, hk, hs]
  refine wpAny_bind ?_
  unfold isInstance
  refine wpAny_bind (I.type.here ((looks_subIn X hob).here ?_))
  simp only [Bool.not_true, Bool.false_eq_true, if_false]
  cases hsig : Manifest.signature? id with
  | none => exact wpAny_pure hq
  | some sig =>
    simp only [argsOk, hsig] at ha
    have h2 : Bind.checkArgs id sig ⟨.ref x :: rest, []⟩ = pure () := ha
    show wpAny M A (Bind.checkArgs id sig ⟨.ref x :: rest, []⟩) Q E _
    rw [h2]; exact wpAny_pure hq
theorem ne_entry (X : K.In s.heap) (I : InstAt s.heap x ox C od) (Fa : Facts K C f) (hu : A.units < cLine) {Q : Fin → Shared → Prop}
    (hcall : wpAny (model prog w) A (call (.ref f) [.ref x, b]) (fun v s' => ∃ k, v = .bool k ∧ Q (.done (.ret (.bool (!k)))) s') E s) :
    wpAny (model prog w) A (Builtin.«object.__ne__» ⟨[.ref x, b], []⟩) Q E s := by
  unfold Builtin.«object.__ne__»
  repeat (first
    | with_reducible refine wpAny_cRoomFor hu ?_
    | (refine wpAny_bind (m := callSpecialIfBound? (.ref x) (Str.ofString "__eq__") [b])
        (ifBound_K X I Fa.eq Fa.fn (wpAny_mono hcall (fun r s' hr => by
          obtain ⟨k, rfl, hq⟩ := hr
          repeat (first | exact hq | exact wpAny_pure hq | exact wpAny_truthy_bool hq | (refine wpAny_bind (m := truthy (.bool _)) (wpAny_truthy_bool ?_)) | wp_step)) fun _ _ e => e)))
    | wp_step)
/-- how the instance's own way of comparing ends -/
theorem try_ne (X : K.In s.heap) (I : InstAt s.heap x ox C od) (Fa : Facts K C f) (hu : A.units + 1 < cLine) {Q : Option Value → Shared → Prop}
    (hcall : wpAny (model prog w) A.in1 (call (.ref f) [.ref x, b]) (fun v s' => ∃ k, v = .bool k ∧ Q (some (.bool (!k))) s') E s) : wpAny (model prog w) A (tryCompare (.ref x) "__ne__" b) Q E s := by
  simp only [tryCompare]
  refine wpAny_bind (ifBound_B X I Fa.ne F.cmp_object.ne.bind (wpAny_call (codeAny_call_builtin F.cmp_object.ne.plain F.cmpEntry_ne
    (check_inst X I F.cmpKind_ne F.cmpSplit_ne (F.cmpArgs_ne _ _) Fa.ob (ne_entry (A := A.in1) X I Fa hu (wpAny_mono hcall (fun v s' hv => ?_) fun _ _ e => e))))))
  obtain ⟨k, rfl, hq⟩ := hv
  first | exact ⟨k, rfl, wpAny_pure hq⟩ | exact ⟨k, rfl, wpAny_pure (wpAny_pure hq)⟩ | exact ⟨k, rfl, hq⟩
end
end OwnQ
namespace OwnQ
open PySem PySem.Spec PyProof.Rows PySem.W
section
variable {prog : Program} {w : World} {A : Around} {E : Value → Shared → Prop} {s : Shared} {K : Frag} {x y C f : Addr} {ox oy : Obj} {od : Option Obj} {name : Str} {a b tb : Value} {id T : String}
/-- the instance stands left -/
theorem cmp_left {op : CmpOp} {Q : Value → Shared → Prop} (hu : A.units < cLine) (X : K.In s.heap) (I : InstAt s.heap x ox C od) (hb : Looks (model prog w) s.heap (typeOf b) tb) (hn : notFirst K C tb = true)
    (one : wpAny (model prog w) A (tryCompare (.ref x) (cmpInfo op).2.1 b) (fun r s' => ∃ v, r = some v ∧ Q v s') E s) : wpAny (model prog w) A (richCompare op (.ref x) b) Q E s := by
  unfold richCompare
  simp only [oneThing_ref]
  refine wpAny_holding (wpAny_bind (wpAny_cRoomFor hu ?_))
  refine wpAny_bind (I.type.here (wpAny_bind (hb.here ?_)))
  split
  · rename_i q
    have e : subIn K tb (.ref C) = some false := by
      rcases Bool.or_eq_true_iff.mp hn with e | e
      · rw [beq_iff_eq.mp e] at q; simp at q
      · exact beq_iff_eq.mp e
    refine wpAny_bind ((looks_subIn X e).here ?_)
    simp only [Bool.false_eq_true, if_false]
    refine wpAny_bind (wpAny_mono one (fun r s' z => ?_) fun _ _ e => e)
    obtain ⟨v, rfl, hq⟩ := z
    exact wpAny_pure hq
  · refine wpAny_bind (wpAny_pure ?_)
    simp only [Bool.false_eq_true, if_false]
    refine wpAny_bind (wpAny_mono one (fun r s' z => ?_) fun _ _ e => e)
    obtain ⟨v, rfl, hq⟩ := z
    exact wpAny_pure hq
/-- the instance stands right of a value of a built-in type that declines -/
theorem cmp_right {op : CmpOp} {Q : Value → Shared → Prop} (hu : A.units < cLine) (X : K.In s.heap) (I : InstAt s.heap x ox C od) (ha : s.TypeIs a T) (hn : subIn K (.ref C) (.type T) = some false) (h1 : Slot T (cmpInfo op).2.1 id)
    (dec : ∀ Q' : Value → Shared → Prop, Q' .notImplemented s → wpAny (model prog w) A (call (.builtin id) [a, .ref x]) Q' E s)
    (one : wpAny (model prog w) A (tryCompare (.ref x) (cmpInfo op).2.2 a) (fun r s' => ∃ v, r = some v ∧ Q v s') E s) : wpAny (model prog w) A (richCompare op a (.ref x)) Q E s := by
  rcases hi : cmpInfo op with ⟨sym, g, r⟩
  rw [hi] at h1 one
  simp only [richCompare, hi, ha.oneThing_none]
  refine wpAny_holding (wpAny_bind (wpAny_cRoomFor hu ?_))
  refine wpAny_bind (wpAny_typeOf ha (wpAny_bind (I.type.here ?_)))
  have hne : (Value.type T != Value.ref C) = true := by
    simp
  simp only [hne, if_true]
  refine wpAny_bind ((looks_subIn X hn).here ?_)
  simp only [Bool.false_eq_true, if_false, Bool.not_false, if_true]
  refine wpAny_bind (m := tryCompare a _ _) (wpAny_tryCompare_declines ha h1 (dec _ ⟨rfl, ?_⟩))
  refine wpAny_bind (wpAny_mono one (fun r s' z => ?_) fun _ _ e => e)
  obtain ⟨v, rfl, hq⟩ := z
  exact wpAny_pure hq
/-- isinstance of the instance by a built-in type that it isn't of -/
theorem inst_no {M : Model} {U : String} {Q : Bool → Shared → Prop} (X : K.In s.heap) (I : InstAt s.heap x ox C od) (h : subIn K (.ref C) (.type U) = some false) (hq : Q false s) : wpAny M A (isInstance (.ref x) (.type U)) Q E s := by
  unfold isInstance
  exact wpAny_bind (I.type.here ((looks_subIn X h).here hq))
end
section
variable {prog : Program} {w : World} {A : Around} {E : Value → Shared → Prop} {s : Shared} {K : Frag} {x C f : Addr} {dx : Addr} {od : Option Obj}
open Builtin
theorem dec_none (i : String) {B : Builtin} {op : CmpOp} (S : Slot "NoneType" (cmpInfo op).2.1 i) (hB : entryFor table i = some B) (ha : argsOk i ⟨[.none, .ref x], []⟩) (hb : B = Builtin.«NoneType.__eq__» ∨ B = Builtin.«NoneType.__ne__»)
    (Q : Value → Shared → Prop) (q : Q .notImplemented s) : wpAny (model prog w) A (call (.builtin i) [.none, .ref x]) Q E s := by
  refine GQ.call_here S rfl hB ha ?_
  rcases hb with rfl | rfl
  · obtain ⟨hp, g, d, tk, os⟩ := s
    wp_walk
    exact q
  · obtain ⟨hp, g, d, tk, os⟩ := s
    wp_walk
    exact q
theorem dec_int {a : Value} {T : String} (hT : s.TypeIs a T) (hv : (∃ k t, a = .int k t) ∨ ∃ k, a = .bool k) (I : InstAt s.heap x (instObj C dx) C od) (i : String) {B : Builtin} {op : CmpOp} (S : Slot T (cmpInfo op).2.1 i) (hB : entryFor table i = some B) (ha : argsOk i ⟨[a, .ref x], []⟩) (hb : B = Builtin.«int.__eq__» ∨ B = Builtin.«int.__ne__»)
    (Q : Value → Shared → Prop) (q : Q .notImplemented s) : wpAny (model prog w) A (call (.builtin i) [a, .ref x]) Q E s := by
  refine GQ.call_here S hT hB ha ?_
  obtain ⟨hx, _, _, _⟩ := I
  rcases hb with rfl | rfl <;> rcases hv with ⟨k, t, rfl⟩ | ⟨k, rfl⟩ <;>
  · obtain ⟨hp, g, d, tk, os⟩ := s
    wp_walk using MeetsSeq.wpAny_loadPart' hx
    exact q
theorem dec_str {a : Str} {t : Tok} (I : InstAt s.heap x (instObj C dx) C od) (i : String) {B : Builtin} {op : CmpOp} (S : Slot "str" (cmpInfo op).2.1 i) (hB : entryFor table i = some B) (ha : argsOk i ⟨[.str a t, .ref x], []⟩) (hb : B = Builtin.«str.__eq__» ∨ B = Builtin.«str.__ne__»)
    (Q : Value → Shared → Prop) (q : Q .notImplemented s) : wpAny (model prog w) A (call (.builtin i) [.str a t, .ref x]) Q E s := by
  refine GQ.call_here S (typeIs_str _ _ _) hB ha ?_
  obtain ⟨hx, _, _, _⟩ := I
  rcases hb with rfl | rfl <;>
  · obtain ⟨hp, g, d, tk, os⟩ := s
    wp_walk using MeetsSeq.wpAny_loadPart' hx
    exact q
theorem dec_list {l : Addr} (X : K.In s.heap) (I : InstAt s.heap x (instObj C dx) C od) (hn : subIn K (.ref C) (.type "list") = some false) (hl : s.TypeIs (.ref l) "list") (i : String) {B : Builtin} {op : CmpOp} (S : Slot "list" (cmpInfo op).2.1 i) (hB : entryFor table i = some B) (ha : argsOk i ⟨[.ref l, .ref x], []⟩)
    (hb : B = Builtin.«list.__eq__» ∨ B = Builtin.«list.__ne__») (Q : Value → Shared → Prop) (q : Q .notImplemented s) : wpAny (model prog w) A (call (.builtin i) [.ref l, .ref x]) Q E s := by
  refine GQ.call_here S hl hB ha ?_
  have one : ∀ (A : Around) (E : Value → Shared → Prop) (Q : Bool → Shared → Prop), Q false s → wpAny (model prog w) A (isInstance (.ref x) (.type "list")) Q E s := fun A E Q q => inst_no X I hn q
  obtain ⟨hp, g, d, tk, os⟩ := s
  rcases hb with rfl | rfl <;>
  · wp_walk using one
    exact q
theorem dec_tuple {l : Addr} (X : K.In s.heap) (I : InstAt s.heap x (instObj C dx) C od) (hn : subIn K (.ref C) (.type "tuple") = some false) (hl : s.TypeIs (.ref l) "tuple") (i : String) {B : Builtin} {op : CmpOp} (S : Slot "tuple" (cmpInfo op).2.1 i) (hB : entryFor table i = some B) (ha : argsOk i ⟨[.ref l, .ref x], []⟩)
    (hb : B = Builtin.«tuple.__eq__» ∨ B = Builtin.«tuple.__ne__») (Q : Value → Shared → Prop) (q : Q .notImplemented s) : wpAny (model prog w) A (call (.builtin i) [.ref l, .ref x]) Q E s := by
  refine GQ.call_here S hl hB ha ?_
  have one : ∀ (A : Around) (E : Value → Shared → Prop) (Q : Bool → Shared → Prop), Q false s → wpAny (model prog w) A (isInstance (.ref x) (.type "tuple")) Q E s := fun A E Q q => inst_no X I hn q
  obtain ⟨hp, g, d, tk, os⟩ := s
  rcases hb with rfl | rfl <;>
  · wp_walk using one
    exact q
theorem dec_dict {l : Addr} (X : K.In s.heap) (I : InstAt s.heap x (instObj C dx) C od) (hn : subIn K (.ref C) (.type "dict") = some false) (hl : s.TypeIs (.ref l) "dict") (i : String) {B : Builtin} {op : CmpOp} (S : Slot "dict" (cmpInfo op).2.1 i) (hB : entryFor table i = some B) (ha : argsOk i ⟨[.ref l, .ref x], []⟩)
    (hb : B = Builtin.«dict.__eq__» ∨ B = Builtin.«dict.__ne__») (Q : Value → Shared → Prop) (q : Q .notImplemented s) : wpAny (model prog w) A (call (.builtin i) [.ref l, .ref x]) Q E s := by
  refine GQ.call_here S hl hB ha ?_
  have one : ∀ (A : Around) (E : Value → Shared → Prop) (Q : Bool → Shared → Prop), Q false s → wpAny (model prog w) A (isInstance (.ref x) (.type "dict")) Q E s := fun A E Q q => inst_no X I hn q
  obtain ⟨hp, g, d, tk, os⟩ := s
  rcases hb with rfl | rfl <;>
  · wp_walk using one
    exact q
end
end OwnQ
end
section


set_option Elab.async false
set_option linter.all false
set_option maxRecDepth 100000
set_option maxHeartbeats 4000000
namespace L2
open PySem PySem.Spec PyProof.Rows PySem.W
/-- of which type a value is, told by the abstract heap -/
inductive KindV (H : Hp) : V → Value → Prop
  | non : KindV H .non (.type "NoneType")
  | int (i : Int) : KindV H (.int i) (.type "int")
  | bl (b : Bool) : KindV H (.bl b) (.type "bool")
  | str (z : PySem.Str) : KindV H (.str z) (.type "str")
  | lst {a : Addr} {xs : List V} (h : H a = some (.lst xs)) : KindV H (.ref a) (.type "list")
  | tup {a : Addr} {xs : List V} (h : H a = some (.tup xs)) : KindV H (.ref a) (.type "tuple")
  | dct {a : Addr} {kvs : List (Key × V)} (h : H a = some (.dK kvs)) : KindV H (.ref a) (.type "dict")
  | ins {a D dx : Addr} {fs : List (PySem.Str × V)} (h : H a = some (.ins D dx fs)) : KindV H (.ref a) (.ref D)
theorem KindV.keep {H H' : Hp} {x : V} {t : Value} (k : KindV H x t) (h : ∀ a o, H a = some o → H' a = some o) : KindV H' x t := by
  cases k with
  | non => exact .non
  | int i => exact .int i
  | bl b => exact .bl b
  | str z => exact .str z
  | lst e => exact .lst (h _ _ e)
  | tup e => exact .tup (h _ _ e)
  | dct e => exact .dct (h _ _ e)
  | ins e => exact .ins (h _ _ e)
section
variable {X : Cx} {pins : List (Addr × Obj)} {σ : St} {H : Hp} {s : Shared} {x : V} {u t : Value} {T : String}
theorem kind_type (I : Inv X pins σ H s) (r : RelV x u) (k : KindV H x (.type T)) : s.TypeIs u T := by
  cases k with
  | non => cases r; rfl
  | int i => obtain ⟨t, rfl⟩ := r; exact typeIs_int s i t
  | bl b => cases r; rfl
  | str z => obtain ⟨t, rfl⟩ := r; exact typeIs_str s z t
  | lst e =>
    cases r
    obtain ⟨_, its, n, _, ho⟩ := I.hok _ _ e
    exact ⟨_, ho, rfl⟩
  | tup e =>
    cases r
    obtain ⟨_, its, _, ho⟩ := I.hok _ _ e
    exact ho.typeIs
  | dct e =>
    cases r
    obtain ⟨_, _, vs, _, ho⟩ := I.hok _ _ e
    exact ho.typeIs
theorem kind_looks {M : Model} (I : Inv X pins σ H s) (r : RelV x u) (k : KindV H x t) : Looks M s.heap (typeOf u) t := by
  have rf : ∀ (a : Addr) (T : String), s.TypeIs (.ref a) T → Looks M s.heap (typeOf (.ref a)) (.type T) := fun a T h => by
    obtain ⟨o, ho, hc⟩ := h
    exact hc ▸ (Looks.ld ho).andThen .now
  cases k with
  | non => cases r; exact Looks.of_pure rfl
  | int i => obtain ⟨t, rfl⟩ := r; exact Looks.of_pure rfl
  | bl b => cases r; exact Looks.of_pure rfl
  | str z => obtain ⟨t, rfl⟩ := r; exact Looks.of_pure rfl
  | lst e => have h := kind_type I r (.lst e); cases r; exact rf _ _ h
  | tup e => have h := kind_type I r (.tup e); cases r; exact rf _ _ h
  | dct e => have h := kind_type I r (.dct e); cases r; exact rf _ _ h
  | ins e =>
    cases r
    obtain ⟨mA, J, _⟩ := ins_get I.hok e
    obtain ⟨od, J, _⟩ := J.look
    exact J.type
end
/-- == (neg: !=) where the left or the right one is an instance of C with its own == -/
def rOwnEq (K : PySem.W.Frag) (C : Addr) (sp : Sp) (E : XK) (neg : Bool) : R2 := fun x y H Q =>
  (∃ a dx fs t, x = .ref a ∧ H a = some (.ins C dx fs) ∧ KindV H y t ∧ notFirst K C t = true ∧ sp [x, y] H (fun v H' => ∃ k, v = .bl k ∧ Q (.bl (k != neg)) H') E) ∨
  (∃ b dx fs T, y = .ref b ∧ H b = some (.ins C dx fs) ∧ KindV H x (.type T) ∧ sp [y, x] H (fun v H' => ∃ k, v = .bl k ∧ Q (.bl (k != neg)) H') E)
section
variable {X : Cx} {CX : CXT} {n : Nat} {C f : Addr} {fd : FuncData} {ps : List PySem.Str} {sp : Sp} {E : XK} {pins : List (Addr × Obj)} {σ : St} {H : Hp} {s : Shared} {A : Around}
theorem run_eqf (F : FnOk X.prog X.w X.K X.mg X.base CX n f fd ps sp) (hb : Binds X.K fd ps []) (hx : Passes CX X E) (sb : Sub X n A) (I : Inv X pins σ H s) {x y : V} {u v : Value} (ru : RelV x u) (rv : RelV y v) {Qv : VK} {R : Value → Shared → Prop}
    (h : sp [x, y] H Qv E) (fin : ∀ z w H' s', Inv X pins σ H' s' → RelV z w → Qv z H' → R w s') : wpAny (model X.prog X.w) A (call (.ref f) [u, v]) R X.xe s := by
  have e0 : Env0 X.prog X.w X.K X.mg X.base A X.stack s H := by
    have e := I.env0
    exact ⟨by rw [sb.fr]; exact e.frames, e.mod, e.bs, e.bsz, e.funs, e.frf, e.hok, e.bare⟩
  have hl := F.len _ _ _ _ h
  have r2 : Vals [x, y] [u, v] := .cons ru (.cons rv .nil)
  refine wpAny_call (codeAny_mono (F.run A X.stack s H ⟨[u, v], []⟩ [u, v] [x, y] _ E sb.room e0 (by
    have := hb s [u, v] I.kIn (by simpa using hl)
    simpa using this) r2 h) fun r s' hq => ?_)
  cases r with
  | error e => exact hx pins σ H s e s' I hq
  | ok fl =>
    cases fl with
    | ret w =>
      obtain ⟨z, H', I', rz, q⟩ := I.after hq
      exact fin z w H' s' I' rz q
    | next => exact False.elim hq
    | brk => exact False.elim hq
    | cont => exact False.elim hq
theorem call_decl {B : Builtin} {T id : String} {op : CmpOp} (Fa : OwnQ.Facts X.K C f) {x : V} {u : Value} {b dx : Addr} {fs : List (PySem.Str × V)} (I : Inv X pins σ H s) (r : RelV x u) (k : KindV H x (.type T)) (e : H b = some (.ins C dx fs)) (ho : op = .Eq ∨ op = .NotEq) :
    subIn X.K (.ref C) (.type T) = some false ∧ ∃ id, Slot T (cmpInfo op).2.1 id ∧ ∀ (A : Around) (E' Q' : Value → Shared → Prop), Q' .notImplemented s → wpAny (model X.prog X.w) A (call (.builtin id) [u, .ref b]) Q' E' s := by
  have hT := kind_type I r k
  obtain ⟨mA, J, _⟩ := ins_get I.hok e
  obtain ⟨od, J, _⟩ := J.look
  cases k with
  | non =>
    cases r
    rcases ho with rfl | rfl
    · exact ⟨Fa.sN, _, PySem.F.slot_NoneType_eq, fun A E' Q' q => OwnQ.dec_none _ (op := .Eq) PySem.F.slot_NoneType_eq PySem.F.entry_NoneType_eq (PySem.F.args_NoneType_eq_2 _ _) (.inl rfl) Q' q⟩
    · exact ⟨Fa.sN, _, PySem.F.slot_NoneType_ne, fun A E' Q' q => OwnQ.dec_none _ (op := .NotEq) PySem.F.slot_NoneType_ne PySem.F.entry_NoneType_ne (PySem.F.args_NoneType_ne_2 _ _) (.inr rfl) Q' q⟩
  | int i =>
    obtain ⟨t, rfl⟩ := r
    rcases ho with rfl | rfl
    · exact ⟨Fa.sI, _, PySem.F.slot_int_eq, fun A E' Q' q => OwnQ.dec_int hT (.inl ⟨_, _, rfl⟩) J _ (op := .Eq) PySem.F.slot_int_eq PySem.F.entry_int_eq (PySem.F.args_int_eq_2 _ _) (.inl rfl) Q' q⟩
    · exact ⟨Fa.sI, _, PySem.F.slot_int_ne, fun A E' Q' q => OwnQ.dec_int hT (.inl ⟨_, _, rfl⟩) J _ (op := .NotEq) PySem.F.slot_int_ne PySem.F.entry_int_ne (PySem.F.args_int_ne_2 _ _) (.inr rfl) Q' q⟩
  | bl b =>
    cases r
    rcases ho with rfl | rfl
    · exact ⟨Fa.sB, _, PySem.F.slot_bool_eq, fun A E' Q' q => OwnQ.dec_int hT (.inr ⟨_, rfl⟩) J _ (op := .Eq) PySem.F.slot_bool_eq PySem.F.entry_int_eq (PySem.F.args_int_eq_2 _ _) (.inl rfl) Q' q⟩
    · exact ⟨Fa.sB, _, PySem.F.slot_bool_ne, fun A E' Q' q => OwnQ.dec_int hT (.inr ⟨_, rfl⟩) J _ (op := .NotEq) PySem.F.slot_bool_ne PySem.F.entry_int_ne (PySem.F.args_int_ne_2 _ _) (.inr rfl) Q' q⟩
  | str z =>
    obtain ⟨t, rfl⟩ := r
    rcases ho with rfl | rfl
    · exact ⟨Fa.sS, _, PySem.F.slot_str_eq, fun A E' Q' q => OwnQ.dec_str J _ (op := .Eq) PySem.F.slot_str_eq PySem.F.entry_str_eq (PySem.F.args_str_eq_2 _ _) (.inl rfl) Q' q⟩
    · exact ⟨Fa.sS, _, PySem.F.slot_str_ne, fun A E' Q' q => OwnQ.dec_str J _ (op := .NotEq) PySem.F.slot_str_ne PySem.F.entry_str_ne (PySem.F.args_str_ne_2 _ _) (.inr rfl) Q' q⟩
  | lst e =>
    cases r
    rcases ho with rfl | rfl
    · exact ⟨Fa.sL, _, PySem.F.slot_list_eq, fun A E' Q' q => OwnQ.dec_list I.kIn J Fa.sL hT _ (op := .Eq) PySem.F.slot_list_eq PySem.F.entry_list_eq (PySem.F.args_list_eq_2 _ _) (.inl rfl) Q' q⟩
    · exact ⟨Fa.sL, _, PySem.F.slot_list_ne, fun A E' Q' q => OwnQ.dec_list I.kIn J Fa.sL hT _ (op := .NotEq) PySem.F.slot_list_ne PySem.F.entry_list_ne (PySem.F.args_list_ne_2 _ _) (.inr rfl) Q' q⟩
  | tup e =>
    cases r
    rcases ho with rfl | rfl
    · exact ⟨Fa.sT, _, PySem.F.slot_tuple_eq, fun A E' Q' q => OwnQ.dec_tuple I.kIn J Fa.sT hT _ (op := .Eq) PySem.F.slot_tuple_eq PySem.F.entry_tuple_eq (PySem.F.args_tuple_eq_2 _ _) (.inl rfl) Q' q⟩
    · exact ⟨Fa.sT, _, PySem.F.slot_tuple_ne, fun A E' Q' q => OwnQ.dec_tuple I.kIn J Fa.sT hT _ (op := .NotEq) PySem.F.slot_tuple_ne PySem.F.entry_tuple_ne (PySem.F.args_tuple_ne_2 _ _) (.inr rfl) Q' q⟩
  | dct e =>
    cases r
    rcases ho with rfl | rfl
    · exact ⟨Fa.sD, _, PySem.F.slot_dict_eq, fun A E' Q' q => OwnQ.dec_dict I.kIn J Fa.sD hT _ (op := .Eq) PySem.F.slot_dict_eq PySem.F.entry_dict_eq (PySem.F.args_dict_eq_2 _ _) (.inl rfl) Q' q⟩
    · exact ⟨Fa.sD, _, PySem.F.slot_dict_ne, fun A E' Q' q => OwnQ.dec_dict I.kIn J Fa.sD hT _ (op := .NotEq) PySem.F.slot_dict_ne PySem.F.entry_dict_ne (PySem.F.args_dict_ne_2 _ _) (.inr rfl) Q' q⟩
theorem op_ownEq (F : FnOk X.prog X.w X.K X.mg X.base CX n f fd ps sp) (Fa : OwnQ.Facts X.K C f) (hb : Binds X.K fd ps []) (hx : Passes CX X E) (hr : Room n X.A) : OpR X (compareOp .Eq) (rOwnEq X.K C sp E false) := by
  intro pins s σ H x y v u Q I rx ry h
  have sb : Sub X n X.A := ⟨hr, rfl⟩
  have fin : ∀ z w H' s', Inv X pins σ H' s' → RelV z w → (∃ k, z = .bl k ∧ Q (.bl (k != false)) H') → ∃ v', some w = some v' ∧ EP X pins σ Q v' s' := fun z w H' s' I' rz q => by
    obtain ⟨k, rfl, q⟩ := q
    cases rz
    rw [Bool.bne_false] at q
    exact ⟨_, rfl, .bl k, H', I', rfl, q⟩
  show wpAny (model X.prog X.w) X.A (richCompare .Eq v u) (EP X pins σ Q) X.xe s
  rcases h with ⟨a, dx, fs, t, rfl, ha, hk, hn, q⟩ | ⟨b, dx, fs, T, rfl, hb', hk, q⟩
  · cases rx
    obtain ⟨mA, J, _⟩ := ins_get I.hok ha
    obtain ⟨od, J, _⟩ := J.look
    refine OwnQ.cmp_left (op := .Eq) hr.units0 I.kIn J (kind_looks I ry hk) hn ?_
    unfold tryCompare
    refine wpAny_bind (ifBound_K I.kIn J Fa.eq Fa.fn (run_eqf (x := .ref a) F hb hx sb I rfl ry q fun z w H' s' I' rz q' => ?_))
    obtain ⟨k, rfl, q'⟩ := q'
    cases rz
    exact wpAny_pure (fin (.bl k) _ _ _ I' rfl ⟨k, rfl, q'⟩)
  · cases ry
    obtain ⟨mA, J, _⟩ := ins_get I.hok hb'
    obtain ⟨od, J, _⟩ := J.look
    obtain ⟨hs, id, S, dec⟩ := call_decl (B := Builtin.«object.__ne__») (T := T) (id := "") Fa I rx hk hb' (op := .Eq) (.inl rfl)
    refine OwnQ.cmp_right (op := .Eq) hr.units0 I.kIn J (kind_type I rx hk) hs S (fun Q' q' => dec X.A X.xe Q' q') ?_
    unfold tryCompare
    refine wpAny_bind (ifBound_K I.kIn J Fa.eq Fa.fn (run_eqf (x := .ref b) F hb hx sb I rfl rx q fun z w H' s' I' rz q' => ?_))
    obtain ⟨k, rfl, q'⟩ := q'
    cases rz
    exact wpAny_pure (fin (.bl k) _ _ _ I' rfl ⟨k, rfl, q'⟩)
theorem op_ownNe (F : FnOk X.prog X.w X.K X.mg X.base CX n f fd ps sp) (Fa : OwnQ.Facts X.K C f) (hb : Binds X.K fd ps []) (hx : Passes CX X E) (hr : Room (n + 1) X.A) : OpR X (compareOp .NotEq) (rOwnEq X.K C sp E true) := by
  intro pins s σ H x y v u Q I rx ry h
  have sb : Sub X n X.A.in1 := ⟨hr.in1, rfl⟩
  have hu : X.A.units + 1 < cLine := by
    have := hr.units
    omega
  have fin : ∀ z w H' s', Inv X pins σ H' s' → RelV z w → (∃ k, z = .bl k ∧ Q (.bl (k != true)) H') → ∃ k, w = .bool k ∧ ∃ v', some (Value.bool (!k)) = some v' ∧ EP X pins σ Q v' s' := fun z w H' s' I' rz q => by
    obtain ⟨k, rfl, q⟩ := q
    cases rz
    rw [Bool.bne_true] at q
    exact ⟨k, rfl, _, rfl, .bl (!k), H', I', rfl, q⟩
  show wpAny (model X.prog X.w) X.A (richCompare .NotEq v u) (EP X pins σ Q) X.xe s
  rcases h with ⟨a, dx, fs, t, rfl, ha, hk, hn, q⟩ | ⟨b, dx, fs, T, rfl, hb', hk, q⟩
  · cases rx
    obtain ⟨mA, J, _⟩ := ins_get I.hok ha
    obtain ⟨od, J, _⟩ := J.look
    refine OwnQ.cmp_left (op := .NotEq) hr.units0 I.kIn J (kind_looks I ry hk) hn ?_
    exact OwnQ.try_ne I.kIn J Fa hu (run_eqf (x := .ref a) F hb hx sb I rfl ry q fun z w H' s' I' rz q' => fin z w H' s' I' rz q')
  · cases ry
    obtain ⟨mA, J, _⟩ := ins_get I.hok hb'
    obtain ⟨od, J, _⟩ := J.look
    obtain ⟨hs, id, S, dec⟩ := call_decl (B := Builtin.«object.__ne__») (T := T) (id := "") Fa I rx hk hb' (op := .NotEq) (.inr rfl)
    refine OwnQ.cmp_right (op := .NotEq) hr.units0 I.kIn J (kind_type I rx hk) hs S (fun Q' q' => dec X.A X.xe Q' q') ?_
    exact OwnQ.try_ne I.kIn J Fa hu (run_eqf (x := .ref b) F hb hx sb I rfl rx q fun z w H' s' I' rz q' => fin z w H' s' I' rz q')
end
end L2
end
section
set_option Elab.async false
set_option linter.all false
set_option maxRecDepth 100000
set_option maxHeartbeats 8000000
namespace K2
open PySem PySem.Spec PyProof.Rows L2
abbrev sQInit : Stmt := inClass (top 17) 0
abbrev sQStreets : Stmt := inClass (top 17) 1
abbrev sQGates : Stmt := inClass (top 17) 2
abbrev sQEq : Stmt := inClass (top 17) 3
abbrev sTInit : Stmt := inClass (top 18) 0
abbrev sTStreets : Stmt := inClass (top 18) 1
abbrev sTEq : Stmt := inClass (top 18) 2
abbrev FnM (K : PySem.W.Frag) (x q : Str) (st : Stmt) (f : Addr) (fd : FuncData) : Prop := FunD K x q (defArgs st) (defBody st) (defScope st) [] [] f fd
def kinds : List String := ["NoneType", "int", "bool", "str", "list", "tuple", "dict"]
/-- what is known of a class of the text -/
structure ClsF (K : PySem.W.Frag) (C fI fE : Addr) : Prop where
  cl : Cls K C
  mkr : Mk K C fI
  ow : OwnQ.Facts K C fE
  n1 : NoAttr K C "_streets"
  n2 : NoAttr K C "_gates"
  ha : PySem.W.findIn K (.ref C) "__class__" = some (some (.builtin "object.__class__"))
  hn : PySem.W.specialIn K (.builtin "object.__class__") "__get__" = some (some (.builtin "getset_descriptor.__get__"))
  htk : PySem.W.takesIn K (.builtin "object.__class__") = some true
  hm : PySem.W.mroIn K C (.type "object") = some true
  kC : PySem.W.kitOne K (.ref C) (.ref C) = some true
  kk : ∀ T ∈ kinds, PySem.W.kitOne K (.type T) (.ref C) = some false ∧ PySem.W.notFirst K C (.type T) = true
/-- both classes -/
structure Klz (K : PySem.W.Frag) (mg : Str → Option Value) (CQ CT iQ iT eQ eT sQ sT gQ : Addr) : Prop where
  q : ClsF K CQ iQ eQ
  t : ClsF K CT iT eT
  kQT : PySem.W.kitOne K (.ref CT) (.ref CQ) = some false
  kTQ : PySem.W.kitOne K (.ref CQ) (.ref CT) = some false
  nQT : PySem.W.notFirst K CQ (.ref CT) = true
  nTQ : PySem.W.notFirst K CT (.ref CQ) = true
  mQ : mg "Quarter" = some (.ref CQ)
  mT : mg "Town" = some (.ref CT)
  qs : Meth K CQ "streets" sQ
  qg : Meth K CQ "gates" gQ
  ts : Meth K CT "streets" sT
theorem ClsF.ty {K : PySem.W.Frag} {C fI fE a dx : Addr} {fs : List (Str × V)} {H : Hp} (c : ClsF K C fI fE) (e : H a = some (.ins C dx fs)) : TyX K H (.ref a) (.ref C) := .base (.ins e c.cl c.ha c.hn c.htk c.hm)
theorem kind_ty {K : PySem.W.Frag} {H : Hp} {x : V} {T : String} (k : KindV H x (.type T)) : TyX K H x (.type T) ∧ T ∈ kinds := by
  cases k with
  | non => exact ⟨.base .non, by decide +kernel⟩
  | int i => exact ⟨.base (.int i), by decide +kernel⟩
  | bl i => exact ⟨.base (.bl i), by decide +kernel⟩
  | str i => exact ⟨.base (.str i), by decide +kernel⟩
  | lst e => exact ⟨.base (.lst e), by decide +kernel⟩
  | tup e => exact ⟨.base (.tup e), by decide +kernel⟩
  | dct e => exact ⟨.base (.dK e), by decide +kernel⟩
/-- a quarter at q -/
structure QuP (H : Hp) (C q dx l g : Addr) (ts : List (Addr × S5)) (gs : List Str) : Prop where
  at_ : H q = some (.ins C dx [("_streets", .ref l), ("_gates", .ref g)])
  s : Sts H l ts
  g : Ws H g gs
/-- a town at q -/
structure TwP (H : Hp) (C q dx l : Addr) (ts : List (Addr × S5)) : Prop where
  at_ : H q = some (.ins C dx [("_streets", .ref l)])
  s : Sts H l ts
/-- right streets -/
structure SOk (ss : List S5) : Prop where
  ok : ∀ s ∈ ss, s.Ok
  nd : (nms ss).Nodup
  l : ss.length ≤ 60
/-- right gates -/
structure GOk (gs : List Str) : Prop where
  wd : ∀ x ∈ gs, Wd x
  nd : gs.Nodup
  ne : gs ≠ []
  l : gs.length ≤ 60
abbrev snds (ts : List (Addr × S5)) : List S5 := ts.map fun t => t.2
theorem nms_snds (ts : List (Addr × S5)) : (ts.map fun t => t.2.nm) = nms (snds ts) := by
  show _ = (ts.map fun t => t.2).map S5.nm
  rw [List.map_map]
  rfl
def nameAt (H : Hp) : V → Str
  | .ref a => match H a with
    | some (.tup (.str z :: _)) => z
    | _ => ""
  | _ => ""
theorem nameAt_sts {H : Hp} {l : Addr} {ts : List (Addr × S5)} (h : Sts H l ts) : ∀ t ∈ ts, nameAt H (.ref t.1) = t.2.nm := fun t ht => by
  have e := h.2 t ht
  unfold nameAt
  simp only [e, S5.vals]
theorem Sts.keep {H H' : Hp} {l : Addr} {ts : List (Addr × S5)} (h : Sts H l ts) (s : Same H H') : Sts H' l ts := ⟨s _ _ h.1, fun t ht => s _ _ (h.2 t ht)⟩
theorem QuP.keep {H H' : Hp} {C q dx l g : Addr} {ts : List (Addr × S5)} {gs : List Str} (h : QuP H C q dx l g ts gs) (s : Same H H') : QuP H' C q dx l g ts gs := ⟨s _ _ h.at_, h.s.keep s, s _ _ h.g⟩
theorem TwP.keep {H H' : Hp} {C q dx l : Addr} {ts : List (Addr × S5)} (h : TwP H C q dx l ts) (s : Same H H') : TwP H' C q dx l ts := ⟨s _ _ h.at_, h.s.keep s⟩
section
variable {P : Program} {w : World} {K : PySem.W.Frag} {mg : Str → Option Value} {base : Heap}
/-! ### check_gates, of right ones -/
def spChkGates : Sp := fun vs H Q _ => ∃ (l : Addr) (gs : List Str), vs = [.ref l] ∧ Ws H l gs ∧ GOk gs ∧ ∀ H', Same H H' → Q .non H'
abbrev NCG : List Str := ["value", "gate"]
/-- are_gates -/
def spAreGates : Sp := fun vs H Q _ => ∃ (l : Addr) (gs : List Str), vs = [.ref l] ∧ Ws H l gs ∧ GOk gs ∧ ∀ H', Same H H' → Q (.bl true) H'
theorem scAreGates : FnScope NCG ["value"] (defScope sAreGates) := ⟨rfl, rfl, rfl, by decide +kernel, rfl, by decide +kernel, by decide +kernel⟩
theorem ok_areGates {f : Addr} {fd : FuncData} (F : FnP K "are_gates" sAreGates f fd) (GW : Fz P w K mg base "is_word" 1 ["value"] spIsWord) (T : Tx K mg) : FnOk P w K mg base CX0 2 f fd ["value"] spAreGates := by
  refine F.ok scAreGates (fun vs H Q E h => ?_) (fun cdv A outer s H vs Q E hr h => ?_)
  · obtain ⟨_, _, rfl, _⟩ := h
    rfl
  · obtain ⟨l, gs, rfl, hl, ok, q⟩ := h
    have gIs := T.fr "isinstance" (by decide +kernel)
    have gLi := T.fr "list" (by decide +kernel)
    have gL := T.fr "len" (by decide +kernel)
    have gA := T.fr "all" (by decide +kernel)
    have gS := T.fr "set" (by decide +kernel)
    have sl := sizeLine_eq
    have h60 := ok.l
    refine ⟨_, PSs.nox (pss_cons (ps_if (PW.pt (pw_or (pt_not (pt_val (pe_callB call_isi (by rfl) gIs (by decide +kernel) (pa_cons (pv 0) (pa_cons (pe_bltn (v := .ty "list") (by rfl) gLi (by decide +kernel) rfl) pa_nil)))))
        (pw_or1 (pt_not (pt_val (pe_callB (cr_all rfl) (by rfl) gA (by decide +kernel) (pa_cons (pe_lc (own := [("gate", 1)]) (g := gName 1) (tt := tYes) rfl scAreGates.nd (pi_list (pv 0)) (blkOk_by (own := [("gate", 1)]) (N := NCG) (sc := defScope sAreGates) (by decide +kernel))
          (fun _ _ _ _ _ => pg_name (i := 1) scAreGates.nd rfl (Or.inl rfl)) (fun _ _ _ _ _ => pts_nil) (fun _ _ _ _ _ => pe_fz GW hr (by rfl) (pa_cons (pv 1) pa_nil))) pa_nil))))))) (pss_one (ps_ret pe_bl)) pss_nil)
      (pss_one (ps_ret (pe_chain op_lt op_eq pe_int (pe_callB call_len_seq (by rfl) gL PySem.boot_len (pa_cons (pv 0) pa_nil)) (pe_callB cr_lenX (by rfl) gL PySem.boot_len (pa_cons (pe_callTy (cr_setX rfl) (by rfl) gS (by decide +kernel) (pa_cons (pv 0) pa_nil)) pa_nil)))))), ?_⟩
    refine ⟨_, rfl, _, _, _, _, _, rfl, .ty _, .base (.lst hl), ktr (by decide +kernel), _, rfl, ifF (by decide) ?_⟩
    refine ⟨_, rfl, l, rfl, ⟨_, SqL.of hl⟩, fun D nD => ?_⟩
    refine lc_list (K := K) (a := l) (xs := gs.map V.str) (fun j H' => Same H H' ∧ H' D = some (.lst ((List.replicate j true).map V.bl))) ⟨same_upd nD, upd_same⟩ (fun j H' _ h => SqL.of (h.1 _ _ hl)) ?_ ?_
    · rintro j x H' hj ⟨s1, hD⟩
      rw [List.getElem?_map] at hj
      cases e : gs[j]? with
      | none =>
        rw [e] at hj
        cases hj
      | some t =>
        rw [e] at hj
        cases hj
        have tm := List.mem_of_getElem? e
        have lt := (List.getElem?_eq_some_iff.mp e).1
        refine ⟨rfl, _, rfl, t, rfl, ok.wd t tm, fun H2 s2 => ⟨_, s2 _ _ hD, by rw [List.length_map, List.length_replicate]; omega, fun b o eb => ?_, ?_⟩⟩
        · rw [upd_ne (ne_of_none eb nD)]
          exact s2 _ _ (s1 _ _ eb)
        · rw [upd_same, List.replicate_succ', List.map_append]
          rfl
    · rintro H1 ⟨s1, hD⟩
      refine ⟨D, List.replicate _ true, rfl, SqL.of hD, ?_⟩
      have e : (List.replicate (gs.map V.str).length true).all id = true := by simp
      rw [e]
      have hl1 := s1 _ _ hl
      have fl := TxSet.fold_fresh (ks := gs) (L := []) (by rw [List.append_nil]; exact ok.nd)
      have ne : 0 < gs.length := List.length_pos_iff.mpr ok.ne
      refine ⟨_, rfl, ifF (by decide) ?_⟩
      refine ⟨_, rfl, l, _, rfl, Or.inl (SqL.of hl1), _, _, rfl, rfl, _, rfl, ifT (decide_eq_true (by rw [List.length_map]; omega)) ?_⟩
      refine ⟨_, rfl, l, gs, rfl, SqL.of hl1, by unfold scanBound; omega, fun S nS => ?_⟩
      refine ⟨S, _, rfl, upd_same, by rw [fl]; unfold scanBound; simp only [List.length_nil]; omega, rfl, ?_⟩
      have e3 : decide (V.int ((gs.map V.str).length : Nat) = V.int (((gs.foldl TxSet.addL []).length : Nat) : Int)) = true := by
        rw [fl, List.length_map]
        simp
      show Q (.bl (decide (V.int _ = V.int _))) _
      rw [e3]
      exact q _ (same_trans s1 (same_upd nS))
theorem scChkGates : FnScope ["value"] ["value"] (defScope sChkGates) := ⟨rfl, rfl, rfl, by decide +kernel, rfl, by decide +kernel, by decide +kernel⟩
theorem ok_chkGates {f : Addr} {fd : FuncData} (F : FnP K "check_gates" sChkGates f fd) (GA : Fz P w K mg base "are_gates" 2 ["value"] spAreGates) (T : Tx K mg) : FnOk P w K mg base CX0 3 f fd ["value"] spChkGates := by
  refine F.ok scChkGates (fun vs H Q E h => ?_) (fun cdv A outer s H vs Q E hr h => ?_)
  · obtain ⟨_, _, rfl, _⟩ := h
    rfl
  · obtain ⟨l, gs, rfl, hl, ok, q⟩ := h
    refine ⟨_, PSs.nox (pss_one (ps_if (pt_not (pt_val (pe_fz GA hr (by rfl) (pa_cons (pv 0) pa_nil)))) (pss_one ps_never) pss_nil)), ?_⟩
    exact ⟨_, rfl, l, gs, rfl, hl, ok, fun H' s => ⟨_, rfl, ifF (by decide) (q H' s)⟩⟩
/-! ### Quarter and Town -/
def spInitQ (C : Addr) : Sp := fun vs H Q _ => ∃ (x dx l g : Addr) (ts : List (Addr × S5)) (gs : List Str), vs = [.ref x, .ref l, .ref g] ∧ H x = some (.ins C dx []) ∧ Sts H l ts ∧ SOk (snds ts) ∧ Ws H g gs ∧ GOk gs ∧
  ∀ H' l' g' ts' gs', But x H H' → H l' = none → H g' = none → QuP H' C x dx l' g' ts' gs' → ts'.Perm ts → Asc5 (snds ts') → gs'.Perm gs → Asc gs' → Q .non H'
def spInitT (C : Addr) : Sp := fun vs H Q _ => ∃ (x dx l : Addr) (ts : List (Addr × S5)), vs = [.ref x, .ref l] ∧ H x = some (.ins C dx []) ∧ Sts H l ts ∧ SOk (snds ts) ∧
  ∀ H' l' ts', But x H H' → H l' = none → TwP H' C x dx l' ts' → ts'.Perm ts → Asc5 (snds ts') → Q .non H'
theorem scQInit : FnScope ["self", "streets", "gates"] ["self", "streets", "gates"] (defScope sQInit) := ⟨rfl, rfl, rfl, by decide +kernel, rfl, by decide +kernel, by decide +kernel⟩
theorem scTInit : FnScope ["self", "streets"] ["self", "streets"] (defScope sTInit) := ⟨rfl, rfl, rfl, by decide +kernel, rfl, by decide +kernel, by decide +kernel⟩
/-- what sorted(streets) asks and tells -/
theorem sort_a {H : Hp} {l : Addr} {ts : List (Addr × S5)} (h : Sts H l ts) : ∀ x ∈ ts.map (fun t => V.ref t.1), ∃ t r, x = V.ref t ∧ SqT K H t (V.str (nameAt H x) :: r) := fun x hx => by
  have nm := nameAt_sts h
  obtain ⟨t, ht, rfl⟩ := List.mem_map.mp hx
  refine ⟨t.1, [.str t.2.st, .str t.2.en, .int t.2.wd, .int t.2.ln], rfl, ?_⟩
  rw [nm t ht]
  exact SqT.of (h.2 t ht)
theorem sort_b {H : Hp} {l : Addr} {ts : List (Addr × S5)} (h : Sts H l ts) (nd : (nms (snds ts)).Nodup) : ∀ x ∈ ts.map (fun t => V.ref t.1), ∀ y ∈ ts.map (fun t => V.ref t.1), nameAt H x = nameAt H y → x = y := fun x hx y hy e => by
  have nm := nameAt_sts h
  obtain ⟨t, ht, rfl⟩ := List.mem_map.mp hx
  obtain ⟨u, hu, rfl⟩ := List.mem_map.mp hy
  rw [nm t ht, nm u hu] at e
  rw [← nms_snds] at nd
  rw [nodup_inj nd t ht u hu e]
theorem sort_c {H : Hp} {l : Addr} {ts : List (Addr × S5)} {ys : List V} (h : Sts H l ts) (pm : ys.Perm (ts.map fun t => V.ref t.1)) (pw : ys.Pairwise fun x y => SrtX.ltS (nameAt H y) (nameAt H x) = false) : ∃ ts' : List (Addr × S5), ts'.Perm ts ∧ Asc5 (snds ts') ∧ ys = ts'.map fun t => V.ref t.1 := by
  have nm := nameAt_sts h
  obtain ⟨ts', pt, rfl⟩ := perm_map_inv pm ts rfl
  refine ⟨ts', pt, ?_, rfl⟩
  rw [List.pairwise_map] at pw
  show ((ts'.map fun t => t.2).Pairwise fun a b => leS a.nm b.nm)
  rw [List.pairwise_map]
  refine List.Pairwise.imp_of_mem (fun {a b} ha hb hab => ?_) pw
  rw [nm a (pt.mem_iff.mp ha), nm b (pt.mem_iff.mp hb)] at hab
  exact hab
theorem ok_qInit {C iQ eQ : Addr} {f : Addr} {fd : FuncData} (F : FnM K "__init__" "Quarter.__init__" sQInit f fd) (c : ClsF K C iQ eQ) (GS : Fz P w K mg base "check_streets" 5 ["value"] (spChkStreets K)) (GG : Fz P w K mg base "check_gates" 3 ["value"] spChkGates) (T : Tx K mg) :
    FnOk P w K mg base CX0 6 f fd ["self", "streets", "gates"] (spInitQ C) := by
  refine F.ok scQInit (fun vs H Q E h => ?_) (fun cdv A outer s H vs Q E hr h => ?_)
  · obtain ⟨_, _, _, _, _, _, rfl, _⟩ := h
    rfl
  · obtain ⟨x, dx, l, g, ts, gs, rfl, hx, hl, so, hg, go, q⟩ := h
    have gSo := T.fr "sorted" (by decide +kernel)
    have h60 := go.l
    have s60 := so.l
    refine ⟨_, PSs.nox (pss_cons (ps_expr (pe_fz GS hr (by rfl) (pa_cons (pv 1) pa_nil))) (pss_cons (ps_expr (pe_fz GG (hr.mono (by decide)) (by rfl) (pa_cons (pv 2) pa_nil)))
      (pss_cons (ps_fld (pv 0) (pe_callB cr_sortedTx (by rfl) gSo (by decide +kernel) (pa_cons (pv 1) pa_nil)) rfl) (pss_one (ps_fld (pv 0) (pe_callB cr_sortedS (by rfl) gSo (by decide +kernel) (pa_cons (pv 2) pa_nil)) rfl))))), ?_⟩
    refine ⟨_, rfl, l, ts, rfl, hl, fun t ht => so.ok _ (List.mem_map.mpr ⟨t, ht, rfl⟩), by rw [nms_snds]; exact so.nd, by rw [List.length_map] at s60; omega, fun H1 s1 => ?_⟩
    refine ⟨_, rfl, g, gs, rfl, s1 _ _ hg, go, fun H2 s2 => ?_⟩
    have s02 := same_trans s1 s2
    have hl2 := hl.keep s02
    refine ⟨_, rfl, l, _, nameAt H2, rfl, SqL.of hl2.1, sort_a hl2, sort_b hl2 so.nd, fun ys l' pm pw nl' => ?_⟩
    obtain ⟨ts', pt, as, rfl⟩ := sort_c hl2 pm pw
    have s3 := same_upd (o := .lst (ts'.map fun t => V.ref t.1)) nl'
    refine ⟨_, rfl, x, C, dx, _, rfl, s3 _ _ (s02 _ _ hx), c.cl, c.n1, by decide, ?_⟩
    have hl3 : upd H2 l' (.lst (ts'.map fun t => V.ref t.1)) l' = some (.lst (ts'.map fun t => V.ref t.1)) := upd_same
    have hx2 := s02 _ _ hx
    have s03 := same_trans s02 s3
    have nlx : l' ≠ x := fun e => by rw [e, hx2] at nl'; cases nl'
    have nl0 := s02.free nl'
    have hts : ∀ t ∈ ts', H t.1 = some (.tup t.2.vals) := fun t ht => hl.2 t (pt.mem_iff.mp ht)
    generalize upd H2 l' (.lst (ts'.map fun t => V.ref t.1)) = H3 at hl3 s03 ⊢
    have hg3 := s03 _ _ hg
    have ngx : g ≠ x := fun e => by rw [e] at hg; rw [hg] at hx; cases hx
    have b4 : But x H (upd H3 x (.ins C dx (putF "_streets" (.ref l') []))) := fun b o nb e => by
      rw [upd_ne nb]
      exact s03 _ _ e
    have hx4 : upd H3 x (.ins C dx (putF "_streets" (.ref l') [])) x = some (.ins C dx [("_streets", .ref l')]) := upd_same
    have hl4 : upd H3 x (.ins C dx (putF "_streets" (.ref l') [])) l' = some (.lst (ts'.map fun t => V.ref t.1)) := by
      rw [upd_ne nlx]
      exact hl3
    have hg4 := b4 _ _ ngx hg
    generalize upd H3 x (.ins C dx (putF "_streets" (.ref l') [])) = H4 at b4 hx4 hl4 hg4 ⊢
    refine ⟨_, rfl, g, gs, rfl, SqL.of hg4, by omega, fun gs' g' pg sg ng' => ?_⟩
    have s5 := same_upd (o := .lst (gs'.map V.str)) ng'
    refine ⟨_, rfl, x, C, dx, _, rfl, s5 _ _ hx4, c.cl, c.n2, (by show 1 < 1000; omega), ?_⟩
    have ngx' : g' ≠ x := fun e => by rw [e, hx4] at ng'; cases ng'
    have ng0 : H g' = none := b4.free ng' ngx'
    have b5 := b4.trans (Same.but (p := x) s5)
    have hg5 : upd H4 g' (.lst (gs'.map V.str)) g' = some (.lst (gs'.map V.str)) := upd_same
    have hl5 := s5 _ _ hl4
    generalize upd H4 g' (.lst (gs'.map V.str)) = H5 at b5 hg5 hl5 ⊢
    have b6 := b5.trans (but_self (p := x) (H := H5) (o := .ins C dx (putF "_gates" (.ref g') [("_streets", .ref l')])))
    refine q _ l' g' ts' gs' b6 nl0 ng0 ⟨?_, ⟨?_, fun t ht => b6 _ _ (fun e => ?_) (hts t ht)⟩, ?_⟩ pt as pg (asc_of_sortedS sg)
    · rw [upd_same]
      rfl
    · rw [upd_ne nlx]
      exact hl5
    · have h1 := hts t ht
      rw [e, hx] at h1
      cases h1
    · show upd _ _ _ g' = _
      rw [upd_ne ngx']
      exact hg5
end
end K2
end
section
set_option Elab.async false
set_option linter.all false
set_option maxRecDepth 100000
set_option maxHeartbeats 8000000
namespace K2
open PySem PySem.Spec PyProof.Rows L2
section
variable {P : Program} {w : World} {K : PySem.W.Frag} {mg : Str → Option Value} {base : Heap}
theorem ok_tInit {C iQ eQ : Addr} {f : Addr} {fd : FuncData} (F : FnM K "__init__" "Town.__init__" sTInit f fd) (c : ClsF K C iQ eQ) (GS : Fz P w K mg base "check_streets" 5 ["value"] (spChkStreets K)) (T : Tx K mg) :
    FnOk P w K mg base CX0 6 f fd ["self", "streets"] (spInitT C) := by
  refine F.ok scTInit (fun vs H Q E h => ?_) (fun cdv A outer s H vs Q E hr h => ?_)
  · obtain ⟨_, _, _, _, rfl, _⟩ := h
    rfl
  · obtain ⟨x, dx, l, ts, rfl, hx, hl, so, q⟩ := h
    have gSo := T.fr "sorted" (by decide +kernel)
    have s60 := so.l
    refine ⟨_, PSs.nox (pss_cons (ps_expr (pe_fz GS hr (by rfl) (pa_cons (pv 1) pa_nil))) (pss_one (ps_fld (pv 0) (pe_callB cr_sortedTx (by rfl) gSo (by decide +kernel) (pa_cons (pv 1) pa_nil)) rfl))), ?_⟩
    refine ⟨_, rfl, l, ts, rfl, hl, fun t ht => so.ok _ (List.mem_map.mpr ⟨t, ht, rfl⟩), by rw [nms_snds]; exact so.nd, by rw [List.length_map] at s60; omega, fun H1 s1 => ?_⟩
    have hl2 := hl.keep s1
    refine ⟨_, rfl, l, _, nameAt H1, rfl, SqL.of hl2.1, sort_a hl2, sort_b hl2 so.nd, fun ys l' pm pw nl' => ?_⟩
    obtain ⟨ts', pt, as, rfl⟩ := sort_c hl2 pm pw
    have s3 := same_upd (o := .lst (ts'.map fun t => V.ref t.1)) nl'
    refine ⟨_, rfl, x, C, dx, _, rfl, s3 _ _ (s1 _ _ hx), c.cl, c.n1, by decide, ?_⟩
    have hl3 : upd H1 l' (.lst (ts'.map fun t => V.ref t.1)) l' = some (.lst (ts'.map fun t => V.ref t.1)) := upd_same
    have hx2 := s1 _ _ hx
    have s03 := same_trans s1 s3
    have nlx : l' ≠ x := fun e => by rw [e, hx2] at nl'; cases nl'
    have nl0 := s1.free nl'
    have hts : ∀ t ∈ ts', H t.1 = some (.tup t.2.vals) := fun t ht => hl.2 t (pt.mem_iff.mp ht)
    generalize upd H1 l' (.lst (ts'.map fun t => V.ref t.1)) = H3 at hl3 s03 ⊢
    have b4 : But x H (upd H3 x (.ins C dx (putF "_streets" (.ref l') []))) := fun b o nb e => by
      rw [upd_ne nb]
      exact s03 _ _ e
    refine q _ l' ts' b4 nl0 ⟨?_, ⟨?_, fun t ht => b4 _ _ (fun e => ?_) (hts t ht)⟩⟩ pt as
    · rw [upd_same]
      rfl
    · rw [upd_ne nlx]
      exact hl3
    · have h1 := hts t ht
      rw [e, hx] at h1
      cases h1
/-! ### streets(), gates() -/
/-- the list of the field comes back as a new one -/
def spFld (C : Addr) (fl : Str) : Sp := fun vs H Q _ => ∃ (x dx l : Addr) (fs : List (Str × V)) (xs : List V), vs = [.ref x] ∧ H x = some (.ins C dx fs) ∧ fs.lookup fl = some (.ref l) ∧ H l = some (.lst xs) ∧ ∀ D, H D = none → Q (.ref D) (upd H D (.lst xs))
theorem scQS : FnScope ["self"] ["self"] (defScope sQStreets) := ⟨rfl, rfl, rfl, by decide +kernel, rfl, by decide +kernel, by decide +kernel⟩
theorem scQG : FnScope ["self"] ["self"] (defScope sQGates) := ⟨rfl, rfl, rfl, by decide +kernel, rfl, by decide +kernel, by decide +kernel⟩
theorem scTS : FnScope ["self"] ["self"] (defScope sTStreets) := ⟨rfl, rfl, rfl, by decide +kernel, rfl, by decide +kernel, by decide +kernel⟩
theorem ok_qStreets {C iQ eQ : Addr} {f : Addr} {fd : FuncData} (F : FnM K "streets" "Quarter.streets" sQStreets f fd) (c : ClsF K C iQ eQ) (T : Tx K mg) : FnOk P w K mg base CX0 1 f fd ["self"] (spFld C "_streets") := by
  refine F.ok scQS (fun vs H Q E h => ?_) (fun cdv A outer s H vs Q E hr h => ?_)
  · obtain ⟨_, _, _, _, _, rfl, _⟩ := h
    rfl
  · obtain ⟨x, dx, l, fs, xs, rfl, hx, hf, hl, q⟩ := h
    have gLi := T.fr "list" (by decide +kernel)
    refine ⟨_, PSs.nox (pss_one (ps_ret (pe_callTy call_list_of (by rfl) gLi (by decide +kernel) (pa_cons (pe_fld (pv 0) rfl) pa_nil)))), ?_⟩
    exact ⟨_, rfl, x, C, dx, fs, _, rfl, hx, c.cl, c.n1, hf, l, _, rfl, Or.inl (SqL.of hl), fun D nD => q D nD⟩
theorem ok_qGates {C iQ eQ : Addr} {f : Addr} {fd : FuncData} (F : FnM K "gates" "Quarter.gates" sQGates f fd) (c : ClsF K C iQ eQ) (T : Tx K mg) : FnOk P w K mg base CX0 1 f fd ["self"] (spFld C "_gates") := by
  refine F.ok scQG (fun vs H Q E h => ?_) (fun cdv A outer s H vs Q E hr h => ?_)
  · obtain ⟨_, _, _, _, _, rfl, _⟩ := h
    rfl
  · obtain ⟨x, dx, l, fs, xs, rfl, hx, hf, hl, q⟩ := h
    have gLi := T.fr "list" (by decide +kernel)
    refine ⟨_, PSs.nox (pss_one (ps_ret (pe_callTy call_list_of (by rfl) gLi (by decide +kernel) (pa_cons (pe_fld (pv 0) rfl) pa_nil)))), ?_⟩
    exact ⟨_, rfl, x, C, dx, fs, _, rfl, hx, c.cl, c.n2, hf, l, _, rfl, Or.inl (SqL.of hl), fun D nD => q D nD⟩
theorem ok_tStreets {C iQ eQ : Addr} {f : Addr} {fd : FuncData} (F : FnM K "streets" "Town.streets" sTStreets f fd) (c : ClsF K C iQ eQ) (T : Tx K mg) : FnOk P w K mg base CX0 1 f fd ["self"] (spFld C "_streets") := by
  refine F.ok scTS (fun vs H Q E h => ?_) (fun cdv A outer s H vs Q E hr h => ?_)
  · obtain ⟨_, _, _, _, _, rfl, _⟩ := h
    rfl
  · obtain ⟨x, dx, l, fs, xs, rfl, hx, hf, hl, q⟩ := h
    have gLi := T.fr "list" (by decide +kernel)
    refine ⟨_, PSs.nox (pss_one (ps_ret (pe_callTy call_list_of (by rfl) gLi (by decide +kernel) (pa_cons (pe_fld (pv 0) rfl) pa_nil)))), ?_⟩
    exact ⟨_, rfl, x, C, dx, fs, _, rfl, hx, c.cl, c.n1, hf, l, _, rfl, Or.inl (SqL.of hl), fun D nD => q D nD⟩
/-! ### == -/
/-- of two quarters, of a quarter and something else -/
def spEqQ (CQ CT : Addr) : Sp := fun vs H Q _ => ∃ (a : Addr) (y : V) (dx l g : Addr) (ts : List (Addr × S5)) (gs : List Str), vs = [.ref a, y] ∧ QuP H CQ a dx l g ts gs ∧ SOk (snds ts) ∧ GOk gs ∧
  ((∃ b dx' l' g' ts' gs', y = .ref b ∧ QuP H CQ b dx' l' g' ts' gs' ∧ SOk (snds ts') ∧ GOk gs' ∧ Q (.bl (decide (snds ts = snds ts' ∧ gs = gs'))) H) ∨
   (∃ T, KindV H y (.type T) ∧ Q (.bl false) H) ∨ ∃ b dx' fs, y = .ref b ∧ H b = some (.ins CT dx' fs) ∧ Q (.bl false) H)
def spEqT (CQ CT : Addr) : Sp := fun vs H Q _ => ∃ (a : Addr) (y : V) (dx l : Addr) (ts : List (Addr × S5)), vs = [.ref a, y] ∧ TwP H CT a dx l ts ∧ SOk (snds ts) ∧
  ((∃ b dx' l' ts', y = .ref b ∧ TwP H CT b dx' l' ts' ∧ SOk (snds ts') ∧ Q (.bl (decide (snds ts = snds ts'))) H) ∨
   (∃ T, KindV H y (.type T) ∧ Q (.bl false) H) ∨ ∃ b dx' fs, y = .ref b ∧ H b = some (.ins CQ dx' fs) ∧ Q (.bl false) H)
theorem scQEq : FnScope ["self", "other"] ["self", "other"] (defScope sQEq) := ⟨rfl, rfl, rfl, by decide +kernel, rfl, by decide +kernel, by decide +kernel⟩
theorem scTEq : FnScope ["self", "other"] ["self", "other"] (defScope sTEq) := ⟨rfl, rfl, rfl, by decide +kernel, rfl, by decide +kernel, by decide +kernel⟩
theorem dp_of {H : Hp} {l : Addr} {ts : List (Addr × S5)} (h : Sts H l ts) : Dp K H (.ref l) (.list ((snds ts).map S5.data)) := by
  refine .lst (SqL.of h.1) ?_
  have := dp_sts (K := K) h.2
  show DpAll K H _ ((ts.map fun t => t.2).map S5.data)
  rw [List.map_map]
  exact this
theorem dp_ws {H : Hp} {l : Addr} {gs : List Str} (h : Ws H l gs) : Dp K H (.ref l) (.list (gs.map PyData.str)) := .lst (SqL.of h) (dp_strs gs)
theorem ok_qEq {CQ CT iQ iT eQ eT sQ sT gQ : Addr} {f : Addr} {fd : FuncData} (F : FnM K "__eq__" "Quarter.__eq__" sQEq f fd) (Z : Klz K mg CQ CT iQ iT eQ eT sQ sT gQ) (T : Tx K mg) : FnOk P w K mg base CX0 1 f fd ["self", "other"] (spEqQ CQ CT) := by
  refine F.ok scQEq (fun vs H Q E h => ?_) (fun cdv A outer s H vs Q E hr h => ?_)
  · obtain ⟨_, _, _, _, _, _, _, rfl, _⟩ := h
    rfl
  · obtain ⟨a, y, dx, l, g, ts, gs, rfl, ha, so, go, h⟩ := h
    have gIs := T.fr "isinstance" (by decide +kernel)
    refine ⟨_, PSs.nox (pss_one (ps_ret (pe_and (pe_callB call_isi (by rfl) gIs (by decide +kernel) (pa_cons (pv 1) (pa_cons (C8.pe_gc (v := .ref CQ) (by rfl) ⟨_, Z.mQ, rfl⟩) pa_nil)))
      (pe_and (pe_cmpR (op_eqD hr.units) (pe_fld (pv 0) rfl) (pe_fld (pv 1) rfl) (nomark _)) (pe_one (pe_cmpR (op_eqD hr.units) (pe_fld (pv 0) rfl) (pe_fld (pv 1) rfl) (nomark _))))))), ?_⟩
    rcases h with ⟨b, dx', l', g', ts', gs', rfl, hb, so', go', q⟩ | ⟨T', k, q⟩ | ⟨b, dx', fs, rfl, hb, q⟩
    · refine ⟨_, rfl, _, _, _, _, _, rfl, .own _, Z.q.ty hb.at_, Z.q.kC, _, rfl, ifT rfl ?_⟩
      refine ⟨_, rfl, a, CQ, dx, _, _, rfl, ha.at_, Z.q.cl, Z.q.n1, rfl, _, rfl, b, CQ, dx', _, _, rfl, hb.at_, Z.q.cl, Z.q.n1, rfl, _, _, dp_of ha.s, dp_of hb.s, sts_shaped so.ok, sts_shaped so'.ok, ?_⟩
      rw [eqv_sts]
      refine ⟨_, rfl, ite2 (fun e => ?_) (fun e => ?_)⟩
      · have e1 := of_decide_eq_true e
        refine ⟨_, rfl, a, CQ, dx, _, _, rfl, ha.at_, Z.q.cl, Z.q.n2, rfl, _, rfl, b, CQ, dx', _, _, rfl, hb.at_, Z.q.cl, Z.q.n2, rfl, _, _, dp_ws ha.g, dp_ws hb.g, strs_shaped go.wd, strs_shaped go'.wd, ?_⟩
        rw [eqv_strs]
        have e2 : decide (gs = gs') = decide (snds ts = snds ts' ∧ gs = gs') := by
          congr 1
          exact propext ⟨fun z => ⟨e1, z⟩, fun z => z.2⟩
        rw [e2]
        exact q
      · have e1 : ¬ (snds ts = snds ts') := fun z => e (decide_eq_true z)
        rw [decide_eq_false (fun z => e1 z.1)] at q
        exact q
    · exact ⟨_, rfl, _, _, _, _, _, rfl, .own _, (kind_ty (K := K) k).1, (Z.q.kk _ (kind_ty (K := K) k).2).1, _, rfl, ifF (by decide) q⟩
    · exact ⟨_, rfl, _, _, _, _, _, rfl, .own _, Z.t.ty hb, Z.kQT, _, rfl, ifF (by decide) q⟩
theorem ok_tEq {CQ CT iQ iT eQ eT sQ sT gQ : Addr} {f : Addr} {fd : FuncData} (F : FnM K "__eq__" "Town.__eq__" sTEq f fd) (Z : Klz K mg CQ CT iQ iT eQ eT sQ sT gQ) (T : Tx K mg) : FnOk P w K mg base CX0 1 f fd ["self", "other"] (spEqT CQ CT) := by
  refine F.ok scTEq (fun vs H Q E h => ?_) (fun cdv A outer s H vs Q E hr h => ?_)
  · obtain ⟨_, _, _, _, _, rfl, _⟩ := h
    rfl
  · obtain ⟨a, y, dx, l, ts, rfl, ha, so, h⟩ := h
    have gIs := T.fr "isinstance" (by decide +kernel)
    refine ⟨_, PSs.nox (pss_one (ps_ret (pe_and (pe_callB call_isi (by rfl) gIs (by decide +kernel) (pa_cons (pv 1) (pa_cons (C8.pe_gc (v := .ref CT) (by rfl) ⟨_, Z.mT, rfl⟩) pa_nil)))
      (pe_one (pe_cmpR (op_eqD hr.units) (pe_fld (pv 0) rfl) (pe_fld (pv 1) rfl) (nomark _)))))), ?_⟩
    rcases h with ⟨b, dx', l', ts', rfl, hb, so', q⟩ | ⟨T', k, q⟩ | ⟨b, dx', fs, rfl, hb, q⟩
    · refine ⟨_, rfl, _, _, _, _, _, rfl, .own _, Z.t.ty hb.at_, Z.t.kC, _, rfl, ifT rfl ?_⟩
      refine ⟨_, rfl, a, CT, dx, _, _, rfl, ha.at_, Z.t.cl, Z.t.n1, rfl, _, rfl, b, CT, dx', _, _, rfl, hb.at_, Z.t.cl, Z.t.n1, rfl, _, _, dp_of ha.s, dp_of hb.s, sts_shaped so.ok, sts_shaped so'.ok, ?_⟩
      rw [eqv_sts]
      exact q
    · exact ⟨_, rfl, _, _, _, _, _, rfl, .own _, (kind_ty (K := K) k).1, (Z.t.kk _ (kind_ty (K := K) k).2).1, _, rfl, ifF (by decide) q⟩
    · exact ⟨_, rfl, _, _, _, _, _, rfl, .own _, Z.q.ty hb, Z.kTQ, _, rfl, ifF (by decide) q⟩
end
end K2
end
section
set_option Elab.async false
set_option linter.all false
set_option maxRecDepth 100000
set_option maxHeartbeats 8000000
namespace K2
open PySem PySem.Spec PyProof.Rows L2
/-- a method of the class as it is called -/
def Mz (P : Program) (w : World) (K : PySem.W.Frag) (mg : Str → Option Value) (base : Heap) (C : Addr) (m : Str) (k : Nat) (sp : Sp) : Prop :=
  Cls K C ∧ ∃ (g : Addr) (fd : FuncData), Meth K C m g ∧ FnOk P w K mg base CX0 k g fd ["self"] sp ∧ Binds K fd ["self"] []
section
variable {X : Cx} {m : Str} {k : Nat} {C : Addr} {sp : Sp} {pos apos : Pos} {o : Expr} {ta : TE}
theorem pe_mz {pl : Sem Bool} (Z : Mz X.prog X.w X.K X.mg X.base C m k sp) (he : PE X o ta) (hr : Room k X.A)
    (ht : eval (.Call (.Attribute o m apos) [] [] pos) X.env = (do
      let ov ← eval o X.env
      standAt apos.atName
      let (f, first) ← holding [ov] (getMethod ov m pl)
      callWith pos f first (backTo pos (starEach [] X.env)) (backToKw pos (keywordEach [] X.env))) := by rfl) :
    PE X (.Call (.Attribute o m apos) [] [] pos) (tMeth C m sp [] E0 ta tNil) := by
  obtain ⟨c, g, fd, M, F, b⟩ := Z
  exact pe_meth0 he c M F hr b .nil pass0 ht
end
theorem addL_nodup {L : List Str} {k : Str} (h : L.Nodup) : (TxSet.addL L k).Nodup := by
  unfold TxSet.addL
  split
  · exact h
  · rename_i e
    exact List.nodup_cons.mpr ⟨e, h⟩
theorem fold_nodup : ∀ {ks L : List Str}, L.Nodup → (ks.foldl TxSet.addL L).Nodup
  | [], _, h => h
  | k :: ks, L, h => fold_nodup (ks := ks) (addL_nodup h)
theorem fold_len : ∀ {ks L : List Str}, (ks.foldl TxSet.addL L).length ≤ ks.length + L.length
  | [], L => by simp
  | k :: ks, L => by
    have h1 := fold_len (ks := ks) (L := TxSet.addL L k)
    have h2 := TxSet.addL_len L k
    rw [List.foldl_cons, List.length_cons]
    omega
/-- the words of us are just those of ks, ascending -/
structure Told (us ks : List Str) : Prop where
  asc : Asc us
  nd : us.Nodup
  mem : ∀ x, x ∈ us ↔ x ∈ ks
theorem told_set {us ks : List Str} (p : us.Perm (ks.foldl TxSet.addL [])) (a : SrtX.Asc us) : Told us ks := ⟨a, p.nodup_iff.mpr (fold_nodup List.nodup_nil), fun x => by
  rw [p.mem_iff, TxSet.fold_mem]
  simp⟩
theorem Told.uniq {us vs ks ks' : List Str} (a : Told us ks) (b : Told vs ks') (h : ∀ x, x ∈ ks ↔ x ∈ ks') : us = vs := asc_ext a.nd b.nd (fun x => by rw [a.mem, b.mem, h]) a.asc b.asc
def ends (ss : List S5) : List Str := ss.map S5.st ++ ss.map S5.en
section
variable {P : Program} {w : World} {K : PySem.W.Frag} {mg : Str → Option Value} {base : Heap}
/-! ### check_quarter, check_town -/
def spIns (C : Addr) : Sp := fun vs H Q _ => ∃ (q dx : Addr) (fs : List (Str × V)), vs = [.ref q] ∧ H q = some (.ins C dx fs) ∧ Q .non H
theorem scChkQ : FnScope ["value"] ["value"] (defScope sChkQuarter) := ⟨rfl, rfl, rfl, by decide +kernel, rfl, by decide +kernel, by decide +kernel⟩
theorem scChkT : FnScope ["value"] ["value"] (defScope sChkTown) := ⟨rfl, rfl, rfl, by decide +kernel, rfl, by decide +kernel, by decide +kernel⟩
theorem ok_chkQ {CQ iQ eQ : Addr} {f : Addr} {fd : FuncData} (F : FnP K "check_quarter" sChkQuarter f fd) (c : ClsF K CQ iQ eQ) (hm : mg "Quarter" = some (.ref CQ)) (T : Tx K mg) : FnOk P w K mg base CX0 1 f fd ["value"] (spIns CQ) := by
  refine F.ok scChkQ (fun vs H Q E h => ?_) (fun cdv A outer s H vs Q E hr h => ?_)
  · obtain ⟨_, _, _, rfl, _⟩ := h
    rfl
  · obtain ⟨q, dx, fs, rfl, hq, z⟩ := h
    have gIs := T.fr "isinstance" (by decide +kernel)
    refine ⟨_, PSs.nox (pss_one (ps_if (pt_not (pt_val (pe_callB call_isi (by rfl) gIs (by decide +kernel) (pa_cons (pv 0) (pa_cons (C8.pe_gc (v := .ref CQ) (by rfl) ⟨_, hm, rfl⟩) pa_nil))))) (pss_one ps_never) pss_nil)), ?_⟩
    exact ⟨_, rfl, _, _, _, _, _, rfl, .own _, c.ty hq, c.kC, _, rfl, ifF (by decide) z⟩
theorem ok_chkT {CQ iQ eQ : Addr} {f : Addr} {fd : FuncData} (F : FnP K "check_town" sChkTown f fd) (c : ClsF K CQ iQ eQ) (hm : mg "Town" = some (.ref CQ)) (T : Tx K mg) : FnOk P w K mg base CX0 1 f fd ["value"] (spIns CQ) := by
  refine F.ok scChkT (fun vs H Q E h => ?_) (fun cdv A outer s H vs Q E hr h => ?_)
  · obtain ⟨_, _, _, rfl, _⟩ := h
    rfl
  · obtain ⟨q, dx, fs, rfl, hq, z⟩ := h
    have gIs := T.fr "isinstance" (by decide +kernel)
    refine ⟨_, PSs.nox (pss_one (ps_if (pt_not (pt_val (pe_callB call_isi (by rfl) gIs (by decide +kernel) (pa_cons (pv 0) (pa_cons (C8.pe_gc (v := .ref CQ) (by rfl) ⟨_, hm, rfl⟩) pa_nil))))) (pss_one ps_never) pss_nil)), ?_⟩
    exact ⟨_, rfl, _, _, _, _, _, rfl, .own _, c.ty hq, c.kC, _, rfl, ifF (by decide) z⟩
/-! ### ends_of -/
def spEndsOf : Sp := fun vs H Q _ => ∃ (l : Addr) (ts : List (Addr × S5)), vs = [.ref l] ∧ Sts H l ts ∧ ts.length ≤ 60 ∧ ∀ (D : Addr) (H' : Hp), Same H H' → H D = none → Ws H' D (ends (snds ts)) → Q (.ref D) H'
theorem scEndsOf : FnScope ["streets", "street"] ["streets"] (defScope sEndsOf) := ⟨rfl, rfl, rfl, by decide +kernel, rfl, by decide +kernel, by decide +kernel⟩
/-- [street[j] for street in streets] -/
theorem lc_part {H1 : Hp} {l : Addr} {ts : List (Addr × S5)} {g : S5 → Str} {j : Nat} (hj : ∀ s : S5, s.vals[j]? = some (.str (g s))) {σ : L2.St} {i : Nat} {D : Addr} {Qd : Hp → Prop} (nD : H1 D = none) (hl : Sts H1 l ts) (h60 : ts.length ≤ 60)
    (hi : ∀ v, ((wipe σ [i]).set i (some v))[i]? = some (some v)) (hw : ∀ v, wipe ((wipe σ [i]).set i (some v)) [i] = wipe σ [i]) (fin : ∀ H', Same H1 H' → Ws H' D (ts.map fun t => g t.2) → Qd H') :
    ∃ W : Nat → Nat → Hp → Prop, (∃ m, W 0 m (upd H1 D (.lst []))) ∧ ∀ n m H, W n m H →
      ((Itl K l).stop n H ∧ Qd H) ∨ ((Itl K l).go n H ∧ ∃ Nx : Hp → Prop, (∀ H', Nx H' → ∃ m', m' < m ∧ W (n + 1) m' H') ∧ ∀ x H', (Itl K l).yld n H x H' → gName i x (wipe σ [i]) H' fun σ2 H2 => wipe σ2 [i] = wipe σ [i] ∧ tYes σ2 H2 fun b H3 =>
        if b = true then tOp (rIxT K) (tVar i) (tC (.int (j : Nat))) σ2 H3 fun y H4 => ∃ acc, H4 D = some (.lst acc) ∧ acc.length < sizeLine ∧ Nx (upd H4 D (.lst (acc ++ [y]))) else Nx H3) := by
  have sl := sizeLine_eq
  refine lc_list (K := K) (a := l) (xs := ts.map fun t => V.ref t.1) (fun n H' => Same H1 H' ∧ H' D = some (.lst (((ts.map fun t => g t.2).take n).map V.str))) ⟨same_upd nD, upd_same⟩ (fun n H' _ h => SqL.of (h.1 _ _ hl.1)) ?_ ?_
  · rintro n x H' hn ⟨s1, hD⟩
    rw [List.getElem?_map] at hn
    cases e : ts[n]? with
    | none =>
      rw [e] at hn
      cases hn
    | some t =>
      rw [e] at hn
      cases hn
      have tm := List.mem_of_getElem? e
      have lt := (List.getElem?_eq_some_iff.mp e).1
      refine ⟨hw _, _, hi _, t.1, _, _, _, rfl, rfl, SqT.of (s1 _ _ (hl.2 t tm)), atI_nat (hj t.2), _, hD, ?_, fun b o eb => ?_, ?_⟩
      · rw [List.length_map, List.length_take, List.length_map]
        omega
      · rw [upd_ne (ne_of_none eb nD)]
        exact s1 _ _ eb
      · have et : (ts.map fun t => g t.2).take (n + 1) = (ts.map fun t => g t.2).take n ++ [g t.2] := by
          rw [List.take_add_one, List.getElem?_map, e]
          rfl
        rw [upd_same, et, List.map_append]
        rfl
  · rintro H' ⟨s1, hD⟩
    refine fin H' s1 ?_
    rw [List.take_of_length_le (by rw [List.length_map, List.length_map]; exact Nat.le_refl _)] at hD
    exact hD
theorem ok_endsOf {f : Addr} {fd : FuncData} (F : FnP K "ends_of" sEndsOf f fd) (T : Tx K mg) : FnOk P w K mg base CX0 1 f fd ["streets"] spEndsOf := by
  refine F.ok scEndsOf (fun vs H Q E h => ?_) (fun cdv A outer s H vs Q E hr h => ?_)
  · obtain ⟨_, _, rfl, _⟩ := h
    rfl
  · obtain ⟨l, ts, rfl, hl, h60, q⟩ := h
    refine ⟨_, PSs.nox (pss_one (ps_ret (pe_op op_cat
      (pe_lc (own := [("street", 1)]) (g := gName 1) (tt := tYes) (te := tOp (rIxT K) (tVar 1) (tC (.int ((1 : Nat) : Int)))) rfl scEndsOf.nd (pi_list (pv 0)) (blkOk_by (own := [("street", 1)]) (N := ["streets", "street"]) (sc := defScope sEndsOf) (by decide +kernel))
        (fun _ _ _ _ _ => pg_name (i := 1) scEndsOf.nd rfl (Or.inl rfl)) (fun _ _ _ _ _ => pts_nil) (fun _ _ _ _ _ => pe_ix ix_tup (pv 1) pe_int (fun _ _ => rfl)))
      (pe_lc (own := [("street", 1)]) (g := gName 1) (tt := tYes) (te := tOp (rIxT K) (tVar 1) (tC (.int ((2 : Nat) : Int)))) rfl scEndsOf.nd (pi_list (pv 0)) (blkOk_by (own := [("street", 1)]) (N := ["streets", "street"]) (sc := defScope sEndsOf) (by decide +kernel))
        (fun _ _ _ _ _ => pg_name (i := 1) scEndsOf.nd rfl (Or.inl rfl)) (fun _ _ _ _ _ => pts_nil) (fun _ _ _ _ _ => pe_ix ix_tup (pv 1) pe_int (fun _ _ => rfl)))))), ?_⟩
    have sl := sizeLine_eq
    refine ⟨_, rfl, l, rfl, ⟨_, SqL.of hl.1⟩, fun D nD => ?_⟩
    refine lc_part (K := K) (g := S5.st) (j := 1) (i := 1) (fun s => rfl) nD hl h60 (fun v => rfl) (fun v => rfl) fun H1 s1 hD => ?_
    have hl1 := hl.keep s1
    refine ⟨_, rfl, l, rfl, ⟨_, SqL.of hl1.1⟩, fun D2 nD2 => ?_⟩
    refine lc_part (K := K) (g := S5.en) (j := 2) (i := 1) (fun s => rfl) nD2 hl1 h60 (fun v => rfl) (fun v => rfl) fun H2 s2 hD2 => ?_
    refine ⟨D, D2, _, _, rfl, rfl, s2 _ _ hD, hD2, by simp only [List.length_map]; omega, fun p np => ?_⟩
    refine q p _ (same_trans (same_trans s1 s2) (same_upd np)) (s1.free (s2.free np)) ?_
    show upd H2 p _ p = _
    rw [upd_same, ← List.map_append]
    unfold ends
    show some (HO.lst (((ts.map fun t => t.2.st) ++ ts.map fun t => t.2.en).map V.str)) = some (.lst ((((ts.map fun t => t.2).map S5.st) ++ ((ts.map fun t => t.2).map S5.en)).map V.str))
    rw [List.map_map, List.map_map]
    rfl
end
end K2
end
section
set_option Elab.async false
set_option linter.all false
set_option maxRecDepth 100000
set_option maxHeartbeats 8000000
namespace K2
open PySem PySem.Spec PyProof.Rows L2
section
variable {P : Program} {w : World} {K : PySem.W.Frag} {mg : Str → Option Value} {base : Heap}
/-- what is told of both classes' methods and of the checks -/
structure Ms (P : Program) (w : World) (K : PySem.W.Frag) (mg : Str → Option Value) (base : Heap) (CQ CT : Addr) : Prop where
  qs : Mz P w K mg base CQ "streets" 1 (spFld CQ "_streets")
  qg : Mz P w K mg base CQ "gates" 1 (spFld CQ "_gates")
  ts : Mz P w K mg base CT "streets" 1 (spFld CT "_streets")
  cq : Fz P w K mg base "check_quarter" 1 ["value"] (spIns CQ)
  ct : Fz P w K mg base "check_town" 1 ["value"] (spIns CT)
  eo : Fz P w K mg base "ends_of" 1 ["streets"] spEndsOf
theorem ends_len (ss : List S5) : (ends ss).length = 2 * ss.length := by
  unfold ends
  rw [List.length_append, List.length_map, List.length_map]
  omega
/-! ### crossings_of -/
def spCross (CQ : Addr) : Sp := fun vs H Q _ => ∃ (q dx l g : Addr) (ts : List (Addr × S5)) (gs : List Str), vs = [.ref q] ∧ QuP H CQ q dx l g ts gs ∧ ts.length ≤ 60 ∧ gs.length ≤ 60 ∧
  ∀ (D : Addr) (us : List Str) (H' : Hp), Same H H' → H D = none → Told us (ends (snds ts) ++ gs) → Ws H' D us → Q (.ref D) H'
theorem scCross : FnScope ["quarter"] ["quarter"] (defScope sCrossings) := ⟨rfl, rfl, rfl, by decide +kernel, rfl, by decide +kernel, by decide +kernel⟩
theorem ok_cross {CQ CT : Addr} {f : Addr} {fd : FuncData} (F : FnP K "crossings_of" sCrossings f fd) (M : Ms P w K mg base CQ CT) (T : Tx K mg) : FnOk P w K mg base CX0 2 f fd ["quarter"] (spCross CQ) := by
  refine F.ok scCross (fun vs H Q E h => ?_) (fun cdv A outer s H vs Q E hr h => ?_)
  · obtain ⟨_, _, _, _, _, _, rfl, _⟩ := h
    rfl
  · obtain ⟨q, dx, l, g, ts, gs, rfl, hq, h60, g60, z⟩ := h
    have gSo := T.fr "sorted" (by decide +kernel)
    have gSe := T.fr "set" (by decide +kernel)
    have sl := sizeLine_eq
    refine ⟨_, PSs.nox (pss_cons (ps_expr (pe_fz M.cq hr (by rfl) (pa_cons (pv 0) pa_nil))) (pss_one (ps_ret (pe_callB (cr_sortedX rfl) (by rfl) gSo (by decide +kernel) (pa_cons
      (pe_callTy (cr_setX rfl) (by rfl) gSe (by decide +kernel) (pa_cons (pe_op op_cat (pe_fz M.eo hr (by rfl) (pa_cons (pe_mz M.qs (pv 0) hr) pa_nil)) (pe_mz M.qg (pv 0) hr)) pa_nil)) pa_nil))))), ?_⟩
    refine ⟨_, rfl, q, dx, _, rfl, hq.at_, ?_⟩
    refine ⟨_, rfl, q, dx, _, rfl, hq.at_, rfl, q, dx, l, _, _, rfl, hq.at_, rfl, hq.s.1, fun D1 n1 => ?_⟩
    have s1 := same_upd (o := .lst (ts.map fun t => V.ref t.1)) n1
    have hD1 : Sts (upd H D1 (.lst (ts.map fun t => V.ref t.1))) D1 ts := ⟨upd_same, fun t ht => s1 _ _ (hq.s.2 t ht)⟩
    generalize upd H D1 (.lst (ts.map fun t => V.ref t.1)) = H1 at s1 hD1 ⊢
    refine ⟨D1, ts, rfl, hD1, h60, fun D2 H2 s2 n2 hD2 => ?_⟩
    have hq2 := hq.keep (same_trans s1 s2)
    refine ⟨_, rfl, q, dx, _, rfl, hq2.at_, rfl, q, dx, g, _, _, rfl, hq2.at_, rfl, hq2.g, fun D3 n3 => ?_⟩
    have s3 := same_upd (o := .lst (gs.map V.str)) n3
    have e1 := ends_len (snds ts)
    rw [List.length_map] at e1
    refine ⟨D2, D3, _, _, rfl, rfl, s3 _ _ hD2, upd_same, by rw [List.length_map, List.length_map]; omega, fun D4 n4 => ?_⟩
    rw [← List.map_append]
    have s4 := same_upd (o := .lst ((ends (snds ts) ++ gs).map V.str)) n4
    have s04 := same_trans (same_trans s1 s2) (same_trans s3 s4)
    refine ⟨D4, _, rfl, SqL.of upd_same, ?_, fun D5 n5 => ?_⟩
    · rw [List.length_append]
      unfold scanBound
      omega
    have s5 := same_upd (o := SetX w D5 ((ends (snds ts) ++ gs).foldl TxSet.addL [])) n5
    have fl := fold_len (ks := ends (snds ts) ++ gs) (L := [])
    rw [List.length_append, List.length_nil] at fl
    refine ⟨D5, _, rfl, upd_same, by omega, fun us D6 pm as n6 => ?_⟩
    have s6 := same_upd (o := .lst (us.map V.str)) n6
    exact z D6 us _ (same_trans s04 (same_trans s5 s6)) (s04.free (s5.free n6)) (told_set pm as) upd_same
/-! ### places_of -/
def spPlaces (CT : Addr) : Sp := fun vs H Q _ => ∃ (q dx l : Addr) (ts : List (Addr × S5)), vs = [.ref q] ∧ TwP H CT q dx l ts ∧ ts.length ≤ 60 ∧
  ∀ (D : Addr) (us : List Str) (H' : Hp), Same H H' → H D = none → Told us (ends (snds ts)) → Ws H' D us → Q (.ref D) H'
theorem scPlaces : FnScope ["town"] ["town"] (defScope sPlacesOf) := ⟨rfl, rfl, rfl, by decide +kernel, rfl, by decide +kernel, by decide +kernel⟩
theorem ok_places {CQ CT : Addr} {f : Addr} {fd : FuncData} (F : FnP K "places_of" sPlacesOf f fd) (M : Ms P w K mg base CQ CT) (T : Tx K mg) : FnOk P w K mg base CX0 2 f fd ["town"] (spPlaces CT) := by
  refine F.ok scPlaces (fun vs H Q E h => ?_) (fun cdv A outer s H vs Q E hr h => ?_)
  · obtain ⟨_, _, _, _, rfl, _⟩ := h
    rfl
  · obtain ⟨q, dx, l, ts, rfl, hq, h60, z⟩ := h
    have gSo := T.fr "sorted" (by decide +kernel)
    have gSe := T.fr "set" (by decide +kernel)
    have sl := sizeLine_eq
    refine ⟨_, PSs.nox (pss_cons (ps_expr (pe_fz M.ct hr (by rfl) (pa_cons (pv 0) pa_nil))) (pss_one (ps_ret (pe_callB (cr_sortedX rfl) (by rfl) gSo (by decide +kernel) (pa_cons
      (pe_callTy (cr_setX rfl) (by rfl) gSe (by decide +kernel) (pa_cons (pe_fz M.eo hr (by rfl) (pa_cons (pe_mz M.ts (pv 0) hr) pa_nil)) pa_nil)) pa_nil))))), ?_⟩
    refine ⟨_, rfl, q, dx, _, rfl, hq.at_, ?_⟩
    refine ⟨_, rfl, q, dx, _, rfl, hq.at_, rfl, q, dx, l, _, _, rfl, hq.at_, rfl, hq.s.1, fun D1 n1 => ?_⟩
    have s1 := same_upd (o := .lst (ts.map fun t => V.ref t.1)) n1
    have hD1 : Sts (upd H D1 (.lst (ts.map fun t => V.ref t.1))) D1 ts := ⟨upd_same, fun t ht => s1 _ _ (hq.s.2 t ht)⟩
    generalize upd H D1 (.lst (ts.map fun t => V.ref t.1)) = H1 at s1 hD1 ⊢
    refine ⟨D1, ts, rfl, hD1, h60, fun D2 H2 s2 n2 hD2 => ?_⟩
    have e1 := ends_len (snds ts)
    rw [List.length_map] at e1
    have s04 := same_trans s1 s2
    refine ⟨D2, _, rfl, SqL.of hD2, by unfold scanBound; omega, fun D5 n5 => ?_⟩
    have s5 := same_upd (o := SetX w D5 ((ends (snds ts)).foldl TxSet.addL [])) n5
    have fl := fold_len (ks := ends (snds ts)) (L := [])
    rw [List.length_nil] at fl
    refine ⟨D5, _, rfl, upd_same, by omega, fun us D6 pm as n6 => ?_⟩
    have s6 := same_upd (o := .lst (us.map V.str)) n6
    exact z D6 us _ (same_trans s04 (same_trans s5 s6)) (s04.free (s5.free n6)) (told_set pm as) upd_same
/-! ### asked_of -/
def spAsked (CQ CT : Addr) : Sp := fun vs H Q _ => ∃ (q dx l g : Addr) (ts : List (Addr × S5)) (gs : List Str) (p dp lp : Addr) (us : List (Addr × S5)), vs = [.ref q, .ref p] ∧ QuP H CQ q dx l g ts gs ∧ gs.length ≤ 60 ∧ TwP H CT p dp lp us ∧ us.length ≤ 60 ∧
  ∀ (D : Addr) (zs : List Str) (H' : Hp), Same H H' → H D = none → Told zs (gs ++ ends (snds us)) → Ws H' D zs → Q (.ref D) H'
theorem scAsked : FnScope ["quarter", "town"] ["quarter", "town"] (defScope sAskedOf) := ⟨rfl, rfl, rfl, by decide +kernel, rfl, by decide +kernel, by decide +kernel⟩
theorem ok_asked {CQ CT : Addr} {f : Addr} {fd : FuncData} (F : FnP K "asked_of" sAskedOf f fd) (M : Ms P w K mg base CQ CT) (GP : Fz P w K mg base "places_of" 2 ["town"] (spPlaces CT)) (T : Tx K mg) : FnOk P w K mg base CX0 3 f fd ["quarter", "town"] (spAsked CQ CT) := by
  refine F.ok scAsked (fun vs H Q E h => ?_) (fun cdv A outer s H vs Q E hr h => ?_)
  · obtain ⟨_, _, _, _, _, _, _, _, _, _, rfl, _⟩ := h
    rfl
  · obtain ⟨q, dx, l, g, ts, gs, p, dp, lp, us, rfl, hq, g60, hp, u60, z⟩ := h
    have gSo := T.fr "sorted" (by decide +kernel)
    have gSe := T.fr "set" (by decide +kernel)
    have sl := sizeLine_eq
    have r1 : Room 1 (A.deeper (envOfC "asked_of" (defScope sAskedOf) s.heap.objs.size f cdv)) := hr.mono (by decide)
    refine ⟨_, PSs.nox (pss_cons (ps_expr (pe_fz M.cq r1 (by rfl) (pa_cons (pv 0) pa_nil))) (pss_cons (ps_expr (pe_fz M.ct r1 (by rfl) (pa_cons (pv 1) pa_nil))) (pss_one (ps_ret (pe_callB (cr_sortedX rfl) (by rfl) gSo (by decide +kernel) (pa_cons
      (pe_callTy (cr_setX rfl) (by rfl) gSe (by decide +kernel) (pa_cons (pe_op op_cat (pe_mz M.qg (pv 0) r1) (pe_fz GP hr (by rfl) (pa_cons (pv 1) pa_nil))) pa_nil)) pa_nil)))))), ?_⟩
    refine ⟨_, rfl, q, dx, _, rfl, hq.at_, _, rfl, p, dp, _, rfl, hp.at_, ?_⟩
    refine ⟨_, rfl, q, dx, _, rfl, hq.at_, rfl, q, dx, g, _, _, rfl, hq.at_, rfl, hq.g, fun D1 n1 => ?_⟩
    have s1 := same_upd (o := .lst (gs.map V.str)) n1
    have hD1 : Ws (upd H D1 (.lst (gs.map V.str))) D1 gs := upd_same
    generalize upd H D1 (.lst (gs.map V.str)) = H1 at s1 hD1 ⊢
    refine ⟨_, rfl, p, dp, lp, us, rfl, hp.keep s1, u60, fun D2 ps H2 s2 n2 tp hD2 => ?_⟩
    have e1 := ends_len (snds us)
    rw [List.length_map] at e1
    have pl : ps.length ≤ 120 := by
      have := len_le_of_sub ps (ends (snds us)) tp.nd fun x hx => (tp.mem x).mp hx
      omega
    refine ⟨D1, D2, _, _, rfl, rfl, s2 _ _ hD1, hD2, by rw [List.length_map, List.length_map]; omega, fun D4 n4 => ?_⟩
    rw [← List.map_append]
    have s4 := same_upd (o := .lst ((gs ++ ps).map V.str)) n4
    have s04 := same_trans (same_trans s1 s2) s4
    refine ⟨D4, _, rfl, SqL.of upd_same, ?_, fun D5 n5 => ?_⟩
    · rw [List.length_append]
      unfold scanBound
      omega
    have s5 := same_upd (o := SetX w D5 ((gs ++ ps).foldl TxSet.addL [])) n5
    have fl := fold_len (ks := gs ++ ps) (L := [])
    rw [List.length_append, List.length_nil] at fl
    refine ⟨D5, _, rfl, upd_same, by omega, fun zs D6 pm as n6 => ?_⟩
    have s6 := same_upd (o := .lst (zs.map V.str)) n6
    have tt := told_set pm as
    refine z D6 zs _ (same_trans s04 (same_trans s5 s6)) (s04.free (s5.free n6)) ⟨tt.asc, tt.nd, fun x => ?_⟩ upd_same
    rw [tt.mem, List.mem_append, List.mem_append, tp.mem]
/-! ### street_of -/
def spStreetOf (CQ : Addr) : Sp := fun vs H Q _ => ∃ (q dx l g : Addr) (ts : List (Addr × S5)) (gs : List Str) (t : Addr × S5), vs = [.ref q, .str t.2.nm] ∧ QuP H CQ q dx l g ts gs ∧ t ∈ ts ∧ (ts.map fun t => t.2.nm).Nodup ∧
  ∀ H', Same H H' → Q (.ref t.1) H'
theorem scStreetOf : FnScope ["quarter", "name", "street"] ["quarter", "name"] (defScope sStreetOf) := ⟨rfl, rfl, rfl, by decide +kernel, rfl, by decide +kernel, by decide +kernel⟩
theorem ok_streetOf {CQ CT : Addr} {f : Addr} {fd : FuncData} (F : FnP K "street_of" sStreetOf f fd) (M : Ms P w K mg base CQ CT) (T : Tx K mg) : FnOk P w K mg base CX0 2 f fd ["quarter", "name"] (spStreetOf CQ) := by
  refine F.ok scStreetOf (fun vs H Q E h => ?_) (fun cdv A outer s H vs Q E hr h => ?_)
  · obtain ⟨_, _, _, _, _, _, _, rfl, _⟩ := h
    rfl
  · obtain ⟨q, dx, l, g, ts, gs, t, rfl, hq, ht, nd, z⟩ := h
    refine ⟨_, PSs.nox (pss_cons (ps_expr (pe_fz M.cq hr (by rfl) (pa_cons (pv 0) pa_nil))) (pss_cons (ps_for PassesOwn.never rfl (pi_list (pe_mz M.qs (pv 0) hr)) (pg_name (i := 2) scStreetOf.nd rfl (Or.inl rfl))
      (pss_one (ps_if (pt_cmpR op_eq (pe_ix ix_tup (pv 2) pe_int (fun _ _ => rfl)) (pv 1) (nomark _)) (pss_one (ps_ret (pv 2))) pss_nil))) (pss_one ps_never))), ?_⟩
    refine ⟨_, rfl, q, dx, _, rfl, hq.at_, ?_⟩
    refine ⟨_, rfl, q, dx, _, rfl, hq.at_, rfl, q, dx, l, _, _, rfl, hq.at_, rfl, hq.s.1, fun D1 n1 => ?_⟩
    have s1 := same_upd (o := .lst (ts.map fun t => V.ref t.1)) n1
    have hD1 : Sts (upd H D1 (.lst (ts.map fun t => V.ref t.1))) D1 ts := ⟨upd_same, fun t ht => s1 _ _ (hq.s.2 t ht)⟩
    generalize upd H D1 (.lst (ts.map fun t => V.ref t.1)) = H1 at s1 hD1 ⊢
    obtain ⟨k, hk⟩ := List.mem_iff_getElem?.mp ht
    have kl := (List.getElem?_eq_some_iff.mp hk).1
    refine ⟨D1, rfl, ⟨_, SqL.of hD1.1⟩, ?_⟩
    refine for_list (K := K) (a := D1) (xs := ts.map fun t => V.ref t.1) (fun i σ H' => (∃ o, σ = [some (.ref q), some (.str t.2.nm), o]) ∧ H' = H1 ∧ i ≤ k) ⟨⟨_, rfl⟩, rfl, Nat.zero_le _⟩ (fun i σ H' _ h => by rw [h.2.1]; exact SqL.of hD1.1) ?_ ?_
    · rintro i x σ H' hi ⟨⟨o, rfl⟩, rfl, ik⟩
      rw [List.getElem?_map] at hi
      cases e : ts[i]? with
      | none =>
        rw [e] at hi
        cases hi
      | some u =>
        rw [e] at hi
        cases hi
        have um := List.mem_of_getElem? e
        refine ⟨_, rfl, u.1, _, ((0 : Nat) : Int), _, rfl, rfl, SqT.of (hD1.2 u um), atI_nat rfl, _, rfl, rfl, _, rfl, ite2 (fun c => ?_) (fun c => ?_)⟩
        · have en : u.2.nm = t.2.nm := by
            have := of_decide_eq_true c
            exact V.str.inj this
          have eu : u = t := nodup_inj nd u um t ht en
          rw [eu]
          exact ⟨_, rfl, z _ s1⟩
        · refine ⟨⟨_, rfl⟩, rfl, ?_⟩
          have : i ≠ k := fun z => by
            rw [z, hk] at e
            cases e
            exact c (decide_eq_true rfl)
          omega
    · rintro σ H' ⟨_, _, ik⟩
      rw [List.length_map] at ik
      omega
end
end K2
end
section
set_option Elab.async false
set_option linter.all false
set_option maxRecDepth 100000
set_option maxHeartbeats 8000000
namespace K2
open PySem PySem.Spec PyProof.Rows L2
theorem at_map {α : Type} {g : α → V} {l : List α} {i : Nat} {x : V} (h : (l.map g)[i]? = some x) : ∃ t, l[i]? = some t ∧ x = g t := by
  rw [List.getElem?_map] at h
  cases e : l[i]? with
  | none =>
    rw [e] at h
    cases h
  | some t =>
    rw [e] at h
    cases h
    exact ⟨t, rfl, rfl⟩
/-- [x for x in ws if x not in bs] -/
theorem lc_notin {K : PySem.W.Frag} {J : It} {G : Hp → Prop} {ws bs : List Str} (wk : Walk J ws.length G (YAt (ws.map V.str))) {σ : L2.St} {i f : Nat} {F D : Addr} {H1 : Hp} {Qd : Hp → Prop} (nD : H1 D = none) (hG : ∀ H', Same H1 H' → G H')
    (hF : Ws H1 F bs) (hl : ws.length ≤ 1000) (hi : ∀ v, ((wipe σ [i]).set i (some v))[i]? = some (some v)) (hf : ∀ v, ((wipe σ [i]).set i (some v))[f]? = some (some (.ref F))) (hw : ∀ v, wipe ((wipe σ [i]).set i (some v)) [i] = wipe σ [i])
    (fin : ∀ H', Same H1 H' → Ws H' D (ws.filter fun x => decide (x ∉ bs)) → Qd H') :
    ∃ W : Nat → Nat → Hp → Prop, (∃ m, W 0 m (upd H1 D (.lst []))) ∧ ∀ n m H, W n m H →
      (J.stop n H ∧ Qd H) ∨ (J.go n H ∧ ∃ Nx : Hp → Prop, (∀ H', Nx H' → ∃ m', m' < m ∧ W (n + 1) m' H') ∧ ∀ x H', J.yld n H x H' → gName i x (wipe σ [i]) H' fun σ2 H2 => wipe σ2 [i] = wipe σ [i] ∧ tTest (tOp (rIn K true) (tVar i) (tVar f)) σ2 H2 fun b H3 =>
        if b = true then tVar i σ2 H3 fun y H4 => ∃ acc, H4 D = some (.lst acc) ∧ acc.length < sizeLine ∧ Nx (upd H4 D (.lst (acc ++ [y]))) else Nx H3) := by
  have sl := sizeLine_eq
  refine lc_it wk (fun n H' => Same H1 H' ∧ H' D = some (.lst (((ws.take n).filter fun x => decide (x ∉ bs)).map V.str))) ⟨same_upd nD, upd_same⟩ (fun n H' _ h => hG H' h.1) ?_ ?_
  · rintro n x H' H2 hn ⟨s1, hD⟩ ⟨rfl, hx⟩
    obtain ⟨c, hc, rfl⟩ := at_map hx
    have et : ws.take (n + 1) = ws.take n ++ [c] := by
      rw [List.take_add_one, hc]
      rfl
    have ll : ((ws.take n).filter fun x => decide (x ∉ bs)).length ≤ n := Nat.le_trans (List.length_filter_le _ _) (by rw [List.length_take]; omega)
    refine ⟨hw _, _, hi _, _, hf _, F, bs.map V.str, rfl, Or.inl (SqL.of (s1 _ _ hF)), rfl, flat_strs bs, _, rfl, ?_⟩
    rw [inV_str]
    by_cases hb : c ∈ bs
    · refine ifF (by simpa using hb) ⟨s1, ?_⟩
      rw [et, List.filter_append]
      simp [hD, hb]
    · refine ifT (by simpa using hb) ⟨_, hi _, _, hD, by rw [List.length_map]; omega, fun b o eb => ?_, ?_⟩
      · rw [upd_ne (ne_of_none eb nD)]
        exact s1 _ _ eb
      · rw [upd_same, et, List.filter_append]
        simp [hb]
  · rintro H' ⟨s1, hD⟩
    rw [List.take_length] at hD
    exact fin H' s1 hD
theorem ends_take {ss : List S5} {i : Nat} {t : S5} (h : ss[i]? = some t) (x : Str) : x ∈ ends (ss.take (i + 1)) ↔ x ∈ ends (ss.take i) ∨ x = t.st ∨ x = t.en := by
  have et : ss.take (i + 1) = ss.take i ++ [t] := by
    rw [List.take_add_one, h]
    rfl
  rw [et]
  unfold ends
  simp only [List.map_append, List.mem_append, List.map_cons, List.map_nil, List.mem_singleton]
  constructor
  · rintro ((h | h) | (h | h))
    · exact .inl (.inl h)
    · exact .inr (.inl h)
    · exact .inl (.inr h)
    · exact .inr (.inr h)
  · rintro ((h | h) | (h | h))
    · exact .inl (.inl h)
    · exact .inr (.inl h)
    · exact .inl (.inr h)
    · exact .inr (.inr h)
theorem add_two {fs : List Str} {a b : Str} (nd : fs.Nodup) (ne : a ≠ b) : (fs ++ [a, b].filter fun x => decide (x ∉ fs)).Nodup ∧ ∀ x, x ∈ fs ++ [a, b].filter (fun x => decide (x ∉ fs)) ↔ x ∈ fs ∨ x = a ∨ x = b := by
  refine ⟨List.nodup_append.mpr ⟨nd, (by simp [ne] : [a, b].Nodup).sublist List.filter_sublist, fun x hx y hy e => ?_⟩, fun x => ?_⟩
  · subst e
    have := (List.mem_filter.mp hy).2
    exact of_decide_eq_true this hx
  · rw [List.mem_append, List.mem_filter]
    constructor
    · rintro (h | ⟨h, _⟩)
      · exact .inl h
      · refine .inr ?_
        simpa using h
    · intro h
      by_cases hx : x ∈ fs
      · exact .inl hx
      · refine .inr ⟨?_, decide_eq_true hx⟩
        rcases h with h | h
        · exact absurd h hx
        · simpa using h
section
variable {P : Program} {w : World} {K : PySem.W.Frag} {mg : Str → Option Value} {base : Heap}
/-! ### _law_ends, _law_spots -/
def spEndsL : Sp := fun vs H Q _ => ∃ (l g : Addr) (ts : List (Addr × S5)) (gs : List Str), vs = [.ref l, .ref g] ∧ Sts H l ts ∧ (∀ t ∈ ts, t.2.st ≠ t.2.en) ∧ Ws H g gs ∧ gs.Nodup ∧ gs.length + 2 * ts.length ≤ 63 ∧
  ∀ (D : Addr) (us : List Str) (H' : Hp), Same H H' → H D = none → Told us (ends (snds ts) ++ gs) → Ws H' D us → Q (.ref D) H'
def spSpots : Sp := fun vs H Q _ => ∃ (l : Addr) (ts : List (Addr × S5)), vs = [.ref l] ∧ Sts H l ts ∧ (∀ t ∈ ts, t.2.st ≠ t.2.en) ∧ 2 * ts.length ≤ 63 ∧
  ∀ (D : Addr) (us : List Str) (H' : Hp), Same H H' → H D = none → Told us (ends (snds ts)) → Ws H' D us → Q (.ref D) H'
abbrev NEn : List Str := ["_law_streets", "_law_gates", "_law_found", "_law_street", "_law_word_here"]
abbrev NSp : List Str := ["_law_streets", "_law_found", "_law_street", "_law_word_here"]
theorem scEndsL : FnScope NEn ["_law_streets", "_law_gates"] (defScope sEnds) := ⟨rfl, rfl, rfl, by decide +kernel, rfl, by decide +kernel, by decide +kernel⟩
theorem scSpots : FnScope NSp ["_law_streets"] (defScope sSpots) := ⟨rfl, rfl, rfl, by decide +kernel, rfl, by decide +kernel, by decide +kernel⟩
theorem told_sorted {us fs ks : List Str} (p : us.Perm fs) (s : sortedS us = true) (nd : fs.Nodup) (m : ∀ x, x ∈ fs ↔ x ∈ ks) : Told us ks := ⟨asc_of_sortedS s, p.nodup_iff.mpr nd, fun x => by rw [p.mem_iff, m]⟩
theorem len_ends {fs gs : List Str} {ss : List S5} (nd : fs.Nodup) (m : ∀ x, x ∈ fs ↔ x ∈ gs ∨ x ∈ ends ss) : fs.length ≤ gs.length + 2 * ss.length := by
  have h := len_le_of_sub fs (gs ++ ends ss) nd fun x hx => List.mem_append.mpr ((m x).mp hx)
  rw [List.length_append, ends_len] at h
  exact h
theorem cut13 (t : S5) : cutV t.vals (some ((1 : Nat) : Int)) (some ((3 : Nat) : Int)) = [V.str t.st, V.str t.en] := rfl
theorem ok_endsL {f : Addr} {fd : FuncData} (F : FnP K "_law_ends" sEnds f fd) (T : Tx K mg) : FnOk P w K mg base CX0 1 f fd ["_law_streets", "_law_gates"] spEndsL := by
  refine F.ok scEndsL (fun vs H Q E h => ?_) (fun cdv A outer s H vs Q E hr h => ?_)
  · obtain ⟨_, _, _, _, rfl, _⟩ := h
    rfl
  · obtain ⟨l, g, ts, gs, rfl, hl, hne, hg, gnd, h63, z⟩ := h
    have gLi := T.fr "list" (by decide +kernel)
    have gSo := T.fr "sorted" (by decide +kernel)
    have sl := sizeLine_eq
    refine ⟨_, PSs.nox (pss_cons (ps_set (i := 2) scEndsL.nd rfl (Or.inr rfl) (pe_callTy call_list_of (by rfl) gLi (by decide +kernel) (pa_cons (pv 1) pa_nil)))
      (pss_cons (ps_for PassesOwn.never rfl (pi_list (pv 0)) (pg_name (i := 3) scEndsL.nd rfl (Or.inl rfl))
        (pss_one (ps_set (i := 2) scEndsL.nd rfl (Or.inr rfl) (pe_op op_cat (pv 2)
          (pe_lc (own := [("_law_word_here", 4)]) (g := gName 4) (tt := tTest (tOp (rIn K true) (tVar 4) (tVar 2))) rfl scEndsL.nd (pi_tup (pe_slice sl_tup (pv 3) (po_some pe_int) (po_some pe_int))) (blkOk_by (own := [("_law_word_here", 4)]) (N := NEn) (sc := defScope sEnds) (by decide +kernel))
            (fun _ _ _ _ _ => pg_name (i := 4) scEndsL.nd rfl (Or.inl rfl)) (fun _ _ _ _ _ => pts_one (pt_cmpR op_notIn_seq (pv 4) (pv 2) rfl)) (fun _ _ _ _ _ => pv 4))))))
      (pss_one (ps_ret (pe_callB cr_sortedS (by rfl) gSo (by decide +kernel) (pa_cons (pv 2) pa_nil)))))), ?_⟩
    refine ⟨_, rfl, g, _, rfl, Or.inl (SqL.of hg), fun F1 nF1 => ?_⟩
    refine ⟨_, rfl, l, rfl, ⟨_, SqL.of ((same_upd nF1) _ _ hl.1)⟩, ?_⟩
    refine for_list (K := K) (a := l) (xs := ts.map fun t => V.ref t.1) (fun i σ H' => Same H H' ∧ ∃ (o3 : Option V) (o4 : Option V) (F : Addr) (fs : List Str), σ = [some (.ref l), some (.ref g), some (.ref F), o3, o4] ∧ H F = none ∧ Ws H' F fs ∧ fs.Nodup ∧ ∀ x, x ∈ fs ↔ x ∈ gs ∨ x ∈ ends ((snds ts).take i))
      ⟨same_upd nF1, _, _, F1, gs, rfl, nF1, upd_same, gnd, fun x => by simp [ends]⟩ (fun i σ H' _ h => SqL.of (h.1 _ _ hl.1)) ?_ ?_
    · rintro i x σ H' hi ⟨s1, o3, o4, F, fs, rfl, nF, hF, nd, m⟩
      obtain ⟨t, ht, rfl⟩ := at_map hi
      have tm := List.mem_of_getElem? ht
      have lt := (List.getElem?_eq_some_iff.mp ht).1
      have ht2 : (snds ts)[i]? = some t.2 := by
        rw [List.getElem?_map, ht]
        rfl
      have fl := len_ends nd m
      have fl2 : ((snds ts).take i).length ≤ ts.length := by
        rw [List.length_take, List.length_map]
        omega
      refine ⟨_, rfl, _, rfl, _, rfl, _, rfl, t.1, _, rfl, SqT.of (s1 _ _ (hl.2 t tm)), ?_, fun S nS => ?_⟩
      · intro z
        exact absurd z.1 (by show ¬ HT.sIx 5 0 (some 1) = 0; decide)
      · have e := cut13 t.2
        have e' : cutV t.2.vals (some 1) (some 3) = [V.str t.2.st, V.str t.2.en] := e
        rw [e']
        have s2 := same_upd (o := .tup [V.str t.2.st, V.str t.2.en]) nS
        have hS : upd H' S (.tup [V.str t.2.st, V.str t.2.en]) S = some (.tup ([t.2.st, t.2.en].map V.str)) := upd_same
        generalize upd H' S (.tup [V.str t.2.st, V.str t.2.en]) = H2 at s2 hS ⊢
        refine ⟨S, rfl, ⟨_, SqT.of hS⟩, fun D nD => ?_⟩
        refine lc_notin (K := K) (i := 4) (f := 2) (F := F) (bs := fs) (ws := [t.2.st, t.2.en]) (walk_tup (K := K) (a := S) (xs := [t.2.st, t.2.en].map V.str)) nD (fun H3 s3 => SqT.of (s3 _ _ hS)) (s2 _ _ hF) (by show 2 ≤ 1000; decide) (fun v => rfl) (fun v => rfl) (fun v => rfl) fun H3 s3 hD => ?_
        obtain ⟨nd2, m2⟩ := add_two (a := t.2.st) (b := t.2.en) nd (hne t tm)
        refine ⟨F, D, _, _, rfl, rfl, s3 _ _ (s2 _ _ hF), hD, ?_, fun p np => ?_⟩
        · rw [List.length_map, List.length_map]
          have := List.length_filter_le (fun x => decide (x ∉ fs)) [t.2.st, t.2.en]
          simp only [List.length_cons, List.length_nil] at this
          omega
        · rw [← List.map_append]
          have s13 := same_trans s1 (same_trans s2 s3)
          refine ⟨same_trans s13 (same_upd np), _, _, p, _, rfl, s13.free np, upd_same, nd2, fun x => ?_⟩
          rw [m2, m, ends_take ht2]
          constructor
          · rintro ((h | h) | h)
            · exact .inl h
            · exact .inr (.inl h)
            · exact .inr (.inr h)
          · rintro (h | (h | h))
            · exact .inl (.inl h)
            · exact .inl (.inr h)
            · exact .inr h
    · rintro σ H' ⟨s1, o3, o4, F, fs, rfl, nF, hF, nd, m⟩
      rw [List.take_of_length_le (by rw [List.length_map, List.length_map]; exact Nat.le_refl _)] at m
      have fl := len_ends nd m
      rw [List.length_map] at fl
      refine ⟨_, rfl, F, fs, rfl, SqL.of hF, by omega, fun us p pm so np => ?_⟩
      refine z p us _ (same_trans s1 (same_upd np)) (s1.free np) (told_sorted pm so nd fun x => ?_) upd_same
      rw [m, List.mem_append]
      exact or_comm
theorem ok_spots {f : Addr} {fd : FuncData} (F : FnP K "_law_spots" sSpots f fd) (T : Tx K mg) : FnOk P w K mg base CX0 1 f fd ["_law_streets"] spSpots := by
  refine F.ok scSpots (fun vs H Q E h => ?_) (fun cdv A outer s H vs Q E hr h => ?_)
  · obtain ⟨_, _, rfl, _⟩ := h
    rfl
  · obtain ⟨l, ts, rfl, hl, hne, h63, z⟩ := h
    have gSo := T.fr "sorted" (by decide +kernel)
    have sl := sizeLine_eq
    refine ⟨_, PSs.nox (pss_cons (ps_set (i := 1) scSpots.nd rfl (Or.inr rfl) (pe_lst pa_nil))
      (pss_cons (ps_for PassesOwn.never rfl (pi_list (pv 0)) (pg_name (i := 2) scSpots.nd rfl (Or.inl rfl))
        (pss_one (ps_set (i := 1) scSpots.nd rfl (Or.inr rfl) (pe_op op_cat (pv 1)
          (pe_lc (own := [("_law_word_here", 3)]) (g := gName 3) (tt := tTest (tOp (rIn K true) (tVar 3) (tVar 1))) rfl scSpots.nd (pi_tup (pe_slice sl_tup (pv 2) (po_some pe_int) (po_some pe_int))) (blkOk_by (own := [("_law_word_here", 3)]) (N := NSp) (sc := defScope sSpots) (by decide +kernel))
            (fun _ _ _ _ _ => pg_name (i := 3) scSpots.nd rfl (Or.inl rfl)) (fun _ _ _ _ _ => pts_one (pt_cmpR op_notIn_seq (pv 3) (pv 1) rfl)) (fun _ _ _ _ _ => pv 3))))))
      (pss_one (ps_ret (pe_callB cr_sortedS (by rfl) gSo (by decide +kernel) (pa_cons (pv 1) pa_nil)))))), ?_⟩
    refine ⟨Nat.zero_le _, fun F1 nF1 => ?_⟩
    refine ⟨_, rfl, l, rfl, ⟨_, SqL.of ((same_upd nF1) _ _ hl.1)⟩, ?_⟩
    refine for_list (K := K) (a := l) (xs := ts.map fun t => V.ref t.1) (fun i σ H' => Same H H' ∧ ∃ (o3 : Option V) (o4 : Option V) (F : Addr) (fs : List Str), σ = [some (.ref l), some (.ref F), o3, o4] ∧ H F = none ∧ Ws H' F fs ∧ fs.Nodup ∧ ∀ x, x ∈ fs ↔ x ∈ ([] : List Str) ∨ x ∈ ends ((snds ts).take i))
      ⟨same_upd nF1, _, _, F1, [], rfl, nF1, upd_same, List.nodup_nil, fun x => by simp [ends]⟩ (fun i σ H' _ h => SqL.of (h.1 _ _ hl.1)) ?_ ?_
    · rintro i x σ H' hi ⟨s1, o3, o4, F, fs, rfl, nF, hF, nd, m⟩
      obtain ⟨t, ht, rfl⟩ := at_map hi
      have tm := List.mem_of_getElem? ht
      have lt := (List.getElem?_eq_some_iff.mp ht).1
      have ht2 : (snds ts)[i]? = some t.2 := by
        rw [List.getElem?_map, ht]
        rfl
      have fl := len_ends nd m
      have fl2 : ((snds ts).take i).length ≤ ts.length := by
        rw [List.length_take, List.length_map]
        omega
      refine ⟨_, rfl, _, rfl, _, rfl, _, rfl, t.1, _, rfl, SqT.of (s1 _ _ (hl.2 t tm)), ?_, fun S nS => ?_⟩
      · intro z
        exact absurd z.1 (by show ¬ HT.sIx 5 0 (some 1) = 0; decide)
      · have e := cut13 t.2
        have e' : cutV t.2.vals (some 1) (some 3) = [V.str t.2.st, V.str t.2.en] := e
        rw [e']
        have s2 := same_upd (o := .tup [V.str t.2.st, V.str t.2.en]) nS
        have hS : upd H' S (.tup [V.str t.2.st, V.str t.2.en]) S = some (.tup ([t.2.st, t.2.en].map V.str)) := upd_same
        generalize upd H' S (.tup [V.str t.2.st, V.str t.2.en]) = H2 at s2 hS ⊢
        refine ⟨S, rfl, ⟨_, SqT.of hS⟩, fun D nD => ?_⟩
        refine lc_notin (K := K) (i := 3) (f := 1) (F := F) (bs := fs) (ws := [t.2.st, t.2.en]) (walk_tup (K := K) (a := S) (xs := [t.2.st, t.2.en].map V.str)) nD (fun H3 s3 => SqT.of (s3 _ _ hS)) (s2 _ _ hF) (by show 2 ≤ 1000; decide) (fun v => rfl) (fun v => rfl) (fun v => rfl) fun H3 s3 hD => ?_
        obtain ⟨nd2, m2⟩ := add_two (a := t.2.st) (b := t.2.en) nd (hne t tm)
        refine ⟨F, D, _, _, rfl, rfl, s3 _ _ (s2 _ _ hF), hD, ?_, fun p np => ?_⟩
        · rw [List.length_map, List.length_map]
          have := List.length_filter_le (fun x => decide (x ∉ fs)) [t.2.st, t.2.en]
          simp only [List.length_cons, List.length_nil] at this fl
          omega
        · rw [← List.map_append]
          have s13 := same_trans s1 (same_trans s2 s3)
          refine ⟨same_trans s13 (same_upd np), _, _, p, _, rfl, s13.free np, upd_same, nd2, fun x => ?_⟩
          rw [m2, m, ends_take ht2]
          constructor
          · rintro ((h | h) | h)
            · exact .inl h
            · exact .inr (.inl h)
            · exact .inr (.inr h)
          · rintro (h | (h | h))
            · exact .inl (.inl h)
            · exact .inl (.inr h)
            · exact .inr h
    · rintro σ H' ⟨s1, o3, o4, F, fs, rfl, nF, hF, nd, m⟩
      rw [List.take_of_length_le (by rw [List.length_map, List.length_map]; exact Nat.le_refl _)] at m
      have fl := len_ends nd m
      rw [List.length_map] at fl
      simp only [List.length_nil] at fl
      refine ⟨_, rfl, F, fs, rfl, SqL.of hF, by omega, fun us p pm so np => ?_⟩
      refine z p us _ (same_trans s1 (same_upd np)) (s1.free np) (told_sorted pm so nd fun x => ?_) upd_same
      rw [m]
      simp
end
end K2
end
section
set_option Elab.async false
set_option linter.all false
set_option maxRecDepth 100000
set_option maxHeartbeats 4000000
/-! list(reversed(xs)), xs a list: a new list. -/
namespace RT
open PySem PySem.Spec PyProof.Rows
section
variable {prog : Program} {w : World} {A : Around} {E : Value → Shared → Prop} {s : Shared} {R : Result → Shared → Prop}
theorem extend_rev {it l : Addr} {items : Array Value} (hh : A.handled = none) (hit : s.heap.IsRevIter it l ((items.size : Int) - 1)) (hl : s.heap.IsList l items) (hne : l ≠ it) (hn : items.size ≤ sizeLine) (S : Addr) (res : Value) (c₀ : Nat)
    (hSi : S ≠ it) (hSl : S ≠ l) (hS : s.heap.get? S = some { cls := .type "list", data := .seq #[] c₀ })
    (hR : ∀ s' acc' c', Moved [S, it] (fun a b => b = a) s s' → s'.heap.get? S = some { cls := .type "list", dict := none, data := .seq acc' c', slots := #[] } → ItemsOf (fun i v => items[items.size - 1 - i]? = some v) acc' items.size → R (.ok (.ret res)) s') :
    wpAny (model prog w) A.in1 (Builtin.List.listExtendWith (.ref S) (.ref it) res)
      (fun fin s' => match fin with | .done f => R (.ok f) s' | .again c' => c'.quiet = true ∧ codeAny (model prog w) A c' R s') (fun e s' => R (.error e) s') s := by
  have W := (Walks.listRev (prog := prog) (w := w) (A := A.in1) hh it l hne items).toS
  have hSf : S ∉ [it, l] := by simp only [List.mem_cons, List.not_mem_nil, or_false, not_or]; exact ⟨hSi, hSl⟩
  have hT : s.TypeIs (.ref it) "list_reverseiterator" := hit.typeIs
  have h1 : Builtin.List.listSameRef (.ref S) (.ref it) = false := by simp [Builtin.List.listSameRef, hSi]
  unfold Builtin.List.listExtendWith
  refine wpAny_bind (wpAny_typeOf hT ?_)
  rw [if_neg (by rw [h1]; decide)]
  refine wpAny_bind (wpAny_pyIter_revIter hit ?_)
  refine wpAny_bind (wpAny_holding ?_)
  unfold Builtin.List.listLengthHint
  refine wpAny_bind (wpAny_specialOf hT nolen_lri ?_)
  show wpAny _ A.in1 (specialOf (Value.ref it) (Str.ofString "__length_hint__") >>= _) _ _ _
  refine wpAny_bind (wpAny_specialOf hT hint_lri ?_)
  generalize hid : ("list_reverseiterator.__length_hint__" : String) = id0
  wp_delta
  rw [show splitId id0 = some ("list_reverseiterator", "__length_hint__") from by subst hid; decide +kernel]
  subst hid
  refine wpAny_bind (wpAny_isInstance (b := true) hT (by rw [isSubtype_type]; kernel_rfl) ?_)
  refine wpAny_pure ?_
  rw [if_neg (by decide)]
  have e0 : ((items.size : Nat) : Int) - 1 - ((0 : Nat) : Int) = (items.size : Int) - 1 := by omega
  refine wpAny_pure ⟨plainId_quiet F.plain_extend_loop _, codeAny_extend_loopS W hn _ hSf _ items.size 0 _ _ _ rfl (Nat.zero_le _) ⟨Nat.zero_le _, by rw [e0]; exact hit, hl⟩ hS (ItemsOf.nil _) fun s' acc' c' hm hS' hacc => ?_⟩
  exact hR s' acc' c' hm hS' hacc
theorem call_list_rev {it l : Addr} {items : Array Value} {Q : Value → Shared → Prop} (hh : A.handled = none) (hit : s.heap.IsRevIter it l ((items.size : Int) - 1)) (hl : s.heap.IsList l items) (hne : l ≠ it) (hn : items.size ≤ sizeLine)
    (hQ : ∀ (h' : Heap) (tk : Nat) (acc : Array Value) (c : Nat), (∀ b o, b ≠ it → s.heap.get? b = some o → h'.get? b = some o) → h'.get? s.heap.objs.size = some { cls := .type "list", dict := none, data := .seq acc c, slots := #[] } → ItemsOf (fun i v => items[items.size - 1 - i]? = some v) acc items.size →
      Q (.ref s.heap.objs.size) { s with heap := h', toks := tk }) :
    wpAny (model prog w) A (call (.type "list") [.ref it]) Q E s := by
  obtain ⟨oi, hoi, _⟩ := id hit
  obtain ⟨ol, hol, _⟩ := id hl
  have hSi : s.heap.objs.size ≠ it := Nat.ne_of_gt (Heap.lt_size hoi)
  have hSl : s.heap.objs.size ≠ l := Nat.ne_of_gt (Heap.lt_size hol)
  refine callType_codes (Q₁ := fun obj s₁ => obj = .ref s.heap.objs.size ∧ s₁ = { s with heap := s.heap.push { cls := .type "list", data := .seq #[] } }) F.called_list (F.typeCall_list_1 _) F.entry_list_init
    (code_list_new _ ⟨rfl, rfl⟩) fun obj s₁ h₁ => ?_
  obtain ⟨rfl, rfl⟩ := h₁
  have hS : (s.heap.push { cls := .type "list", data := .seq #[] }).get? s.heap.objs.size = some { cls := .type "list", data := .seq #[] } := Heap.get?_push_size _ rfl
  refine ⟨⟨_, hS, rfl⟩, F.args_list_init_2 _ _, ?_⟩
  show wpAny _ A.in1.in1 (do let old ← Builtin.List.listItems (.ref s.heap.objs.size); Builtin.List.listUpdate (.ref s.heap.objs.size) (fun _ => #[]); letGo old.toList.reverse; Builtin.List.listExtendWith (.ref s.heap.objs.size) (.ref it) .none) _ _ _
  refine wpAny_bind ?_
  unfold Builtin.List.listItems
  refine wpAny_bind (wpAny_seqItems hS rfl (wpAny_pure ?_))
  show wpAny _ A.in1.in1 (updateSeq s.heap.objs.size (fun _ => #[]) >>= fun _ => letGo (#[] : Array Value).toList.reverse >>= fun _ => Builtin.List.listExtendWith (.ref s.heap.objs.size) (.ref it) .none) _ _ _
  refine wpAny_bind (wpAny_updateSeq hS rfl ?_)
  have hS₂ := Heap.get?_update_self (Obj.mapSeq (fun _ => (#[] : Array Value))) hS rfl
  have oth : ∀ b o, b ≠ s.heap.objs.size → s.heap.get? b = some o → ((s.heap.push { cls := .type "list", data := .seq #[] }).update s.heap.objs.size (Obj.mapSeq (fun _ => (#[] : Array Value)))).get? b = some o :=
    fun b o hb e => (Heap.get?_update_other _ _ (Ne.symm hb)).trans (Heap.get?_push_of_some _ e)
  refine wpAny_bind (wpAny_letGo ?_)
  have hit1 : ((s.heap.push { cls := .type "list", data := .seq #[] }).update s.heap.objs.size (Obj.mapSeq (fun _ => (#[] : Array Value)))).IsRevIter it l ((items.size : Int) - 1) := hit.at fun o e => oth _ _ (Ne.symm hSi) e
  have hl1 : ((s.heap.push { cls := .type "list", data := .seq #[] }).update s.heap.objs.size (Obj.mapSeq (fun _ => (#[] : Array Value)))).IsList l items := by
    obtain ⟨o, ho, r⟩ := hl
    exact ⟨o, oth _ _ (Ne.symm hSl) ho, r⟩
  refine extend_rev (A := A.in1) (s := { s with heap := (s.heap.push { cls := .type "list", data := .seq #[] }).update s.heap.objs.size (Obj.mapSeq (fun _ => (#[] : Array Value))) }) (R := wants (fun r s₂ => r = .none ∧ Q (.ref s.heap.objs.size) s₂) E) hh hit1 hl1 hne hn _ .none _ hSi hSl hS₂ fun s' acc' c' hm hS' hacc => ?_
  refine ⟨rfl, ?_⟩
  rw [Moved.eq_with hm]
  refine hQ s'.heap s'.toks acc' c' (fun b o hb e => hm.heap b o (fun hmem => ?_) (oth b o ?_ e)) hS' hacc
  · rcases List.mem_cons.mp hmem with e' | hmem
    · exact absurd (Heap.lt_size e) (by rw [e']; exact Nat.lt_irrefl _)
    · exact hb (List.mem_singleton.mp hmem)
  · exact Nat.ne_of_lt (Heap.lt_size e)
end
end RT
namespace L2
open PySem PySem.Spec PyProof.Rows RT
/-- list(reversed(x)), x a list -/
def tLstRev (K : PySem.W.Frag) (te : TE) : TE := fun σ H Q => te σ H fun v H1 => ∃ (a : Addr) (xs : List V), v = .ref a ∧ SqL K H1 a xs ∧ ∀ q, H1 q = none → Q (.ref q) (upd H1 q (.lst xs.reverse))
section
variable {X : Cx}
theorem pe_lstRev {e : Expr} {te : TE} {p p2 pos pos2 : Pos} (hc : X.calm = true) (hg : Gl X "list") (hm : X.mg "list" = none) (hg2 : Gl X "reversed") (hm2 : X.mg "reversed" = none) (he : PE X e te)
    (hs : starEach [e] X.env = (false, eval e X.env) :: starEach [] X.env := by rfl)
    (hs2 : starEach [.Call (.Name "reversed" p2) [e] [] pos2] X.env = (false, eval (.Call (.Name "reversed" p2) [e] [] pos2) X.env) :: starEach [] X.env := by rfl) :
    PE X (.Call (.Name "list" p) [.Call (.Name "reversed" p2) [e] [] pos2] [] pos) (tLstRev X.K te) := by
  refine ⟨fun pins s σ H Q I h => ?_⟩
  refine Call_ (ld_blt I hg hm boot_list (PyProof.Rows.callWith_type1 (args_cons (Call_ (ld_blt I hg2 hm2 PyProof.Rows.boot_reversed (PyProof.Rows.callWith_type1 (args_cons (thn (he.run pins s σ H _ I h) fun u s1 ⟨v, H1, I1, r1, q1⟩ => args_nil ?_) hs) hs rfl))) hs2) hs2 rfl))
  obtain ⟨a, xs, ev, hq, q⟩ := q1
  subst ev
  obtain rfl : u = Value.ref a := r1
  obtain ⟨its, rv, p', hz⟩ := I1.list hq
  refine call_reversed_list p'.isList (args_nil ?_)
  have k0 : ∀ b o, s1.heap.get? b = some o → (s1.heap.push (revObj a ((its.toArray.size : Int) - 1))).get? b = some o := fun b o e => Heap.get?_push_of_some _ e
  have I2 : Inv X pins σ H1 { s1 with heap := s1.heap.push (revObj a ((its.toArray.size : Int) - 1)) } := I1.kept (t' := s1.toks) k0
  obtain ⟨f0, f1, f2, f3, f4, f5⟩ := I1.fpOk (H' := H1) (b := s1.heap.objs.size) (Nat.le_refl _) (I1.hok.fresh (Nat.le_refl _))
  have hl := p'.isList
  obtain ⟨ol, hol, _⟩ := id hl
  have hne : a ≠ s1.heap.objs.size := Nat.ne_of_lt (Heap.lt_size hol)
  have hn : its.toArray.size ≤ sizeLine := by rw [List.size_toArray, ← rv.length]; exact hz
  refine call_list_rev (s := { s1 with heap := s1.heap.push (revObj a ((its.toArray.size : Int) - 1)) }) (I1.ok.hd hc) ⟨_, Heap.get?_push_size _ rfl, rfl, rfl⟩ (hl.push _) hne hn fun h' tk acc c hk hS hi => ?_
  have I3 : Inv X pins σ (upd H1 (s1.heap.push (revObj a ((its.toArray.size : Int) - 1))).objs.size (.lst xs.reverse)) { s1 with heap := h', toks := tk } := by
    refine I2.turnedNew (t' := tk) (ch := [s1.heap.objs.size]) (fun b o hb e => hk b o (fun z => hb (by rw [z]; simp)) e) (fun b hb => ?_) (Nat.le_refl _) ?_
    · rw [List.mem_singleton.mp hb]
      exact ⟨f0, f1, f2, f3, f4, f5⟩
    · exact ⟨by rw [List.length_reverse]; exact hz, acc.toList, c, vals_rev rv hi, by rw [Array.toArray_toList]; exact hS⟩
  exact ⟨.ref _, _, I3, rfl, q _ (I2.hok.fresh (Nat.le_refl _))⟩
end
end L2
end
section
set_option Elab.async false
set_option linter.all false
set_option maxRecDepth 100000
set_option maxHeartbeats 8000000
namespace K2
open PySem PySem.Spec PyProof.Rows L2
theorem kbN {K : PySem.W.Frag} {x qual : Str} {params : Arguments} {body : List Stmt} {scope : Scope} {f : Addr} {fd : FuncData} {ps ks : List Str} {n : Nat} (F : FunD K x qual params body scope [] [] f fd) (g : {α : Type} → List α → List α → List α)
    (hrel : ∀ {vs zs : List V} {us ws : List Value}, Vals vs us → Vals zs ws → Vals (g vs zs) (g us ws))
    (h : ∀ (kV doc pm : Value) (an : Option Addr) (cdv ct : Value) (us ws : List Value), us.length = n → ws.length = ks.length → bindArgs (PySem.W.fnOf x qual params body scope .none kV doc pm an cdv ct) ⟨us, ks.zip ws⟩ = pure (ps.zip (g us ws))) :
    KBn K fd ps n ks (fun us ws => g us ws) (fun vs zs => g vs zs) := by
  obtain ⟨oc, od, dV, kV, doc, pm, an, cdv, ct, osl, rfl, lk, hcd, hD, hK⟩ := F.ex
  rcases hD with ⟨_, rfl⟩ | ⟨e, _⟩
  · exact ⟨fun s us ws _ l1 l2 => .of_eq (h kV doc pm an cdv ct us ws l1 l2), fun r1 r2 => hrel r1 r2⟩
  · exact absurd rfl e
/-- a new quarter of right lists -/
def spQuarter (CQ : Addr) : Sp := fun vs H Q _ => ∃ (l g : Addr) (ts : List (Addr × S5)) (gs : List Str), vs = [.ref l, .ref g] ∧ Sts H l ts ∧ SOk (snds ts) ∧ Ws H g gs ∧ GOk gs ∧
  ∀ q dx l' g' ts' gs' H', Same H H' → H q = none → H l' = none → H g' = none → QuP H' CQ q dx l' g' ts' gs' → ts'.Perm ts → Asc5 (snds ts') → gs'.Perm gs → Asc gs' → Q (.ref q) H'
def spTown (CT : Addr) : Sp := fun vs H Q _ => ∃ (l : Addr) (ts : List (Addr × S5)), vs = [.ref l] ∧ Sts H l ts ∧ SOk (snds ts) ∧
  ∀ q dx l' ts' H', Same H H' → H q = none → H l' = none → TwP H' CT q dx l' ts' → ts'.Perm ts → Asc5 (snds ts') → Q (.ref q) H'
theorem init_of {CQ : Addr} {H1 : Hp} {vs : List V} {Q : VK} (q : spQuarter CQ vs H1 Q E0) (x dx : Addr) (nx : H1 x = none) (ndx : H1 dx = none) (nex : dx ≠ x) :
    spInitQ CQ (.ref x :: vs) (upd (upd H1 dx (.own x)) x (.ins CQ dx [])) (fun v H2 => v = .non ∧ Q (.ref x) H2) E0 := by
  obtain ⟨l, g, ts, gs, rfl, hl, so, hg, go, q⟩ := q
  have s1 : Same H1 (upd (upd H1 dx (.own x)) x (.ins CQ dx [])) := same_trans (same_upd ndx) (same_upd (by rw [upd_ne (Ne.symm nex)]; exact nx))
  refine ⟨x, dx, l, g, ts, gs, rfl, upd_same, hl.keep s1, so, s1 _ _ hg, go, fun H' l' g' ts' gs' b nl ng hq pt as pg ag => ⟨rfl, ?_⟩⟩
  refine q x dx l' g' ts' gs' H' (fun a o e => b a o (ne_of_none e nx) (s1 _ _ e)) nx (s1.free nl) (s1.free ng) hq pt as pg ag
theorem init_ofT {CQ : Addr} {H1 : Hp} {vs : List V} {Q : VK} (q : spTown CQ vs H1 Q E0) (x dx : Addr) (nx : H1 x = none) (ndx : H1 dx = none) (nex : dx ≠ x) :
    spInitT CQ (.ref x :: vs) (upd (upd H1 dx (.own x)) x (.ins CQ dx [])) (fun v H2 => v = .non ∧ Q (.ref x) H2) E0 := by
  obtain ⟨l, ts, rfl, hl, so, q⟩ := q
  have s1 : Same H1 (upd (upd H1 dx (.own x)) x (.ins CQ dx [])) := same_trans (same_upd ndx) (same_upd (by rw [upd_ne (Ne.symm nex)]; exact nx))
  refine ⟨x, dx, l, ts, rfl, upd_same, hl.keep s1, so, fun H' l' ts' b nl hq pt as => ⟨rfl, ?_⟩⟩
  refine q x dx l' ts' H' (fun a o e => b a o (ne_of_none e nx) (s1 _ _ e)) nx (s1.free nl) hq pt as
/-- how a class is made -/
structure MkZ (P : Program) (w : World) (K : PySem.W.Frag) (mg : Str → Option Value) (base : Heap) (x : Str) (C : Addr) (ps : List Str) (ks : List Str) (sp : Sp) : Prop where
  ex : ∃ (f : Addr) (fd : FuncData), Mk K C f ∧ FnOk P w K mg base CX0 6 f fd ps sp ∧ Binds K fd ps [] ∧ (∃ (g : List Value → List Value → List Value) (gV : List V → List V → List V), KBn K fd ps 1 ks g gV ∧ (∀ x a b, ks.length = 2 → gV [x] [a, b] = [x, b, a]) ∧ ∀ x a, ks.length = 1 → gV [x] [a] = [x, a])
  mg : mg x = some (.ref C)
section
variable {X : Cx} {x : Str} {C : Addr} {p pos : Pos} {e : Expr} {es : List Expr} {kws : List Keyword} {t tk : TA} {ks : List Str}
theorem pe_qu (Z : MkZ X.prog X.w X.K X.mg X.base "Quarter" C ["self", "streets", "gates"] ks (spInitQ C)) (hr : Room 7 X.A) (hg : Gl X "Quarter") (ha : PA X (e :: es) t)
    (he : starEach (e :: es) X.env = (false, eval e X.env) :: starEach es X.env := by rfl) (hpl : (backTo pos (starEach es X.env)).any (·.1) = false := by rfl) :
    PE X (.Call (.Name "Quarter" p) (e :: es) [] pos) (tCall (spQuarter C) [] E0 t) := by
  obtain ⟨f, fd, M, F, hb, _⟩ := Z.ex
  refine ⟨fun pins s σ H Q I h => ?_⟩
  refine wpAny_Call_Name_kw (ld_glob I hg Z.mg ?_ (by decide))
  refine PySem.W.callWith_K (h₀ := X.base) I.ok.mod.kin M.kp (thn (ha.run pos pins s σ H _ I h) fun us s1 ⟨vs, H1, I1, r, q⟩ => ⟨I1.kIn, ?_⟩) he hpl
  have q : spQuarter C vs H1 Q E0 := by
    have q' : spQuarter C (vs ++ []) H1 Q E0 := q
    rw [List.append_nil] at q'
    exact q'
  refine run_make M F hr hb (dvs := []) .nil pass0 I1 r fun x dx nx ndx nex => ?_
  rw [List.append_nil]
  exact init_of q x dx nx ndx nex
theorem pe_tw (Z : MkZ X.prog X.w X.K X.mg X.base "Town" C ["self", "streets"] ks (spInitT C)) (hr : Room 7 X.A) (hg : Gl X "Town") (ha : PA X (e :: es) t)
    (he : starEach (e :: es) X.env = (false, eval e X.env) :: starEach es X.env := by rfl) (hpl : (backTo pos (starEach es X.env)).any (·.1) = false := by rfl) :
    PE X (.Call (.Name "Town" p) (e :: es) [] pos) (tCall (spTown C) [] E0 t) := by
  obtain ⟨f, fd, M, F, hb, _⟩ := Z.ex
  refine ⟨fun pins s σ H Q I h => ?_⟩
  refine wpAny_Call_Name_kw (ld_glob I hg Z.mg ?_ (by decide))
  refine PySem.W.callWith_K (h₀ := X.base) I.ok.mod.kin M.kp (thn (ha.run pos pins s σ H _ I h) fun us s1 ⟨vs, H1, I1, r, q⟩ => ⟨I1.kIn, ?_⟩) he hpl
  have q : spTown C vs H1 Q E0 := by
    have q' : spTown C (vs ++ []) H1 Q E0 := q
    rw [List.append_nil] at q'
    exact q'
  refine run_make M F hr hb (dvs := []) .nil pass0 I1 r fun x dx nx ndx nex => ?_
  rw [List.append_nil]
  exact init_ofT q x dx nx ndx nex
/-- Quarter(gates=g, streets=l) -/
def tQuK (C : Addr) (tk : TA) : TE := fun σ H Q => tk σ H fun zs H2 => ∃ g l, zs = [g, l] ∧ spQuarter C [l, g] H2 Q E0
def tTwK (C : Addr) (tk : TA) : TE := fun σ H Q => tk σ H fun zs H2 => ∃ l, zs = [l] ∧ spTown C [l] H2 Q E0
theorem pe_quK (Z : MkZ X.prog X.w X.K X.mg X.base "Quarter" C ["self", "streets", "gates"] ["gates", "streets"] (spInitQ C)) (hr : Room 7 X.A) (hg : Gl X "Quarter") (hkw : PK X kws tk)
    (hall : (backToKw pos (keywordEach kws X.env)).all (·.1.isSome) = true := by rfl) (hks : (backToKw pos (keywordEach kws X.env)).filterMap (·.1) = (["gates", "streets"] : List Str) := by rfl)
    (hpl : ((backTo pos (starEach [] X.env)).any (·.1) || (backToKw pos (keywordEach kws X.env)).any (·.1.isNone)) = false := by rfl) : PE X (.Call (.Name "Quarter" p) [] kws pos) (tQuK C tk) := by
  obtain ⟨f, fd, M, F, _, g, gV, hb, e2, _⟩ := Z.ex
  refine ⟨fun pins s σ H Q I h => ?_⟩
  refine wpAny_Call_Name_kw (ld_glob I hg Z.mg ?_ (by decide))
  refine PySem.W.callWith_KW0 (h₀ := X.base) I.ok.mod.kin M.kp hall ?_ hpl
  refine thn (hkw.run pos pins s σ H _ I h) fun ws s2 ⟨zs, H2, I2, rz, q2⟩ => ⟨I2.kIn, ?_⟩
  obtain ⟨a, b, rfl, q⟩ := q2
  rw [hks]
  refine run_makeK (n := 0) (us := []) (vs := []) M F hr hb pass0 I2 .nil rz rfl rfl fun x dx nx ndx nex => ?_
  rw [e2 _ _ _ rfl]
  exact init_of q x dx nx ndx nex
theorem pe_twK (Z : MkZ X.prog X.w X.K X.mg X.base "Town" C ["self", "streets"] ["streets"] (spInitT C)) (hr : Room 7 X.A) (hg : Gl X "Town") (hkw : PK X kws tk)
    (hall : (backToKw pos (keywordEach kws X.env)).all (·.1.isSome) = true := by rfl) (hks : (backToKw pos (keywordEach kws X.env)).filterMap (·.1) = (["streets"] : List Str) := by rfl)
    (hpl : ((backTo pos (starEach [] X.env)).any (·.1) || (backToKw pos (keywordEach kws X.env)).any (·.1.isNone)) = false := by rfl) : PE X (.Call (.Name "Town" p) [] kws pos) (tTwK C tk) := by
  obtain ⟨f, fd, M, F, _, g, gV, hb, _, e2⟩ := Z.ex
  refine ⟨fun pins s σ H Q I h => ?_⟩
  refine wpAny_Call_Name_kw (ld_glob I hg Z.mg ?_ (by decide))
  refine PySem.W.callWith_KW0 (h₀ := X.base) I.ok.mod.kin M.kp hall ?_ hpl
  refine thn (hkw.run pos pins s σ H _ I h) fun ws s2 ⟨zs, H2, I2, rz, q2⟩ => ⟨I2.kIn, ?_⟩
  obtain ⟨a, rfl, q⟩ := q2
  rw [hks]
  refine run_makeK (n := 0) (us := []) (vs := []) M F hr hb pass0 I2 .nil rz rfl rfl fun x dx nx ndx nex => ?_
  rw [e2 _ _ rfl]
  exact init_ofT q x dx nx ndx nex
end
section
variable {P : Program} {w : World} {K : PySem.W.Frag} {mg : Str → Option Value} {base : Heap}
abbrev MkQ (P : Program) (w : World) (K : PySem.W.Frag) (mg : Str → Option Value) (base : Heap) (CQ : Addr) : Prop := MkZ P w K mg base "Quarter" CQ ["self", "streets", "gates"] ["gates", "streets"] (spInitQ CQ)
abbrev MkT (P : Program) (w : World) (K : PySem.W.Frag) (mg : Str → Option Value) (base : Heap) (CT : Addr) : Prop := MkZ P w K mg base "Town" CT ["self", "streets"] ["streets"] (spInitT CT)
theorem mkQ_of {CQ f : Addr} {fd : FuncData} (F : FnM K "__init__" "Quarter.__init__" sQInit f fd) (M : Mk K CQ f) (hm : mg "Quarter" = some (.ref CQ)) (G : FnOk P w K mg base CX0 6 f fd ["self", "streets", "gates"] (spInitQ CQ)) : MkQ P w K mg base CQ := by
  refine ⟨⟨f, fd, M, G, FunD.bindsN F fun _ _ _ _ _ _ us hl => match us, hl with | [_, _, _], _ => rfl, _, _, kbN (n := 1) (ks := ["gates", "streets"]) F (fun us ws => us ++ ws.reverse) (fun r1 r2 => r1.append r2.reverse) (fun _ _ _ _ _ _ us ws h1 h2 => match us, ws, h1, h2 with | [_], [_, _], _, _ => rfl), fun _ _ _ _ => rfl, fun _ _ z => absurd z (by decide)⟩, hm⟩
theorem mkT_of {CT f : Addr} {fd : FuncData} (F : FnM K "__init__" "Town.__init__" sTInit f fd) (M : Mk K CT f) (hm : mg "Town" = some (.ref CT)) (G : FnOk P w K mg base CX0 6 f fd ["self", "streets"] (spInitT CT)) : MkT P w K mg base CT := by
  refine ⟨⟨f, fd, M, G, FunD.bindsN F fun _ _ _ _ _ _ us hl => match us, hl with | [_, _], _ => rfl, _, _, kbN (n := 1) (ks := ["streets"]) F (fun us ws => us ++ ws) (fun r1 r2 => r1.append r2) (fun _ _ _ _ _ _ us ws h1 h2 => match us, ws, h1, h2 with | [_], [_], _, _ => rfl), fun _ _ _ z => absurd z (by decide), fun _ _ _ => rfl⟩, hm⟩
end
end K2
end
section
set_option Elab.async false
set_option linter.all false
set_option maxRecDepth 100000
set_option maxHeartbeats 8000000
namespace K2
open PySem PySem.Spec PyProof.Rows L2
/-! ### lists as data -/
theorem dt_sts {H : Hp} : ∀ {ts : List (Addr × S5)}, (∀ t ∈ ts, H t.1 = some (.tup t.2.vals)) → DtAll H (ts.map fun t => V.ref t.1) ((snds ts).map S5.data)
  | [], _ => .nil
  | t :: ts, h => .cons (.tup (h t List.mem_cons_self) (.cons (.str _) (.cons (.str _) (.cons (.str _) (.cons (.int _) (.cons (.int _) .nil)))))) (dt_sts fun u hu => h u (List.mem_cons_of_mem _ hu))
theorem Sts.dt {H : Hp} {l : Addr} {ts : List (Addr × S5)} (h : Sts H l ts) : Dt H (.ref l) (.list ((snds ts).map S5.data)) := .lst h.1 (dt_sts h.2)
theorem dt_strs {H : Hp} : ∀ ws : List Str, DtAll H (ws.map V.str) (ws.map PyData.str)
  | [] => .nil
  | w :: ws => .cons (.str w) (dt_strs ws)
theorem dt_ws {H : Hp} {l : Addr} {gs : List Str} (h : Ws H l gs) : Dt H (.ref l) (.list (gs.map PyData.str)) := .lst h (dt_strs gs)
theorem widAll_sts : ∀ ss : List S5, widAll (ss.map S5.data) ≤ 5
  | [] => by simp [widAll]
  | s :: ss => by
    have ih := widAll_sts ss
    have h : wid s.data ≤ 5 := by simp [S5.data, wid, widAll]
    rw [List.map_cons, widAll]
    omega
theorem widAll_strs : ∀ ws : List Str, widAll (ws.map PyData.str) = 0
  | [] => by simp [widAll]
  | s :: ss => by
    have h : wid (.str s) = 0 := by simp [wid]
    rw [List.map_cons, widAll, widAll_strs ss, h]
    rfl
theorem wid_sts {ss : List S5} (h : ss.length ≤ 1000) : wid (.list (ss.map S5.data)) ≤ 1000 := by
  have := widAll_sts ss
  rw [wid, List.length_map]
  omega
theorem wid_strs {ws : List Str} (h : ws.length ≤ 1000) : wid (.list (ws.map PyData.str)) ≤ 1000 := by
  rw [wid, List.length_map, widAll_strs]
  omega
theorem dep_sts (ss : List S5) : PyData.depth (.list (ss.map S5.data)) ≤ 4 := by
  have := depth_sts ss
  rw [PyData.depth]
  omega
theorem dep_strs (ws : List Str) : PyData.depth (.list (ws.map PyData.str)) ≤ 4 := by
  have := depth_strs ws
  rw [PyData.depth]
  omega
theorem dep_two {a b : PyData} (ha : PyData.depth a ≤ 4) (hb : PyData.depth b ≤ 4) : PyData.depth (.list [a, b]) ≤ 5 := by
  simp only [PyData.depth, PyData.depthAll]
  omega
theorem dep_three {a b c : PyData} (ha : PyData.depth a ≤ 4) (hb : PyData.depth b ≤ 4) (hc : PyData.depth c ≤ 4) : PyData.depth (.list [a, b, c]) ≤ 5 := by
  simp only [PyData.depth, PyData.depthAll]
  omega
theorem wid_two {a b : PyData} (ha : wid a ≤ 1000) (hb : wid b ≤ 1000) : wid (.list [a, b]) ≤ 1000 := by
  simp only [wid, widAll, List.length_cons, List.length_nil]
  omega
theorem wid_three {a b c : PyData} (ha : wid a ≤ 1000) (hb : wid b ≤ 1000) (hc : wid c ≤ 1000) : wid (.list [a, b, c]) ≤ 1000 := by
  simp only [wid, widAll, List.length_cons, List.length_nil]
  omega
theorem ends_perm {ss ss' : List S5} (p : ss.Perm ss') (x : Str) : x ∈ ends ss ↔ x ∈ ends ss' := by
  unfold ends
  rw [List.mem_append, List.mem_append, (p.map S5.st).mem_iff, (p.map S5.en).mem_iff]
section
variable {P : Program} {w : World} {K : PySem.W.Frag} {mg : Str → Option Value} {base : Heap}
/-- what the law's own judges of one object want -/
structure Jd (P : Program) (w : World) (K : PySem.W.Frag) (mg : Str → Option Value) (base : Heap) (CQ CT : Addr) : Prop where
  ms : Ms P w K mg base CQ CT
  ex : Fz P w K mg base "_law_exact" 6 ["_law_one", "_law_other"] (spExact 5)
  en : Fz P w K mg base "_law_ends" 1 ["_law_streets", "_law_gates"] spEndsL
  sp : Fz P w K mg base "_law_spots" 1 ["_law_streets"] spSpots
  cr : Fz P w K mg base "crossings_of" 2 ["quarter"] (spCross CQ)
  so : Fz P w K mg base "street_of" 2 ["quarter", "name"] (spStreetOf CQ)
  pl : Fz P w K mg base "places_of" 2 ["town"] (spPlaces CT)
  ak : Fz P w K mg base "asked_of" 3 ["quarter", "town"] (spAsked CQ CT)
/-- q is the quarter of these -/
structure IsQ (H : Hp) (CQ q : Addr) (ss : List S5) (gs : List Str) : Prop where
  ex : ∃ dx l g ts hs, QuP H CQ q dx l g ts hs ∧ (snds ts).Perm ss ∧ Asc5 (snds ts) ∧ hs.Perm gs ∧ Asc hs
  so : SOk ss
  go : GOk gs
structure IsT (H : Hp) (CT q : Addr) (ss : List S5) : Prop where
  ex : ∃ dx l ts, TwP H CT q dx l ts ∧ (snds ts).Perm ss ∧ Asc5 (snds ts)
  so : SOk ss
theorem IsQ.keep {H H' : Hp} {CQ q : Addr} {ss : List S5} {gs : List Str} (h : IsQ H CQ q ss gs) (s : Same H H') : IsQ H' CQ q ss gs := by
  obtain ⟨⟨dx, l, g, ts, hs, a, r⟩, so, go⟩ := h
  exact ⟨⟨dx, l, g, ts, hs, a.keep s, r⟩, so, go⟩
theorem IsT.keep {H H' : Hp} {CQ q : Addr} {ss : List S5} (h : IsT H CQ q ss) (s : Same H H') : IsT H' CQ q ss := by
  obtain ⟨⟨dx, l, ts, a, r⟩, so⟩ := h
  exact ⟨⟨dx, l, ts, a.keep s, r⟩, so⟩
theorem SOk.perm {ss ss' : List S5} (h : SOk ss) (p : ss'.Perm ss) : SOk ss' := ⟨fun s hs => h.ok s (p.mem_iff.mp hs), (p.map S5.nm).nodup_iff.mpr h.nd, by rw [p.length_eq]; exact h.l⟩
theorem GOk.perm {gs gs' : List Str} (h : GOk gs) (p : gs'.Perm gs) : GOk gs' := ⟨fun s hs => h.wd s (p.mem_iff.mp hs), p.nodup_iff.mpr h.nd, fun e => h.ne (by rw [e] at p; exact p.symm.eq_nil), by rw [p.length_eq]; exact h.l⟩
/-! ### _law_quarter_right -/
def spQRight (CQ : Addr) : Sp := fun vs H Q _ => ∃ (q l g : Addr) (ts : List (Addr × S5)) (gs : List Str), vs = [.ref q, .ref l, .ref g] ∧ IsQ H CQ q (snds ts) gs ∧ Sts H l ts ∧ Ws H g gs ∧ gs.length + 2 * ts.length ≤ 63 ∧
  ∀ H', Same H H' → Q (.bl true) H'
abbrev NQR : List Str := ["_law_made", "_law_streets", "_law_gates", "_law_street"]
theorem scQRight : FnScope NQR ["_law_made", "_law_streets", "_law_gates"] (defScope sQRight) := ⟨rfl, rfl, rfl, by decide +kernel, rfl, by decide +kernel, by decide +kernel⟩
theorem ok_qRight {CQ CT : Addr} {f : Addr} {fd : FuncData} (F : FnP K "_law_quarter_right" sQRight f fd) (J : Jd P w K mg base CQ CT) (T : Tx K mg) : FnOk P w K mg base CX0 7 f fd ["_law_made", "_law_streets", "_law_gates"] (spQRight CQ) := by
  refine F.ok scQRight (fun vs H Q E h => ?_) (fun cdv A outer s H vs Q E hr h => ?_)
  · obtain ⟨_, _, _, _, _, rfl, _⟩ := h
    rfl
  · obtain ⟨q, l, g, ts, gs, rfl, ⟨⟨dx, ml, mg', mts, mgs, hq, pt, as, pg, ag⟩, so, go⟩, hl, hg, h63, z⟩ := h
    have gSo := T.fr "sorted" (by decide +kernel)
    have gLi := T.fr "list" (by decide +kernel)
    have sl := sizeLine_eq
    have r1 : Room 1 (A.deeper (envOfC "_law_quarter_right" (defScope sQRight) s.heap.objs.size f cdv)) := hr.mono (by decide)
    have r2 : Room 2 (A.deeper (envOfC "_law_quarter_right" (defScope sQRight) s.heap.objs.size f cdv)) := hr.mono (by decide)
    refine ⟨_, PSs.nox (pss_cons (ps_if (pt_not (pt_val (pe_fz J.ex hr (by rfl) (pa_cons (pe_lst (pa_cons (pe_mz J.ms.qs (pv 0) r1) (pa_cons (pe_mz J.ms.qg (pv 0) r1) (pa_cons (pe_fz J.cr r2 (by rfl) (pa_cons (pv 0) pa_nil)) pa_nil))))
        (pa_cons (pe_lst (pa_cons (pe_callB cr_sortedTx (by rfl) gSo (by decide +kernel) (pa_cons (pv 1) pa_nil)) (pa_cons (pe_callB cr_sortedS (by rfl) gSo (by decide +kernel) (pa_cons (pv 2) pa_nil)) (pa_cons (pe_fz J.en r1 (by rfl) (pa_cons (pv 1) (pa_cons (pv 2) pa_nil))) pa_nil)))) pa_nil)))))
        (pss_one (ps_ret pe_bl)) pss_nil)
      (pss_one (ps_ret (pe_fz J.ex hr (by rfl) (pa_cons (pe_lc (own := [("_law_street", 3)]) (g := gName 3) (tt := tYes) (te := tCall (spStreetOf CQ) [] E0 (tCons (tVar 0) (tCons (tOp (rIxT K) (tVar 3) (tC (.int 0))) tNil))) rfl scQRight.nd (pi_list (pv 1)) (blkOk_by (own := [("_law_street", 3)]) (N := NQR) (sc := defScope sQRight) (by decide +kernel))
          (fun _ _ _ _ _ => pg_name (i := 3) scQRight.nd rfl (Or.inl rfl)) (fun _ _ _ _ _ => pts_nil) (fun _ _ _ _ _ => pe_fz J.so r2 (by rfl) (pa_cons (pv 0) (pa_cons (pe_ix ix_tup (pv 3) pe_int (fun _ _ => rfl)) pa_nil))))
        (pa_cons (pe_callTy call_list_of (by rfl) gLi (by decide +kernel) (pa_cons (pv 1) pa_nil)) pa_nil)))))), ?_⟩
    have lm := pt.length_eq
    rw [List.length_map, List.length_map] at lm
    have gl := pg.length_eq
    have s60 := so.l
    have g60 := go.l
    rw [List.length_map] at s60
    -- made.streets()
    refine ⟨_, rfl, q, dx, _, rfl, hq.at_, rfl, q, dx, ml, _, _, rfl, hq.at_, rfl, hq.s.1, fun D1 n1 => ?_⟩
    have s1 := same_upd (o := .lst (mts.map fun t => V.ref t.1)) n1
    have hD1 : Sts (upd H D1 (.lst (mts.map fun t => V.ref t.1))) D1 mts := ⟨upd_same, fun t ht => s1 _ _ (hq.s.2 t ht)⟩
    generalize upd H D1 (.lst (mts.map fun t => V.ref t.1)) = H1 at s1 hD1 ⊢
    have hq1 := hq.keep s1
    refine ⟨_, rfl, q, dx, _, rfl, hq1.at_, rfl, q, dx, mg', _, _, rfl, hq1.at_, rfl, hq1.g, fun D2 n2 => ?_⟩
    have s2 := same_upd (o := .lst (mgs.map V.str)) n2
    have hD2 : Ws (upd H1 D2 (.lst (mgs.map V.str))) D2 mgs := upd_same
    generalize upd H1 D2 (.lst (mgs.map V.str)) = H2 at s2 hD2 ⊢
    have hq2 := hq1.keep s2
    refine ⟨_, rfl, q, dx, ml, mg', mts, mgs, rfl, hq2, by omega, by omega, fun D3 us H3 s3 n3 tus hD3 => ?_⟩
    refine ⟨(by show 3 ≤ sizeLine; decide +kernel), fun L1 nL1 => ?_⟩
    have s4 := same_upd (o := .lst [V.ref D1, V.ref D2, V.ref D3]) nL1
    have hL1 : upd H3 L1 (.lst [V.ref D1, V.ref D2, V.ref D3]) L1 = some (.lst [V.ref D1, V.ref D2, V.ref D3]) := upd_same
    generalize upd H3 L1 (.lst [V.ref D1, V.ref D2, V.ref D3]) = H4 at s4 hL1 ⊢
    have s24 := same_trans s3 s4
    have s04 := same_trans s1 (same_trans s2 s24)
    -- sorted(streets), sorted(gates), ends
    have hl4 := hl.keep s04
    refine ⟨_, rfl, l, _, nameAt H4, rfl, SqL.of hl4.1, sort_a hl4, sort_b hl4 so.nd, fun ys E1 pm pw nE1 => ?_⟩
    obtain ⟨ts', pt', as', rfl⟩ := sort_c hl4 pm pw
    have s5 := same_upd (o := .lst (ts'.map fun t => V.ref t.1)) nE1
    have hE1 : Sts (upd H4 E1 (.lst (ts'.map fun t => V.ref t.1))) E1 ts' := ⟨upd_same, fun t ht => s5 _ _ (hl4.2 t (pt'.mem_iff.mp ht))⟩
    generalize upd H4 E1 (.lst (ts'.map fun t => V.ref t.1)) = H5 at s5 hE1 ⊢
    have s05 := same_trans s04 s5
    refine ⟨_, rfl, g, gs, rfl, SqL.of (s05 _ _ hg), by omega, fun gs' E2 pg' sg' nE2 => ?_⟩
    have s6 := same_upd (o := .lst (gs'.map V.str)) nE2
    have hE2 : Ws (upd H5 E2 (.lst (gs'.map V.str))) E2 gs' := upd_same
    generalize upd H5 E2 (.lst (gs'.map V.str)) = H6 at s6 hE2 ⊢
    have s06 := same_trans s05 s6
    refine ⟨_, rfl, _, rfl, l, g, ts, gs, rfl, hl.keep s06, fun t ht => (so.ok t.2 (List.mem_map.mpr ⟨t, ht, rfl⟩)).2.2.2.1, s06 _ _ hg, go.nd, h63, fun E3 vs H7 s7 nE3 tvs hE3 => ?_⟩
    refine ⟨(by show 3 ≤ sizeLine; decide +kernel), fun L2 nL2 => ?_⟩
    have s8 := same_upd (o := .lst [V.ref E1, V.ref E2, V.ref E3]) nL2
    have hL2 : upd H7 L2 (.lst [V.ref E1, V.ref E2, V.ref E3]) L2 = some (.lst [V.ref E1, V.ref E2, V.ref E3]) := upd_same
    generalize upd H7 L2 (.lst [V.ref E1, V.ref E2, V.ref E3]) = H8 at s8 hL2 ⊢
    have s48 := same_trans s5 (same_trans s6 (same_trans s7 s8))
    have s08 := same_trans s04 s48
    have e1 : snds ts' = snds mts := asc5_uniq (so.perm (pt'.map fun t => t.2)).nd ((pt'.map fun t => t.2).trans pt.symm) as' as
    have e2 : gs' = mgs := asc_uniq (pg'.trans pg.symm) (asc_of_sortedS sg') ag
    have e3 : vs = us := Told.uniq tvs tus fun x => by
      rw [List.mem_append, List.mem_append, ends_perm pt, pg.mem_iff]
    subst e2 e3
    have vl : vs.length ≤ 1000 := by
      have h1 := len_le_of_sub vs (ends (snds ts) ++ gs) tvs.nd fun x hx => (tvs.mem x).mp hx
      have h2 := ends_len (snds ts)
      rw [List.length_map] at h2
      rw [List.length_append] at h1
      omega
    have a1 : DtAll H8 [V.ref D1, V.ref D2, V.ref D3] [.list ((snds mts).map S5.data), .list (gs'.map PyData.str), .list (vs.map PyData.str)] :=
      .cons ((hD1.keep (same_trans s2 (same_trans s24 s48))).dt) (.cons (dt_ws ((same_trans s24 s48) _ _ hD2)) (.cons (dt_ws ((same_trans s4 s48) _ _ hD3)) .nil))
    have a2 : DtAll H8 [V.ref E1, V.ref E2, V.ref E3] [.list ((snds mts).map S5.data), .list (gs'.map PyData.str), .list (vs.map PyData.str)] := by
      have h1 := (hE1.keep (same_trans s6 (same_trans s7 s8))).dt
      rw [e1] at h1
      exact .cons h1 (.cons (dt_ws ((same_trans s7 s8) _ _ hE2)) (.cons (dt_ws (s8 _ _ hE3)) .nil))
    refine ⟨_, _, _, rfl, .lst (s48 _ _ hL1) a1, .lst hL2 a2, dep_three (dep_sts _) (dep_strs _) (dep_strs _), wid_three (wid_sts (by rw [List.length_map]; omega)) (wid_strs (by omega)) (wid_strs vl), fun H9 s9 => ⟨_, rfl, ifF (by decide) ?_⟩⟩
    have s09 := same_trans s08 s9
    have hl9 := hl.keep s09
    have hq9 := hq.keep s09
    refine ⟨_, rfl, l, rfl, ⟨_, SqL.of hl9.1⟩, fun D nD => ?_⟩
    refine lc_list (K := K) (a := l) (xs := ts.map fun t => V.ref t.1) (fun j H' => Same H9 H' ∧ ∃ us : List (Addr × S5), Sts H' D us ∧ snds us = (snds ts).take j) ⟨same_upd nD, [], ⟨upd_same, fun t ht => by simp at ht⟩, rfl⟩ (fun j H' _ h => SqL.of (h.1 _ _ hl9.1)) ?_ ?_
    · rintro j x H' hj ⟨s10, us', hus, eus⟩
      obtain ⟨t, ht, rfl⟩ := at_map hj
      have tm := List.mem_of_getElem? ht
      have lt := (List.getElem?_eq_some_iff.mp ht).1
      have ht2 : (snds ts)[j]? = some t.2 := by
        rw [List.getElem?_map, ht]
        rfl
      have tin : t.2 ∈ snds mts := pt.mem_iff.mpr (List.mem_map.mpr ⟨t, tm, rfl⟩)
      obtain ⟨t', ht', et⟩ := List.mem_map.mp tin
      have hq10 := hq9.keep s10
      refine ⟨rfl, _, rfl, _, rfl, t.1, _, ((0 : Nat) : Int), _, rfl, rfl, SqT.of (s10 _ _ (hl9.2 t tm)), atI_nat rfl, q, dx, ml, mg', mts, gs', t', ?_, hq10, ht', ?_, fun H11 s11 => ?_⟩
      · rw [et]
        rfl
      · rw [nms_snds]
        exact (so.perm pt).nd
      · have ul : us'.length ≤ j := by
          have := congrArg List.length eus
          rw [List.length_map, List.length_take] at this
          omega
        have hus11 := hus.keep s11
        refine ⟨_, hus11.1, by rw [List.length_map]; omega, fun b o eb => ?_, us' ++ [t'], ⟨?_, fun u hu => ?_⟩, ?_⟩
        · rw [upd_ne (ne_of_none eb nD)]
          exact s11 _ _ (s10 _ _ eb)
        · rw [upd_same, List.map_append]
          rfl
        · have hu0 : H11 u.1 = some (.tup u.2.vals) := by
            rcases List.mem_append.mp hu with h | h
            · exact hus11.2 u h
            · rw [List.mem_singleton.mp h]
              exact s11 _ _ (hq10.s.2 t' ht')
          rw [upd_ne (fun e => by rw [e] at hu0; rw [hus11.1] at hu0; cases hu0)]
          exact hu0
        · rw [List.take_add_one, ht2]
          show ((us' ++ [t']).map fun t => t.2) = _
          rw [List.map_append]
          show snds us' ++ [t'.2] = _
          rw [eus, et]
          rfl
    · rintro H10 ⟨s10, us', hus, eus⟩
      rw [List.take_of_length_le (by rw [List.length_map, List.length_map]; exact Nat.le_refl _)] at eus
      have s010 := same_trans s09 s10
      refine ⟨_, rfl, l, _, rfl, Or.inl (SqL.of (hl.keep s010).1), fun L3 nL3 => ?_⟩
      have s11 := same_upd (o := .lst (ts.map fun t => V.ref t.1)) nL3
      have h1 := (hus.keep s11).dt
      rw [eus] at h1
      have h2 : Sts (upd H10 L3 (.lst (ts.map fun t => V.ref t.1))) L3 ts := ⟨upd_same, fun t ht => s11 _ _ ((hl.keep s010).2 t ht)⟩
      exact ⟨_, _, _, rfl, h1, h2.dt, Nat.le_trans (dep_sts _) (by decide), wid_sts (by rw [List.length_map]; omega), fun H12 s12 => z H12 (same_trans s010 (same_trans s11 s12))⟩
/-! ### _law_town_right -/
def spTRight (CT : Addr) : Sp := fun vs H Q _ => ∃ (q l : Addr) (ts : List (Addr × S5)), vs = [.ref q, .ref l] ∧ IsT H CT q (snds ts) ∧ Sts H l ts ∧ 2 * ts.length ≤ 63 ∧ ∀ H', Same H H' → Q (.bl true) H'
theorem scTRight : FnScope ["_law_made", "_law_streets"] ["_law_made", "_law_streets"] (defScope sTRight) := ⟨rfl, rfl, rfl, by decide +kernel, rfl, by decide +kernel, by decide +kernel⟩
theorem ok_tRight {CQ CT : Addr} {f : Addr} {fd : FuncData} (F : FnP K "_law_town_right" sTRight f fd) (J : Jd P w K mg base CQ CT) (T : Tx K mg) : FnOk P w K mg base CX0 7 f fd ["_law_made", "_law_streets"] (spTRight CT) := by
  refine F.ok scTRight (fun vs H Q E h => ?_) (fun cdv A outer s H vs Q E hr h => ?_)
  · obtain ⟨_, _, _, rfl, _⟩ := h
    rfl
  · obtain ⟨q, l, ts, rfl, ⟨⟨dx, ml, mts, hq, pt, as⟩, so⟩, hl, h63, z⟩ := h
    have gSo := T.fr "sorted" (by decide +kernel)
    have sl := sizeLine_eq
    have r1 : Room 1 (A.deeper (envOfC "_law_town_right" (defScope sTRight) s.heap.objs.size f cdv)) := hr.mono (by decide)
    have r2 : Room 2 (A.deeper (envOfC "_law_town_right" (defScope sTRight) s.heap.objs.size f cdv)) := hr.mono (by decide)
    refine ⟨_, PSs.nox (pss_one (ps_ret (pe_fz J.ex hr (by rfl) (pa_cons (pe_lst (pa_cons (pe_mz J.ms.ts (pv 0) r1) (pa_cons (pe_fz J.pl r2 (by rfl) (pa_cons (pv 0) pa_nil)) pa_nil)))
        (pa_cons (pe_lst (pa_cons (pe_callB cr_sortedTx (by rfl) gSo (by decide +kernel) (pa_cons (pv 1) pa_nil)) (pa_cons (pe_fz J.sp r1 (by rfl) (pa_cons (pv 1) pa_nil)) pa_nil))) pa_nil))))), ?_⟩
    have lm := pt.length_eq
    rw [List.length_map, List.length_map] at lm
    have s60 := so.l
    rw [List.length_map] at s60
    refine ⟨_, rfl, q, dx, _, rfl, hq.at_, rfl, q, dx, ml, _, _, rfl, hq.at_, rfl, hq.s.1, fun D1 n1 => ?_⟩
    have s1 := same_upd (o := .lst (mts.map fun t => V.ref t.1)) n1
    have hD1 : Sts (upd H D1 (.lst (mts.map fun t => V.ref t.1))) D1 mts := ⟨upd_same, fun t ht => s1 _ _ (hq.s.2 t ht)⟩
    generalize upd H D1 (.lst (mts.map fun t => V.ref t.1)) = H1 at s1 hD1 ⊢
    have hq1 := hq.keep s1
    refine ⟨_, rfl, q, dx, ml, mts, rfl, hq1, by omega, fun D3 us H3 s3 n3 tus hD3 => ?_⟩
    refine ⟨(by show 2 ≤ sizeLine; decide +kernel), fun L1 nL1 => ?_⟩
    have s4 := same_upd (o := .lst [V.ref D1, V.ref D3]) nL1
    have hL1 : upd H3 L1 (.lst [V.ref D1, V.ref D3]) L1 = some (.lst [V.ref D1, V.ref D3]) := upd_same
    generalize upd H3 L1 (.lst [V.ref D1, V.ref D3]) = H4 at s4 hL1 ⊢
    have s04 := same_trans s1 (same_trans s3 s4)
    have hl4 := hl.keep s04
    refine ⟨_, rfl, l, _, nameAt H4, rfl, SqL.of hl4.1, sort_a hl4, sort_b hl4 so.nd, fun ys E1 pm pw nE1 => ?_⟩
    obtain ⟨ts', pt', as', rfl⟩ := sort_c hl4 pm pw
    have s5 := same_upd (o := .lst (ts'.map fun t => V.ref t.1)) nE1
    have hE1 : Sts (upd H4 E1 (.lst (ts'.map fun t => V.ref t.1))) E1 ts' := ⟨upd_same, fun t ht => s5 _ _ (hl4.2 t (pt'.mem_iff.mp ht))⟩
    generalize upd H4 E1 (.lst (ts'.map fun t => V.ref t.1)) = H5 at s5 hE1 ⊢
    have s05 := same_trans s04 s5
    refine ⟨_, rfl, l, ts, rfl, hl.keep s05, fun t ht => (so.ok t.2 (List.mem_map.mpr ⟨t, ht, rfl⟩)).2.2.2.1, h63, fun E3 vs H7 s7 nE3 tvs hE3 => ?_⟩
    refine ⟨(by show 2 ≤ sizeLine; decide +kernel), fun L2 nL2 => ?_⟩
    have s8 := same_upd (o := .lst [V.ref E1, V.ref E3]) nL2
    have hL2 : upd H7 L2 (.lst [V.ref E1, V.ref E3]) L2 = some (.lst [V.ref E1, V.ref E3]) := upd_same
    generalize upd H7 L2 (.lst [V.ref E1, V.ref E3]) = H8 at s8 hL2 ⊢
    have s48 := same_trans s5 (same_trans s7 s8)
    have e1 : snds ts' = snds mts := asc5_uniq (so.perm (pt'.map fun t => t.2)).nd ((pt'.map fun t => t.2).trans pt.symm) as' as
    have e3 : vs = us := Told.uniq tvs tus fun x => by rw [ends_perm pt]
    subst e3
    have vl : vs.length ≤ 1000 := by
      have h1 := len_le_of_sub vs (ends (snds ts)) tvs.nd fun x hx => (tvs.mem x).mp hx
      have h2 := ends_len (snds ts)
      rw [List.length_map] at h2
      omega
    have a1 : DtAll H8 [V.ref D1, V.ref D3] [.list ((snds mts).map S5.data), .list (vs.map PyData.str)] :=
      .cons ((hD1.keep (same_trans (same_trans s3 s4) s48)).dt) (.cons (dt_ws ((same_trans s4 s48) _ _ hD3)) .nil)
    have a2 : DtAll H8 [V.ref E1, V.ref E3] [.list ((snds mts).map S5.data), .list (vs.map PyData.str)] := by
      have h1 := (hE1.keep (same_trans s7 s8)).dt
      rw [e1] at h1
      exact .cons h1 (.cons (dt_ws (s8 _ _ hE3)) .nil)
    exact ⟨_, _, _, rfl, .lst (s48 _ _ hL1) a1, .lst hL2 a2, dep_two (dep_sts _) (dep_strs _), wid_two (wid_sts (by rw [List.length_map]; omega)) (wid_strs vl), fun H9 s9 => z H9 (same_trans s04 (same_trans s48 s9))⟩
end
end K2
end
section
set_option Elab.async false
set_option linter.all false
set_option maxRecDepth 100000
set_option maxHeartbeats 8000000
namespace K2
open PySem PySem.Spec PyProof.Rows L2
/-- what two things that are compared are -/
inductive OD where
  | q (ss : List S5) (gs : List Str)
  | t (ss : List S5)
  | f
inductive Ob (H : Hp) (CQ CT : Addr) : V → OD → Prop
  | q {b : Addr} {ss : List S5} {gs : List Str} (h : IsQ H CQ b ss gs) : Ob H CQ CT (.ref b) (.q ss gs)
  | t {b : Addr} {ss : List S5} (h : IsT H CT b ss) : Ob H CQ CT (.ref b) (.t ss)
  | f {x : V} {T : String} (h : KindV H x (.type T)) : Ob H CQ CT x .f
def Oeq : OD → OD → Prop
  | .q ss gs, .q ss' gs' => ss.Perm ss' ∧ gs.Perm gs'
  | .t ss, .t ss' => ss.Perm ss'
  | _, _ => False
theorem nev {a b : OD} (h : ¬ Oeq a b) : (false = true) ↔ Oeq a b := ⟨fun z => Bool.noConfusion z, fun z => absurd z h⟩
theorem Ob.keep {H H' : Hp} {CQ CT : Addr} {x : V} {d : OD} (h : Ob H CQ CT x d) (s : Same H H') : Ob H' CQ CT x d := by
  cases h with
  | q h => exact .q (h.keep s)
  | t h => exact .t (h.keep s)
  | f h => exact .f (h.keep s)
theorem asc5_eq {ss ss' ts ts' : List S5} (so : SOk ss) (so' : SOk ss') (p : ts.Perm ss) (p' : ts'.Perm ss') (a : Asc5 ts) (a' : Asc5 ts') : ts = ts' ↔ ss.Perm ss' := by
  constructor
  · intro e
    exact p.symm.trans (by rw [e]; exact p')
  · intro h
    exact asc5_uniq (so.perm p).nd (p.trans (h.trans p'.symm)) a a'
theorem asc_eq {ss ss' ts ts' : List Str} (p : ts.Perm ss) (p' : ts'.Perm ss') (a : Asc ts) (a' : Asc ts') : ts = ts' ↔ ss.Perm ss' := by
  constructor
  · intro e
    exact p.symm.trans (by rw [e]; exact p')
  · intro h
    exact asc_uniq (p.trans (h.trans p'.symm)) a a'
section
variable {P : Program} {w : World} {K : PySem.W.Frag} {mg : Str → Option Value} {base : Heap}
variable {CQ CT iQ iT eQ eT sQ sT gQ : Addr}
theorem first_self {C : Addr} : PySem.W.notFirst K C (.ref C) = true := by simp [PySem.W.notFirst]
/-- == of two things, one of them a quarter or a town -/
theorem eq_ob (Z : Klz K mg CQ CT iQ iT eQ eT sQ sT gQ) {H : Hp} {x y : V} {a b : OD} {Q : VK} {neg : Bool} (hx : Ob H CQ CT x a) (hy : Ob H CQ CT y b) (hn : a ≠ .f ∨ b ≠ .f) (q : ∀ k : Bool, (k = true ↔ Oeq a b) → Q (.bl (k != neg)) H) :
    rOwnEq K CQ (spEqQ CQ CT) E0 neg x y H Q ∨ rOwnEq K CT (spEqT CQ CT) E0 neg x y H Q := by
  cases hx with
  | q h =>
    rename_i b1 ss gs
    obtain ⟨⟨dx, l, g, ts, hs, hq, pt, as, pg, ag⟩, so, go⟩ := h
    have so' := so.perm pt
    have go' := go.perm pg
    refine .inl (.inl ?_)
    cases hy with
    | q h2 =>
      rename_i b2 ss2 gs2
      obtain ⟨⟨dx2, l2, g2, ts2, hs2, hq2, pt2, as2, pg2, ag2⟩, so2, go2⟩ := h2
      refine ⟨_, _, _, _, rfl, hq.at_, .ins hq2.at_, first_self, _, _, _, _, _, _, _, rfl, hq, so', go', .inl ⟨_, _, _, _, _, _, rfl, hq2, so2.perm pt2, go2.perm pg2, _, rfl, q _ ?_⟩⟩
      rw [decide_eq_true_eq, asc5_eq so so2 pt pt2 as as2, asc_eq pg pg2 ag ag2]
      rfl
    | t h2 =>
      obtain ⟨⟨dx2, l2, ts2, hq2, _⟩, _⟩ := h2
      exact ⟨_, _, _, _, rfl, hq.at_, .ins hq2.at_, Z.nQT, _, _, _, _, _, _, _, rfl, hq, so', go', .inr (.inr ⟨_, _, _, rfl, hq2.at_, _, rfl, q _ (nev fun z => z)⟩)⟩
    | f h2 =>
      exact ⟨_, _, _, _, rfl, hq.at_, h2, (Z.q.kk _ (kind_ty (K := K) h2).2).2, _, _, _, _, _, _, _, rfl, hq, so', go', .inr (.inl ⟨_, h2, _, rfl, q _ (nev fun z => z)⟩)⟩
  | t h =>
    rename_i b1 ss
    obtain ⟨⟨dx, l, ts, hq, pt, as⟩, so⟩ := h
    have so' := so.perm pt
    refine .inr (.inl ?_)
    cases hy with
    | q h2 =>
      obtain ⟨⟨dx2, l2, g2, ts2, hs2, hq2, _⟩, _⟩ := h2
      exact ⟨_, _, _, _, rfl, hq.at_, .ins hq2.at_, Z.nTQ, _, _, _, _, _, rfl, hq, so', .inr (.inr ⟨_, _, _, rfl, hq2.at_, _, rfl, q _ (nev fun z => z)⟩)⟩
    | t h2 =>
      rename_i b2 ss2
      obtain ⟨⟨dx2, l2, ts2, hq2, pt2, as2⟩, so2⟩ := h2
      refine ⟨_, _, _, _, rfl, hq.at_, .ins hq2.at_, first_self, _, _, _, _, _, rfl, hq, so', .inl ⟨_, _, _, _, rfl, hq2, so2.perm pt2, _, rfl, q _ ?_⟩⟩
      rw [decide_eq_true_eq, asc5_eq so so2 pt pt2 as as2]
      rfl
    | f h2 =>
      exact ⟨_, _, _, _, rfl, hq.at_, h2, (Z.t.kk _ (kind_ty (K := K) h2).2).2, _, _, _, _, _, rfl, hq, so', .inr (.inl ⟨_, h2, _, rfl, q _ (nev fun z => z)⟩)⟩
  | f h =>
    cases hy with
    | q h2 =>
      obtain ⟨⟨dx, l, g, ts, hs, hq, pt, as, pg, ag⟩, so, go⟩ := h2
      exact .inl (.inr ⟨_, _, _, _, rfl, hq.at_, h, _, _, _, _, _, _, _, rfl, hq, so.perm pt, go.perm pg, .inr (.inl ⟨_, h, _, rfl, q _ (nev fun z => z)⟩)⟩)
    | t h2 =>
      obtain ⟨⟨dx, l, ts, hq, pt, as⟩, so⟩ := h2
      exact .inr (.inr ⟨_, _, _, _, rfl, hq.at_, h, _, _, _, _, _, rfl, hq, so.perm pt, .inr (.inl ⟨_, h, _, rfl, q _ (nev fun z => z)⟩)⟩)
    | f h2 =>
      rcases hn with hn | hn
      · exact absurd rfl hn
      · exact absurd rfl hn
/-- both classes' own == as they are run -/
structure EqZ (P : Program) (w : World) (K : PySem.W.Frag) (mg : Str → Option Value) (base : Heap) (CQ CT : Addr) : Prop where
  ex : ∃ (iQ iT eQ eT sQ sT gQ : Addr) (fQ fT : FuncData), Klz K mg CQ CT iQ iT eQ eT sQ sT gQ ∧ FnOk P w K mg base CX0 1 eQ fQ ["self", "other"] (spEqQ CQ CT) ∧ Binds K fQ ["self", "other"] [] ∧ FnOk P w K mg base CX0 1 eT fT ["self", "other"] (spEqT CQ CT) ∧ Binds K fT ["self", "other"] []
end
/-- == of two things -/
def rOb (CQ CT : Addr) (neg : Bool) : R2 := fun x y H Q => ∃ a b, Ob H CQ CT x a ∧ Ob H CQ CT y b ∧ (a ≠ .f ∨ b ≠ .f) ∧ ∀ k : Bool, (k = true ↔ Oeq a b) → Q (.bl (k != neg)) H
section
variable {X : Cx} {CQ CT : Addr}
theorem op_obEq (Z : EqZ X.prog X.w X.K X.mg X.base CQ CT) (hr : Room 1 X.A) : OpR X (compareOp .Eq) (rOb CQ CT false) := by
  obtain ⟨iQ, iT, eQ, eT, sQ, sT, gQ, fQ, fT, k, F1, b1, F2, b2⟩ := Z.ex
  intro pins s σ H x y v u Q I rx ry ⟨a, b, ha, hb, hn, q⟩
  exact OpR.or (op_ownEq F1 k.q.ow b1 pass0 hr) (op_ownEq F2 k.t.ow b2 pass0 hr) pins s σ H x y v u Q I rx ry (eq_ob k ha hb hn q)
theorem op_obNe (Z : EqZ X.prog X.w X.K X.mg X.base CQ CT) (hr : Room 2 X.A) : OpR X (compareOp .NotEq) (rOb CQ CT true) := by
  obtain ⟨iQ, iT, eQ, eT, sQ, sT, gQ, fQ, fT, k, F1, b1, F2, b2⟩ := Z.ex
  intro pins s σ H x y v u Q I rx ry ⟨a, b, ha, hb, hn, q⟩
  exact OpR.or (op_ownNe F1 k.q.ow b1 pass0 hr) (op_ownNe F2 k.t.ow b2 pass0 hr) pins s σ H x y v u Q I rx ry (eq_ob k ha hb hn q)
end
section
variable {P : Program} {w : World} {K : PySem.W.Frag} {mg : Str → Option Value} {base : Heap}
/-! ### _law_unlike_right -/
def spUnlike (CQ CT : Addr) : Sp := fun vs H Q _ => ∃ (m : V) (a : OD) (L : Addr) (os : List V), vs = [m, .ref L] ∧ Ob H CQ CT m a ∧ a ≠ .f ∧ H L = some (.lst os) ∧ (∀ o ∈ os, ∃ b, Ob H CQ CT o b ∧ ¬ Oeq a b ∧ ¬ Oeq b a) ∧ ∀ H', Same H H' → Q (.bl true) H'
abbrev NU : List Str := ["_law_made", "_law_others_here", "_law_other", "_law_told"]
theorem scUnlike : FnScope NU ["_law_made", "_law_others_here"] (defScope sUnlike) := ⟨rfl, rfl, rfl, by decide +kernel, rfl, by decide +kernel, by decide +kernel⟩
theorem ok_unlike {CQ CT : Addr} {f : Addr} {fd : FuncData} (F : FnP K "_law_unlike_right" sUnlike f fd) (J : Jd P w K mg base CQ CT) (Z : EqZ P w K mg base CQ CT) (T : Tx K mg) : FnOk P w K mg base CX0 7 f fd ["_law_made", "_law_others_here"] (spUnlike CQ CT) := by
  refine F.ok scUnlike (fun vs H Q E h => ?_) (fun cdv A outer s H vs Q E hr h => ?_)
  · obtain ⟨_, _, _, _, rfl, _⟩ := h
    rfl
  · obtain ⟨m, a, L, os, rfl, hm, haf, hL, hos, z⟩ := h
    have r1 : Room 1 (A.deeper (envOfC "_law_unlike_right" (defScope sUnlike) s.heap.objs.size f cdv)) := hr.mono (by decide)
    have r2 : Room 2 (A.deeper (envOfC "_law_unlike_right" (defScope sUnlike) s.heap.objs.size f cdv)) := hr.mono (by decide)
    refine ⟨_, PSs.nox (pss_cons (ps_for PassesOwn.never rfl (pi_list (pv 1)) (pg_name (i := 2) scUnlike.nd rfl (Or.inl rfl))
      (pss_one (ps_for PassesOwn.never rfl (pi_tup (pe_tup (pa_cons (pe_cmpR (op_obEq Z r1) (pv 0) (pv 2) (nomark _)) (pa_cons (pe_cmpR (op_obEq Z r1) (pv 2) (pv 0) (nomark _)) (pa_cons (pe_not (pe_cmpR (op_obNe Z r2) (pv 0) (pv 2) (nomark _))) (pa_cons (pe_not (pe_cmpR (op_obNe Z r2) (pv 2) (pv 0) (nomark _))) pa_nil))))))
        (pg_name (i := 3) scUnlike.nd rfl (Or.inl rfl)) (pss_one (ps_if (pt_not (pt_val (pe_fz J.ex hr (by rfl) (pa_cons (pv 3) (pa_cons pe_bl pa_nil))))) (pss_one (ps_ret pe_bl)) pss_nil)))))
      (pss_one (ps_ret pe_bl))), ?_⟩
    refine ⟨_, rfl, L, rfl, ⟨_, SqL.of hL⟩, ?_⟩
    refine for_list (K := K) (a := L) (xs := os) (fun i σ H' => Same H H' ∧ ∃ o2 o3 : Option V, σ = [some m, some (.ref L), o2, o3]) ⟨Same.refl _, _, _, rfl⟩ (fun i σ H' _ h => SqL.of (h.1 _ _ hL)) ?_ ?_
    · rintro i x σ H' hi ⟨s1, o2, o3, rfl⟩
      obtain ⟨b, hb, n1, n2⟩ := hos x (List.mem_of_getElem? hi)
      have hm1 := hm.keep s1
      have hb1 := hb.keep s1
      have e1 : ∀ k : Bool, (k = true ↔ Oeq a b) → k = false := fun k h => by
        cases k with
        | false => rfl
        | true => exact absurd (h.mp rfl) n1
      have e2 : ∀ k : Bool, (k = true ↔ Oeq b a) → k = false := fun k h => by
        cases k with
        | false => rfl
        | true => exact absurd (h.mp rfl) n2
      refine ⟨_, rfl, _, rfl, a, b, hm1, hb1, .inl haf, fun k1 h1 => ?_⟩
      cases e1 k1 h1
      refine ⟨_, rfl, _, rfl, b, a, hb1, hm1, .inr haf, fun k2 h2 => ?_⟩
      cases e2 k2 h2
      refine ⟨_, rfl, _, rfl, a, b, hm1, hb1, .inl haf, fun k3 h3 => ?_⟩
      cases e1 k3 h3
      refine ⟨_, rfl, _, rfl, _, rfl, b, a, hb1, hm1, .inr haf, fun k4 h4 => ?_⟩
      cases e2 k4 h4
      refine ⟨_, rfl, (by show 4 ≤ sizeLine; decide +kernel), fun p np => ?_⟩
      have s2 := same_upd (o := .tup [V.bl (false != false), V.bl (false != false), V.bl (!(false != true)), V.bl (!(false != true))]) np
      refine ⟨p, rfl, ⟨_, SqT.of upd_same⟩, ?_⟩
      have hp : upd H' p (.tup [V.bl (false != false), V.bl (false != false), V.bl (!(false != true)), V.bl (!(false != true))]) p = some (.tup [V.bl false, V.bl false, V.bl false, V.bl false]) := upd_same
      generalize upd H' p (.tup [V.bl (false != false), V.bl (false != false), V.bl (!(false != true)), V.bl (!(false != true))]) = H2 at s2 hp ⊢
      refine for_tup (K := K) (a := p) (xs := [V.bl false, V.bl false, V.bl false, V.bl false]) (fun i σ H' => Same H2 H' ∧ ∃ o2 o3 : Option V, σ = [some m, some (.ref L), o2, o3]) ⟨Same.refl _, _, _, rfl⟩ (fun i σ H' _ h => SqT.of (h.1 _ _ hp)) ?_ ?_
      · rintro j v σ H3 hj ⟨s3, o2, o3, rfl⟩
        have ev : v = .bl false := by
          have := List.mem_of_getElem? hj
          simpa using this
        subst ev
        exact ⟨_, rfl, _, _, _, rfl, .bl false, .bl false, by decide +kernel, by decide +kernel, fun H4 s4 => ⟨_, rfl, ifF (by decide) ⟨same_trans s3 s4, _, _, rfl⟩⟩⟩
      · rintro σ H3 ⟨s3, o2, o3, rfl⟩
        exact ⟨same_trans s1 (same_trans s2 s3), _, _, rfl⟩
    · rintro σ H' ⟨s1, o2, o3, rfl⟩
      exact z H' s1
end
end K2
end
section
set_option Elab.async false
set_option linter.all false
set_option maxRecDepth 100000
set_option maxHeartbeats 8000000
namespace K2
open PySem PySem.Spec PyProof.Rows L2
/-! ### other lists of streets -/
def S5.Pre (s : S5) : Prop := Wd s.nm ∧ Wd s.st ∧ Wd s.en ∧ 0 ≤ s.wd ∧ s.wd ≤ 9 ∧ 0 ≤ s.ln ∧ s.ln ≤ 9
def zz : Str := "zzzzzzzz"
theorem wd_zz : Wd zz := by
  refine ⟨by decide +kernel, by decide +kernel, fun c hc => ?_⟩
  have h : (zz.cps.toList.all fun c => decide (97 ≤ c ∧ c ≤ 122)) = true := by decide +kernel
  exact of_decide_eq_true (List.all_eq_true.mp h c hc)
def vrs (s r : S5) : List S5 := [⟨s.nm, s.en, s.st, s.wd, s.ln⟩, ⟨s.nm, s.st, s.en, (s.wd + 1) % 10, s.ln⟩, ⟨s.nm, s.st, s.en, s.wd, (s.ln + 1) % 10⟩, ⟨zz, s.st, s.en, s.wd, s.ln⟩, ⟨s.nm, s.st, r.st, s.wd, s.ln⟩]
theorem vrs_pre {s r : S5} (hs : s.Ok) (hr : r.Ok) : ∀ v ∈ vrs s r, v.Pre := by
  obtain ⟨h1, h2, h3, h4, h5, h6, h7, h8⟩ := hs
  intro v hv
  simp only [vrs, List.mem_cons, List.not_mem_nil, or_false] at hv
  rcases hv with rfl | rfl | rfl | rfl | rfl
  · exact ⟨h1, h3, h2, h5, h6, h7, h8⟩
  · exact ⟨h1, h2, h3, by show 0 ≤ (s.wd + 1) % 10; omega, by show (s.wd + 1) % 10 ≤ 9; omega, h7, h8⟩
  · exact ⟨h1, h2, h3, h5, h6, by show 0 ≤ (s.ln + 1) % 10; omega, by show (s.ln + 1) % 10 ≤ 9; omega⟩
  · exact ⟨wd_zz, h2, h3, h5, h6, h7, h8⟩
  · exact ⟨h1, h2, hr.2.1, h5, h6, h7, h8⟩
theorem cut_at {α : Type} {ts : List α} {i : Nat} {t : α} (h : ts[i]? = some t) : ts = ts.take i ++ [t] ++ ts.drop (i + 1) := by
  have lt := (List.getElem?_eq_some_iff.mp h).1
  have e := (List.getElem?_eq_some_iff.mp h).2
  have h2 : ts.drop i = t :: ts.drop (i + 1) := by
    rw [List.drop_eq_getElem_cons lt, e]
  have h1 := (List.take_append_drop i ts).symm
  rw [h2] at h1
  rw [List.append_assoc]
  exact h1
theorem sub_at {α : Type} (ts : List α) (i : Nat) : (ts.take i ++ ts.drop (i + 1)).Sublist ts := by
  have h1 : (ts.drop (i + 1)).Sublist (ts.drop i) := by
    rw [← List.drop_drop]
    exact List.drop_sublist _ _
  have h := (List.Sublist.refl (ts.take i)).append h1
  rw [List.take_append_drop] at h
  exact h
theorem oth_drop {ss : List S5} {i : Nat} (so : SOk ss) (hi : i < ss.length) : SOk (ss.take i ++ ss.drop (i + 1)) ∧ ¬ (ss.take i ++ ss.drop (i + 1)).Perm ss := by
  have sb := sub_at ss i
  refine ⟨⟨fun s hs => so.ok s (sb.subset hs), (sb.map S5.nm).nodup so.nd, Nat.le_trans sb.length_le so.l⟩, fun p => ?_⟩
  have := p.length_eq
  rw [List.length_append, List.length_take, List.length_drop] at this
  omega
theorem oth_rep {ss : List S5} {i : Nat} {v : S5} (so : SOk ss) (hi : i < ss.length) (hv : v.Pre) (ne : v.st ≠ v.en) (h1 : v ∉ ss) (h2 : v.nm ∉ nms (ss.take i ++ ss.drop (i + 1))) :
    SOk (ss.take i ++ [v] ++ ss.drop (i + 1)) ∧ ¬ (ss.take i ++ [v] ++ ss.drop (i + 1)).Perm ss := by
  have sb := sub_at ss i
  have pm : (ss.take i ++ [v] ++ ss.drop (i + 1)).Perm (v :: (ss.take i ++ ss.drop (i + 1))) := by
    rw [List.append_assoc]
    exact List.perm_middle
  obtain ⟨p1, p2, p3, p4, p5, p6, p7⟩ := hv
  refine ⟨⟨fun s hs => ?_, ?_, ?_⟩, fun p => h1 (p.mem_iff.mp (by simp))⟩
  · rcases List.mem_cons.mp (pm.mem_iff.mp hs) with e | h
    · rw [e]
      exact ⟨p1, p2, p3, ne, p4, p5, p6, p7⟩
    · exact so.ok s (sb.subset h)
  · refine (pm.map S5.nm).nodup_iff.mpr ?_
    rw [List.map_cons]
    exact List.nodup_cons.mpr ⟨h2, (sb.map S5.nm).nodup so.nd⟩
  · have a2 := so.l
    simp only [List.length_append, List.length_cons, List.length_nil, List.length_take, List.length_drop]
    omega
theorem s5_shaped {v : S5} (h : v.Pre) : SeqAt.shaped v.data = true := by
  obtain ⟨h1, h2, h3, _⟩ := h
  have e1 : PyData.canLay0 v.data = true := by simp [PyData.canLayAll0, PyData.canLay0, S5.data, wd_ok h1, wd_ok h2, wd_ok h3]
  have e2 : PyData.depth v.data ≤ 64 := by simp [S5.data, PyData.depth, PyData.depthAll]
  unfold SeqAt.shaped
  rw [e1, decide_eq_true e2]
  rfl
theorem any_s5 (ss : List S5) (v : S5) : ((ss.map S5.data).any fun z => PyData.eqv z v.data) = decide (v ∈ ss) := by
  induction ss with
  | nil => simp
  | cons s ss ih =>
    rw [List.map_cons, List.any_cons, ih, eqv_s5]
    by_cases h : s = v
    · subst h
      simp
    · have h' : ¬ v = s := fun e => h e.symm
      simp [h, h']
/-- lists of right streets, other than ss, that were not there in H0 -/
structure Fd (H0 H : Hp) (ss : List S5) (D : Addr) (as : List (Addr × List (Addr × S5))) : Prop where
  l : H D = some (.lst (as.map fun a => V.ref a.1))
  i : ∀ a ∈ as, Sts H a.1 a.2 ∧ SOk (snds a.2) ∧ ¬ (snds a.2).Perm ss ∧ H0 a.1 = none
  d : H0 D = none
theorem Fd.keep {H0 H H' : Hp} {ss : List S5} {D : Addr} {as : List (Addr × List (Addr × S5))} (h : Fd H0 H ss D as) (s : Same H H') : Fd H0 H' ss D as :=
  ⟨s _ _ h.l, fun a ha => let ⟨h1, h2⟩ := h.i a ha; ⟨h1.keep s, h2⟩, h.d⟩
/-- one more in a list that is being made -/
theorem Fd.put {H0 H : Hp} {ss : List S5} {D a : Addr} {us : List (Addr × S5)} {as : List (Addr × List (Addr × S5))} (h : Fd H0 H ss D as) (nd : ∀ b ∈ as, b.1 ≠ D) (ha : Sts H a us) (so : SOk (snds us)) (np : ¬ (snds us).Perm ss) (n0 : H0 a = none) (na : a ≠ D) :
    Fd H0 (upd H D (.lst (as.map (fun a => V.ref a.1) ++ [.ref a]))) ss D (as ++ [(a, us)]) ∧ ∀ b ∈ as ++ [(a, us)], b.1 ≠ D := by
  have tk : ∀ {a : Addr} {us : List (Addr × S5)}, a ≠ D → Sts H a us → Sts (upd H D (.lst (as.map (fun a => V.ref a.1) ++ [.ref a]))) a us := fun {a us} ne hs => by
    refine ⟨by rw [upd_ne ne]; exact hs.1, fun t ht => ?_⟩
    have e := hs.2 t ht
    rw [upd_ne (fun z => by rw [z, h.l] at e; cases e)]
    exact e
  have tk2 : ∀ {b : Addr} {vs : List (Addr × S5)}, b ≠ D → Sts H b vs → Sts (upd H D (.lst (as.map (fun a => V.ref a.1) ++ [.ref a]))) b vs := fun {b vs} ne hs => by
    refine ⟨by rw [upd_ne ne]; exact hs.1, fun t ht => ?_⟩
    have e := hs.2 t ht
    rw [upd_ne (fun z => by rw [z, h.l] at e; cases e)]
    exact e
  refine ⟨⟨?_, fun b hb => ?_, h.d⟩, fun b hb => ?_⟩
  · rw [upd_same, List.map_append]
    rfl
  · rcases List.mem_append.mp hb with hb | hb
    · obtain ⟨h1, h2⟩ := h.i b hb
      exact ⟨tk2 (nd b hb) h1, h2⟩
    · rw [List.mem_singleton.mp hb]
      exact ⟨tk na ha, so, np, n0⟩
  · rcases List.mem_append.mp hb with hb | hb
    · exact nd b hb
    · rw [List.mem_singleton.mp hb]
      exact na
theorem map_cut1 {ts : List (Addr × S5)} {i : Nat} : cutV (ts.map fun t => V.ref t.1) none (some (i : Int)) ++ cutV (ts.map fun t => V.ref t.1) (some ((i : Int) + 1)) none = (ts.take i ++ ts.drop (i + 1)).map fun t => V.ref t.1 := by
  have e : ((i : Int) + 1) = ((i + 1 : Nat) : Int) := by omega
  rw [e, cut_take, cut_drop, ← List.map_take, ← List.map_drop, List.map_append]
theorem snds_cut (ts : List (Addr × S5)) (i : Nat) : snds (ts.take i ++ ts.drop (i + 1)) = (snds ts).take i ++ (snds ts).drop (i + 1) := by
  show ((ts.take i ++ ts.drop (i + 1)).map fun t => t.2) = _
  rw [List.map_append, List.map_take, List.map_drop]
theorem snds_rep (ts : List (Addr × S5)) (i : Nat) (k : Addr × S5) : snds (ts.take i ++ [k] ++ ts.drop (i + 1)) = (snds ts).take i ++ [k.2] ++ (snds ts).drop (i + 1) := by
  show ((ts.take i ++ [k] ++ ts.drop (i + 1)).map fun t => t.2) = _
  rw [List.map_append, List.map_append, List.map_take, List.map_drop]
  rfl
end K2
end
section
set_option Elab.async false
set_option linter.all false
set_option maxRecDepth 100000
set_option maxHeartbeats 16000000
namespace K2
open PySem PySem.Spec PyProof.Rows L2
def spOthers : Sp := fun vs H Q _ => ∃ (p l : Addr) (ts : List (Addr × S5)) (n : Int), vs = [.ref p, .ref l] ∧ Pu H p n ∧ n ≤ 700000 ∧ Sts H l ts ∧ l ≠ p ∧ SOk (snds ts) ∧ ts.length ≤ 17 ∧
  ∀ (D : Addr) (as : List (Addr × List (Addr × S5))) (H' : Hp), Pu H' p (n + 120) → But p H H' → Fd H H' (snds ts) D as → as.length ≤ 14 → Q (.ref D) H'
abbrev NOt : List Str := ["_law_purse_here", "_law_streets", "_law_at", "_law_found", "_law_name", "_law_start", "_law_end", "_law_width_here", "_law_length_here", "_law_wider", "_law_longer", "_law_some", "_law_others_here", "_law_street"]
theorem scOthers : FnScope NOt ["_law_purse_here", "_law_streets"] (defScope sOthers) := ⟨rfl, rfl, rfl, by decide +kernel, rfl, by decide +kernel, by decide +kernel⟩
def otS (j : Nat) : Stmt := (forBody ((defBody sOthers).getD 1 (.Pass ⟨0, 0, 0, 0⟩))).getD j (.Pass ⟨0, 0, 0, 0⟩)
theorem at_prev {ts : List (Addr × S5)} {i : Nat} {t : Addr × S5} (h : ts[i]? = some t) : ∃ r ∈ ts, atI (ts.map fun t => V.ref t.1) ((i : Int) - 1) = some (V.ref r.1) := by
  have lt := (List.getElem?_eq_some_iff.mp h).1
  have key : ∀ j : Nat, j < ts.length → ixN ts.length ((i : Int) - 1) = some j → ∃ r ∈ ts, atI (ts.map fun t => V.ref t.1) ((i : Int) - 1) = some (V.ref r.1) := fun j lj e => by
    have ej : ts[j]? = some ts[j] := List.getElem?_eq_getElem lj
    refine ⟨ts[j], List.getElem_mem lj, ?_⟩
    unfold atI
    rw [List.length_map, e]
    show (ts.map fun t => V.ref t.1)[j]? = _
    rw [List.getElem?_map, ej]
    rfl
  by_cases h0 : i = 0
  · subst h0
    refine key (ts.length - 1) (by omega) ?_
    unfold ixN
    rw [if_neg (by omega), if_pos (by omega)]
    congr 1
    omega
  · refine key (i - 1) (by omega) ?_
    unfold ixN
    rw [if_pos (by omega)]
    first
    | (rw [if_pos (by omega)]; congr 1; omega)
    | (congr 1; omega)
section
variable {P : Program} {w : World} {K : PySem.W.Frag} {mg : Str → Option Value} {base : Heap} {f : Addr} {cdv : Value} {A : Around} {outer : List Env} {s : Shared} {Hl : Hp} {E : XK} {p l : Addr} {ts : List (Addr × S5)} {H0 : Hp}
abbrev TOt (P : Program) (w : World) (K : PySem.W.Frag) (mg : Str → Option Value) (base : Heap) (f : Addr) (cdv : Value) (A : Around) (outer : List Env) (s : Shared) (Hl : Hp) (E : XK) : Cx := (cxOf CX0 P w K mg base NOt "_law_others" (defScope sOthers) f cdv A outer s Hl E).nox
/-- behind the first four statements: the five others -/
def tMidO (p l : Addr) (ts : List (Addr × S5)) (u : TS) : TS := fun Z σ H => ∃ (i : Nat) (t : Addr × S5) (F : Addr) (o4 o5 o6 o7 o8 o9 o10 o11 o12 o13 : Option V), σ = [some (.ref p), some (.ref l), some (.int (i : Int)), some (.ref F), o4, o5, o6, o7, o8, o9, o10, o11, o12, o13] ∧ ts[i]? = some t ∧ Sts H l ts ∧
  ∀ S vs (r : Addr × S5) (o4 o5 o6 o7 o8 o9 o10 : Option V) H', Same H H' → H S = none → r ∈ ts → Sts H' S vs → snds vs = vrs t.2 r.2 → u Z [some (.ref p), some (.ref l), some (.int (i : Int)), some (.ref F), o4, o5, o6, o7, o8, o9, o10, some (.ref S), o12, o13] H'
theorem othA (T : Tx K mg) {rest : List Stmt} {u : TS} (hu : PSs (TOt P w K mg base f cdv A outer s Hl E) rest u) : PSs (TOt P w K mg base f cdv A outer s Hl E) (otS 0 :: otS 1 :: otS 2 :: otS 3 :: rest) (tMidO p l ts u) := by
  have gI := T.fr "int" (by decide +kernel)
  refine weak (pss_cons (ps_asg (pe_ix ix_list (pv 1) (pv 2) (fun _ _ => rfl)) (pg_tup rfl (pgs_cons (pg_name (i := 4) scOthers.nd rfl (Or.inl rfl)) (pgs_cons (pg_name (i := 5) scOthers.nd rfl (Or.inl rfl)) (pgs_cons (pg_name (i := 6) scOthers.nd rfl (Or.inl rfl)) (pgs_cons (pg_name (i := 7) scOthers.nd rfl (Or.inl rfl)) (pgs_cons (pg_name (i := 8) scOthers.nd rfl (Or.inl rfl)) pgs_nil)))))))
    (pss_cons (ps_par (i := 9) (j := 10) rfl scOthers.nd rfl rfl (by decide) rfl rfl (pa_cons (pe_op op_mod (pe_callTy call_int1 (by rfl) gI (by decide +kernel) (pa_cons (pe_op op_add (pv 7) pe_int) pa_nil)) pe_int) (pa_cons (pe_op op_mod (pe_callTy call_int1 (by rfl) gI (by decide +kernel) (pa_cons (pe_op op_add (pv 8) pe_int) pa_nil)) pe_int) pa_nil)) (by rfl))
    (pss_cons (ps_set (i := 11) scOthers.nd rfl (Or.inl rfl) (pe_lst (pa_cons (pe_tup (pa_cons (pv 4) (pa_cons (pv 6) (pa_cons (pv 5) (pa_cons (pv 7) (pa_cons (pv 8) pa_nil))))))
      (pa_cons (pe_tup (pa_cons (pv 4) (pa_cons (pv 5) (pa_cons (pv 6) (pa_cons (pv 9) (pa_cons (pv 8) pa_nil)))))) (pa_cons (pe_tup (pa_cons (pv 4) (pa_cons (pv 5) (pa_cons (pv 6) (pa_cons (pv 7) (pa_cons (pv 10) pa_nil)))))) pa_nil)))))
    (pss_cons (ps_set (i := 11) scOthers.nd rfl (Or.inl rfl) (pe_op op_cat (pv 11) (pe_lst (pa_cons (pe_tup (pa_cons pe_str (pa_cons (pv 5) (pa_cons (pv 6) (pa_cons (pv 7) (pa_cons (pv 8) pa_nil))))))
      (pa_cons (pe_tup (pa_cons (pv 4) (pa_cons (pv 5) (pa_cons (pe_ix ix_tup (pe_ix ix_list (pv 1) (pe_op op_sub (pv 2) pe_int) (fun _ _ => rfl)) pe_int (fun _ _ => rfl)) (pa_cons (pv 7) (pa_cons (pv 8) pa_nil)))))) pa_nil))))) hu)))) ?_
  rintro Z σ H ⟨i, t, F, o4, o5, o6, o7, o8, o9, o10, o11, o12, o13, rfl, hi, hl, q⟩
  have sl := sizeLine_eq
  have z5 : 5 ≤ sizeLine := by rw [sl]; decide
  have tm := List.mem_of_getElem? hi
  have ei : (ts.map fun t => V.ref t.1)[i]? = some (V.ref t.1) := by
    rw [List.getElem?_map, hi]
    rfl
  obtain ⟨r, hr, er⟩ := at_prev hi
  refine ⟨_, rfl, _, rfl, l, _, ((i : Nat) : Int), _, rfl, rfl, SqL.of hl.1, atI_nat ei, t.1, _, rfl, SqT.of (hl.2 t tm), rfl, _, _, rfl, _, _, rfl, _, _, rfl, _, _, rfl, _, _, rfl, rfl, ?_⟩
  refine ⟨_, rfl, _, _, rfl, rfl, Or.inl ⟨_, rfl, _, _, rfl, rfl, (by show (0 : Int) < _; decide), ?_⟩⟩
  refine ⟨_, rfl, _, _, rfl, rfl, Or.inl ⟨_, rfl, _, _, rfl, rfl, (by show (0 : Int) < _; decide), ?_⟩⟩
  refine ⟨_, _, rfl, ?_⟩
  -- three
  refine ⟨_, rfl, _, rfl, _, rfl, _, rfl, _, rfl, z5, fun t1 n1 => ?_⟩
  have s1 := same_upd (o := .tup [V.str t.2.nm, V.str t.2.en, V.str t.2.st, V.int t.2.wd, V.int t.2.ln]) n1
  have h1 : upd H t1 (.tup [V.str t.2.nm, V.str t.2.en, V.str t.2.st, V.int t.2.wd, V.int t.2.ln]) t1 = some (.tup (S5.vals ⟨t.2.nm, t.2.en, t.2.st, t.2.wd, t.2.ln⟩)) := upd_same
  generalize upd H t1 (.tup [V.str t.2.nm, V.str t.2.en, V.str t.2.st, V.int t.2.wd, V.int t.2.ln]) = H1 at s1 h1 ⊢
  refine ⟨_, rfl, _, rfl, _, rfl, _, rfl, _, rfl, z5, fun t2 n2 => ?_⟩
  have s2 := same_upd (o := .tup [V.str t.2.nm, V.str t.2.st, V.str t.2.en, V.int ((t.2.wd + 1) % 10), V.int t.2.ln]) n2
  have h2 : upd H1 t2 (.tup [V.str t.2.nm, V.str t.2.st, V.str t.2.en, V.int ((t.2.wd + 1) % 10), V.int t.2.ln]) t2 = some (.tup (S5.vals ⟨t.2.nm, t.2.st, t.2.en, ((t.2.wd + 1) % 10), t.2.ln⟩)) := upd_same
  generalize upd H1 t2 (.tup [V.str t.2.nm, V.str t.2.st, V.str t.2.en, V.int ((t.2.wd + 1) % 10), V.int t.2.ln]) = H2 at s2 h2 ⊢
  refine ⟨_, rfl, _, rfl, _, rfl, _, rfl, _, rfl, z5, fun t3 n3 => ?_⟩
  have s3 := same_upd (o := .tup [V.str t.2.nm, V.str t.2.st, V.str t.2.en, V.int t.2.wd, V.int ((t.2.ln + 1) % 10)]) n3
  have h3 : upd H2 t3 (.tup [V.str t.2.nm, V.str t.2.st, V.str t.2.en, V.int t.2.wd, V.int ((t.2.ln + 1) % 10)]) t3 = some (.tup (S5.vals ⟨t.2.nm, t.2.st, t.2.en, t.2.wd, ((t.2.ln + 1) % 10)⟩)) := upd_same
  generalize upd H2 t3 (.tup [V.str t.2.nm, V.str t.2.st, V.str t.2.en, V.int t.2.wd, V.int ((t.2.ln + 1) % 10)]) = H3 at s3 h3 ⊢
  refine ⟨(by show 3 ≤ sizeLine; rw [sl]; decide), fun L nL => ?_⟩
  have sL := same_upd (o := .lst [V.ref t1, V.ref t2, V.ref t3]) nL
  have hL : upd H3 L (.lst [V.ref t1, V.ref t2, V.ref t3]) L = some (.lst [V.ref t1, V.ref t2, V.ref t3]) := upd_same
  generalize upd H3 L (.lst [V.ref t1, V.ref t2, V.ref t3]) = H4 at sL hL ⊢
  have s04 := same_trans s1 (same_trans s2 (same_trans s3 sL))
  refine ⟨_, rfl, _, rfl, _, rfl, _, rfl, _, rfl, z5, fun t5 n5 => ?_⟩
  have s5 := same_upd (o := .tup [V.str ("zzzzzzzz" : Str), V.str t.2.st, V.str t.2.en, V.int t.2.wd, V.int t.2.ln]) n5
  have h5 : upd H4 t5 (.tup [V.str ("zzzzzzzz" : Str), V.str t.2.st, V.str t.2.en, V.int t.2.wd, V.int t.2.ln]) t5 = some (.tup (S5.vals ⟨("zzzzzzzz" : Str), t.2.st, t.2.en, t.2.wd, t.2.ln⟩)) := upd_same
  generalize upd H4 t5 (.tup [V.str ("zzzzzzzz" : Str), V.str t.2.st, V.str t.2.en, V.int t.2.wd, V.int t.2.ln]) = H5 at s5 h5 ⊢
  have hl5 := hl.keep (same_trans s04 s5)
  refine ⟨_, rfl, _, rfl, _, rfl, _, rfl, _, _, rfl, rfl, l, _, ((i : Nat) : Int) - 1, _, rfl, rfl, SqL.of hl5.1, er, r.1, _, ((1 : Nat) : Int), _, rfl, rfl, SqT.of (hl5.2 r hr), atI_nat rfl, _, rfl, _, rfl, z5, fun t6 n6 => ?_⟩
  have s6 := same_upd (o := .tup [V.str t.2.nm, V.str t.2.st, V.str r.2.st, V.int t.2.wd, V.int t.2.ln]) n6
  have h6 : upd H5 t6 (.tup [V.str t.2.nm, V.str t.2.st, V.str r.2.st, V.int t.2.wd, V.int t.2.ln]) t6 = some (.tup (S5.vals ⟨t.2.nm, t.2.st, r.2.st, t.2.wd, t.2.ln⟩)) := upd_same
  generalize upd H5 t6 (.tup [V.str t.2.nm, V.str t.2.st, V.str r.2.st, V.int t.2.wd, V.int t.2.ln]) = H6 at s6 h6 ⊢
  refine ⟨(by show 2 ≤ sizeLine; rw [sl]; decide), fun M nM => ?_⟩
  have sM := same_upd (o := .lst [V.ref t5, V.ref t6]) nM
  have hM : upd H6 M (.lst [V.ref t5, V.ref t6]) M = some (.lst [V.ref t5, V.ref t6]) := upd_same
  generalize upd H6 M (.lst [V.ref t5, V.ref t6]) = H7 at sM hM ⊢
  refine ⟨L, M, _, _, rfl, rfl, sM _ _ (s6 _ _ (s5 _ _ hL)), hM, (by show 3 + 2 ≤ sizeLine; rw [sl]; decide), fun S nS => ?_⟩
  have sS := same_upd (o := .lst ([V.ref t1, V.ref t2, V.ref t3] ++ [V.ref t5, V.ref t6])) nS
  have s47 := same_trans s5 (same_trans s6 (same_trans sM sS))
  have s07 := same_trans s04 (same_trans s5 (same_trans s6 sM))
  refine q S [(t1, _), (t2, _), (t3, _), (t5, _), (t6, _)] r _ _ _ _ _ _ _ _ (same_trans s07 sS) (s07.free nS) hr ⟨upd_same, fun u hu => ?_⟩ rfl
  simp only [List.mem_cons, List.not_mem_nil, or_false] at hu
  rcases hu with rfl | rfl | rfl | rfl | rfl
  · exact s47 _ _ (sL _ _ (s3 _ _ (s2 _ _ h1)))
  · exact s47 _ _ (sL _ _ (s3 _ _ h2))
  · exact s47 _ _ (sL _ _ h3)
  · exact sS _ _ (sM _ _ (s6 _ _ h5))
  · exact sS _ _ (sM _ _ h6)
end
end K2
end
section
set_option Elab.async false
set_option linter.all false
set_option maxRecDepth 100000
set_option maxHeartbeats 16000000
namespace K2
open PySem PySem.Spec PyProof.Rows L2
theorem fd_app {H0 H : Hp} {ss : List S5} {F D p : Addr} {as bs : List (Addr × List (Addr × S5))} (a : Fd H0 H ss F as) (b : Fd H0 H ss D bs) (np : H p = none) (n0 : H0 p = none) :
    Fd H0 (upd H p (.lst (as.map (fun a => V.ref a.1) ++ bs.map fun a => V.ref a.1))) ss p (as ++ bs) := by
  have s := same_upd (o := .lst (as.map (fun a => V.ref a.1) ++ bs.map fun a => V.ref a.1)) np
  refine ⟨by rw [upd_same, List.map_append], fun x hx => ?_, n0⟩
  rcases List.mem_append.mp hx with h | h
  · obtain ⟨h1, h2⟩ := a.i x h
    exact ⟨h1.keep s, h2⟩
  · obtain ⟨h1, h2⟩ := b.i x h
    exact ⟨h1.keep s, h2⟩
section
variable {P : Program} {w : World} {K : PySem.W.Frag} {mg : Str → Option Value} {base : Heap} {f : Addr} {cdv : Value} {A : Around} {outer : List Env} {s : Shared} {Hl : Hp} {E : XK} {p l : Addr} {ts : List (Addr × S5)} {H0 : Hp}
/-- the last three statements of a turn -/
def tEndO (p l : Addr) (ts : List (Addr × S5)) (H0 : Hp) : TS := fun Z σ H => ∃ (i : Nat) (t : Addr × S5) (F S : Addr) (vs : List (Addr × S5)) (as : List (Addr × List (Addr × S5))) (o4 o5 o6 o7 o8 o9 o10 o12 o13 : Option V),
  σ = [some (.ref p), some (.ref l), some (.int (i : Int)), some (.ref F), o4, o5, o6, o7, o8, o9, o10, some (.ref S), o12, o13] ∧ ts[i]? = some t ∧ Sts H l ts ∧ SOk (snds ts) ∧ Sts H S vs ∧ vs.length ≤ 5 ∧ (∀ v ∈ vs, v.2.Pre) ∧ Fd H0 H (snds ts) F as ∧ as.length ≤ 300 ∧ Same H0 H ∧
  ∀ F' as' o11 o12 o13 H', Same H H' → Fd H0 H' (snds ts) F' as' → as'.length ≤ as.length + 5 → Z.nx [some (.ref p), some (.ref l), some (.int (i : Int)), some (.ref F'), o4, o5, o6, o7, o8, o9, o10, o11, o12, o13] H'
abbrev ttO (K : PySem.W.Frag) : TT := tAnd (tTest (tOp (rNotInD K) (tVar 13) (tVar 1))) (tAnd (tTest (tOp (rIn K true) (tOp (rIxT K) (tVar 13) (tC (.int 0))) (tVar 12))) (tTest (tOp rNe (tOp (rIxT K) (tVar 13) (tC (.int 1))) (tOp (rIxT K) (tVar 13) (tC (.int 2))))))
abbrev teO (K : PySem.W.Frag) : TE := tOp rCat (tOp rCat (tSl (rSlL K) (tVar 1) tNoPart (tPart (tVar 2))) (tLst (tCons (tVar 13) tNil))) (tSl (rSlL K) (tVar 1) (tPart (tOp (rI0 fun i j => .int (i + j)) (tVar 2) (tC (.int 1)))) tNoPart)
theorem othB (hr : Room 3 (A.deeper (envOfC "_law_others" (defScope sOthers) s.heap.objs.size f cdv))) : PSs (TOt P w K mg base f cdv A outer s Hl E) [otS 4, otS 5, otS 6] (tEndO p l ts H0) := by
  have hu : (A.deeper (envOfC "_law_others" (defScope sOthers) s.heap.objs.size f cdv)).units + 65 < cLine := by
    have := hr.un
    omega
  refine weak (pss_cons (ps_set (i := 12) scOthers.nd rfl (Or.inr rfl) (pe_lc (own := [("_law_street", 13)]) (g := gName 13) (tt := tYes) (te := tOp (rIxT K) (tVar 13) (tC (.int ((0 : Nat) : Int)))) rfl scOthers.nd
        (pi_list (pe_op op_cat (pe_slice sl_list (pv 1) po_none (po_some (pv 2))) (pe_slice sl_list (pv 1) (po_some (pe_op op_add (pv 2) pe_int)) po_none))) (blkOk_by (own := [("_law_street", 13)]) (N := NOt) (sc := defScope sOthers) (by decide +kernel))
        (fun _ _ _ _ _ => pg_name (i := 13) scOthers.nd rfl (Or.inl rfl)) (fun _ _ _ _ _ => pts_nil) (fun _ _ _ _ _ => pe_ix ix_tup (pv 13) pe_int (fun _ _ => rfl))))
    (pss_cons (ps_setLc (i := 11) (own := [("_law_street", 13)]) (g := gName 13) (tt := ttO K) (te := tVar 13) rfl scOthers.nd rfl rfl (sw_true rfl rfl rfl (by decide +kernel)) (pi_list (pv 11)) (blkOk_by (own := [("_law_street", 13)]) (N := NOt) (sc := defScope sOthers) (by decide +kernel))
        (fun _ _ _ _ _ => pg_name (i := 13) scOthers.nd rfl (Or.inl rfl)) (fun _ _ _ _ _ => pts_one (PW.pt (pw_and (pt_cmpR (op_notInD hu) (pv 13) (pv 1) rfl) (pw_and (pt_cmpR op_notIn_seq (pe_ix ix_tup (pv 13) pe_int (fun _ _ => rfl)) (pv 12) rfl) (pw_and1 (pt_cmpR op_ne (pe_ix ix_tup (pv 13) pe_int (fun _ _ => rfl)) (pe_ix ix_tup (pv 13) pe_int (fun _ _ => rfl)) (nomark _))))))) (fun _ _ _ _ _ => pv 13))
    (pss_one (ps_set (i := 3) scOthers.nd rfl (Or.inl rfl) (pe_op op_cat (pv 3) (pe_lc (own := [("_law_street", 13)]) (g := gName 13) (tt := tYes) (te := teO K) rfl scOthers.nd (pi_list (pv 11)) (blkOk_by (own := [("_law_street", 13)]) (N := NOt) (sc := defScope sOthers) (by decide +kernel))
        (fun _ _ _ _ _ => pg_name (i := 13) scOthers.nd rfl (Or.inl rfl)) (fun _ _ _ _ _ => pts_nil)
        (fun _ _ _ _ _ => pe_op op_cat (pe_op op_cat (pe_slice sl_list (pv 1) po_none (po_some (pv 2))) (pe_lst (pa_cons (pv 13) pa_nil))) (pe_slice sl_list (pv 1) (po_some (pe_op op_add (pv 2) pe_int)) po_none)))))))) ?_
  rintro Z σ H ⟨i, t, F, S, vs, as, o4, o5, o6, o7, o8, o9, o10, o12, o13, rfl, hi, hl, so, hS, v5, vp, fd, a300, s0, q⟩
  have sl := sizeLine_eq
  have il := (List.getElem?_eq_some_iff.mp hi).1
  have l60 := so.l
  rw [List.length_map] at l60
  have il2 : i < (snds ts).length := by rw [List.length_map]; exact il
  have cl : ∀ (xs : List V) (a b : Option Int), (cutV xs a b).length ≤ xs.length := fun xs a b => cutV_length xs a b
  -- the others' names
  refine ⟨_, rfl, _, rfl, _, rfl, l, _, rfl, SqL.of hl.1, fun A1 nA1 => ?_⟩
  have s1 := same_upd (o := .lst (cutV (ts.map fun t => V.ref t.1) none (some (i : Int)))) nA1
  have hA1 : upd H A1 (.lst (cutV (ts.map fun t => V.ref t.1) none (some (i : Int)))) A1 = some (.lst (cutV (ts.map fun t => V.ref t.1) none (some (i : Int)))) := upd_same
  generalize upd H A1 (.lst (cutV (ts.map fun t => V.ref t.1) none (some (i : Int)))) = H1 at s1 hA1 ⊢
  refine ⟨_, rfl, _, rfl, _, _, rfl, rfl, _, rfl, l, _, rfl, SqL.of (s1 _ _ hl.1), fun A2 nA2 => ?_⟩
  have s2 := same_upd (o := .lst (cutV (ts.map fun t => V.ref t.1) (some ((i : Int) + 1)) none)) nA2
  have hA2 : upd H1 A2 (.lst (cutV (ts.map fun t => V.ref t.1) (some ((i : Int) + 1)) none)) A2 = some (.lst (cutV (ts.map fun t => V.ref t.1) (some ((i : Int) + 1)) none)) := upd_same
  generalize upd H1 A2 (.lst (cutV (ts.map fun t => V.ref t.1) (some ((i : Int) + 1)) none)) = H2 at s2 hA2 ⊢
  refine ⟨A1, A2, _, _, rfl, rfl, s2 _ _ hA1, hA2, ?_, fun A3 nA3 => ?_⟩
  · have c1 := cl (ts.map fun t => V.ref t.1) none (some (i : Int))
    have c2 := cl (ts.map fun t => V.ref t.1) (some ((i : Int) + 1)) none
    rw [List.length_map] at c1 c2
    omega
  rw [map_cut1]
  have s3 := same_upd (o := .lst ((ts.take i ++ ts.drop (i + 1)).map fun t => V.ref t.1)) nA3
  have sbt := sub_at ts i
  have hA3 : Sts (upd H2 A3 (.lst ((ts.take i ++ ts.drop (i + 1)).map fun t => V.ref t.1))) A3 (ts.take i ++ ts.drop (i + 1)) := ⟨upd_same, fun t ht => s3 _ _ (s2 _ _ (s1 _ _ (hl.2 t (sbt.subset ht))))⟩
  generalize upd H2 A3 (.lst ((ts.take i ++ ts.drop (i + 1)).map fun t => V.ref t.1)) = H3 at s3 hA3 ⊢
  have s03 := same_trans s1 (same_trans s2 s3)
  refine ⟨A3, rfl, ⟨_, SqL.of hA3.1⟩, fun D nD => ?_⟩
  refine lc_part (K := K) (g := S5.nm) (j := 0) (i := 13) (fun s => rfl) nD hA3 (Nat.le_trans sbt.length_le l60) (fun v => rfl) (fun v => rfl) fun H4 s4 hD => ?_
  have s04 := same_trans s03 s4
  have hS4 := hS.keep s04
  have hl4 := hl.keep s04
  -- those that are kept
  refine ⟨_, rfl, S, rfl, ⟨_, SqL.of hS4.1⟩, fun D2 nD2 => ?_⟩
  refine lc_list (K := K) (a := S) (xs := vs.map fun t => V.ref t.1) (fun j H' => Same H4 H' ∧ ∃ ks : List (Addr × S5), H' D2 = some (.lst (ks.map fun k => V.ref k.1)) ∧ ks.length ≤ j ∧ ∀ k ∈ ks, k ∈ vs ∧ k.2 ∉ snds ts ∧ k.2.nm ∉ nms ((snds ts).take i ++ (snds ts).drop (i + 1)) ∧ k.2.st ≠ k.2.en)
    ⟨same_upd nD2, [], upd_same, Nat.le_refl _, fun k hk => by simp at hk⟩ (fun j H' _ h => SqL.of (h.1 _ _ hS4.1)) ?_ ?_
  · rintro j x H' hj ⟨s5, ks, hks, kl, kp⟩
    obtain ⟨u, hu, rfl⟩ := at_map hj
    have um := List.mem_of_getElem? hu
    have jl := (List.getElem?_eq_some_iff.mp hu).1
    have hut : H' u.1 = some (.tup u.2.vals) := s5 _ _ (hS4.2 u um)
    have hl5 := hl4.keep s5
    have keep : Same H4 H' ∧ ∃ ks : List (Addr × S5), H' D2 = some (.lst (ks.map fun k => V.ref k.1)) ∧ ks.length ≤ j + 1 ∧ ∀ k ∈ ks, k ∈ vs ∧ k.2 ∉ snds ts ∧ k.2.nm ∉ nms ((snds ts).take i ++ (snds ts).drop (i + 1)) ∧ k.2.st ≠ k.2.en := ⟨s5, ks, hks, by omega, kp⟩
    have en : ((ts.take i ++ ts.drop (i + 1)).map fun t => t.2.nm) = nms ((snds ts).take i ++ (snds ts).drop (i + 1)) := by
      rw [← snds_cut, nms_snds]
    have du : Dp K H' (.ref u.1) u.2.data := .tup (SqT.of hut) (.cons (.str _) (.cons (.str _) (.cons (.str _) (.cons (.int _) (.cons (.int _) .nil)))))
    refine ⟨rfl, _, rfl, _, rfl, _, _, du, dp_of hl5, s5_shaped (vp u um), sts_shaped so.ok, _, rfl, ?_⟩
    rw [any_s5]
    by_cases h1 : u.2 ∈ snds ts
    · exact ifF (by simpa using h1) (ifF (by decide) keep)
    refine ifT (by simpa using h1) ?_
    refine ⟨_, rfl, u.1, _, ((0 : Nat) : Int), _, rfl, rfl, SqT.of hut, atI_nat rfl, _, rfl, D, _, rfl, Or.inl (SqL.of (s5 _ _ hD)), rfl, flat_strs _, _, rfl, ?_⟩
    rw [inV_str, en]
    by_cases h2 : u.2.nm ∈ nms ((snds ts).take i ++ (snds ts).drop (i + 1))
    · exact ifF (by show ¬ (!decide (u.2.nm ∈ nms ((snds ts).take i ++ (snds ts).drop (i + 1)))) = true; rw [decide_eq_true h2]; decide) (ifF (by decide) keep)
    refine ifT (by show (!decide (u.2.nm ∈ nms ((snds ts).take i ++ (snds ts).drop (i + 1)))) = true; rw [decide_eq_false h2]; rfl) ?_
    refine ⟨_, rfl, u.1, _, ((1 : Nat) : Int), _, rfl, rfl, SqT.of hut, atI_nat rfl, _, rfl, u.1, _, ((2 : Nat) : Int), _, rfl, rfl, SqT.of hut, atI_nat rfl, rfl, _, rfl, ?_⟩
    by_cases h3 : u.2.st = u.2.en
    · exact ifF (by simp [h3]) keep
    refine ifT (by simp [h3]) ⟨_, rfl, _, hks, by rw [List.length_map]; omega, fun b o eb => ?_, ks ++ [u], ?_, ?_, fun k hk => ?_⟩
    · rw [upd_ne (ne_of_none eb nD2)]
      exact s5 _ _ eb
    · rw [upd_same, List.map_append]
      rfl
    · rw [List.length_append]
      simp only [List.length_cons, List.length_nil]
      omega
    · rcases List.mem_append.mp hk with h | h
      · exact kp k h
      · rw [List.mem_singleton.mp h]
        exact ⟨um, h1, h2, h3⟩
  · rintro H5 ⟨s5, ks, hks, kl, kp⟩
    rw [List.length_map] at kl
    have s05 := same_trans s04 s5
    have fd5 := fd.keep s05
    have hl5 := hl.keep s05
    have sH0 := same_trans s0 s05
    refine ⟨_, rfl, _, rfl, D2, rfl, ⟨_, SqL.of hks⟩, fun D3 nD3 => ?_⟩
    have hkt : ∀ k ∈ ks, H5 k.1 = some (.tup k.2.vals) := fun k hk => s5 _ _ (hS4.2 k (kp k hk).1)
    refine lc_list (K := K) (a := D2) (xs := ks.map fun t => V.ref t.1) (fun j H' => Same H5 H' ∧ ∃ bs : List (Addr × List (Addr × S5)), Fd H0 H' (snds ts) D3 bs ∧ (∀ b ∈ bs, b.1 ≠ D3) ∧ bs.length ≤ j)
      ⟨same_upd nD3, [], ⟨upd_same, fun a ha => by simp at ha, sH0.free nD3⟩, fun b hb => by simp at hb, Nat.le_refl _⟩ (fun j H' _ h => SqL.of (h.1 _ _ hks)) ?_ ?_
    · rintro j x H' hj ⟨s6, bs, fb, nb, bl⟩
      obtain ⟨k, hk, rfl⟩ := at_map hj
      have km := List.mem_of_getElem? hk
      have jl := (List.getElem?_eq_some_iff.mp hk).1
      obtain ⟨k1, k2, k3, k4⟩ := kp k km
      have hl6 := hl5.keep s6
      have s06 := same_trans sH0 s6
      refine ⟨rfl, _, rfl, _, rfl, _, rfl, l, _, rfl, SqL.of hl6.1, fun A1 nA1 => ?_⟩
      rw [cut_take, ← List.map_take]
      have t1 := same_upd (o := .lst ((ts.take i).map fun t => V.ref t.1)) nA1
      have hA1 : upd H' A1 (.lst ((ts.take i).map fun t => V.ref t.1)) A1 = some (.lst ((ts.take i).map fun t => V.ref t.1)) := upd_same
      generalize upd H' A1 (.lst ((ts.take i).map fun t => V.ref t.1)) = G1 at t1 hA1 ⊢
      refine ⟨_, rfl, (by show 1 ≤ sizeLine; rw [sl]; decide), fun B nB => ?_⟩
      have t2 := same_upd (o := .lst [V.ref k.1]) nB
      have hB : upd G1 B (.lst [V.ref k.1]) B = some (.lst [V.ref k.1]) := upd_same
      generalize upd G1 B (.lst [V.ref k.1]) = G2 at t2 hB ⊢
      refine ⟨A1, B, _, _, rfl, rfl, t2 _ _ hA1, hB, ?_, fun C1 nC1 => ?_⟩
      · rw [List.length_map, List.length_take]
        simp only [List.length_cons, List.length_nil]
        omega
      have t3 := same_upd (o := .lst (((ts.take i).map fun t => V.ref t.1) ++ [V.ref k.1])) nC1
      have hC1 : upd G2 C1 (.lst (((ts.take i).map fun t => V.ref t.1) ++ [V.ref k.1])) C1 = some (.lst (((ts.take i).map fun t => V.ref t.1) ++ [V.ref k.1])) := upd_same
      generalize upd G2 C1 (.lst (((ts.take i).map fun t => V.ref t.1) ++ [V.ref k.1])) = G3 at t3 hC1 ⊢
      have t03 := same_trans t1 (same_trans t2 t3)
      refine ⟨_, rfl, _, rfl, _, _, rfl, rfl, _, rfl, l, _, rfl, SqL.of (t03 _ _ hl6.1), fun A2 nA2 => ?_⟩
      have e1 : ((i : Int) + 1) = ((i + 1 : Nat) : Int) := by omega
      rw [e1, cut_drop, ← List.map_drop]
      have t4 := same_upd (o := .lst ((ts.drop (i + 1)).map fun t => V.ref t.1)) nA2
      have hA2 : upd G3 A2 (.lst ((ts.drop (i + 1)).map fun t => V.ref t.1)) A2 = some (.lst ((ts.drop (i + 1)).map fun t => V.ref t.1)) := upd_same
      generalize upd G3 A2 (.lst ((ts.drop (i + 1)).map fun t => V.ref t.1)) = G4 at t4 hA2 ⊢
      refine ⟨C1, A2, _, _, rfl, rfl, t4 _ _ hC1, hA2, ?_, fun C2 nC2 => ?_⟩
      · rw [List.length_append, List.length_map, List.length_take, List.length_map, List.length_drop]
        simp only [List.length_cons, List.length_nil]
        omega
      have e2 : (((ts.take i).map fun t => V.ref t.1) ++ [V.ref k.1]) ++ ((ts.drop (i + 1)).map fun t => V.ref t.1) = (ts.take i ++ [k] ++ ts.drop (i + 1)).map fun t => V.ref t.1 := by
        rw [List.map_append, List.map_append]
        rfl
      rw [e2]
      have t5 := same_upd (o := .lst ((ts.take i ++ [k] ++ ts.drop (i + 1)).map fun t => V.ref t.1)) nC2
      have t05 := same_trans t03 (same_trans t4 t5)
      have hC2 : Sts (upd G4 C2 (.lst ((ts.take i ++ [k] ++ ts.drop (i + 1)).map fun t => V.ref t.1))) C2 (ts.take i ++ [k] ++ ts.drop (i + 1)) := by
        refine ⟨upd_same, fun u hu => ?_⟩
        rcases List.mem_append.mp hu with h | h
        · rcases List.mem_append.mp h with h | h
          · exact t05 _ _ (hl6.2 u (List.mem_of_mem_take h))
          · rw [List.mem_singleton.mp h]
            exact t05 _ _ (s6 _ _ (hkt k km))
        · exact t05 _ _ (hl6.2 u (List.mem_of_mem_drop h))
      have nCD : C2 ≠ D3 := fun e => by
        have h := (same_trans t03 t4) _ _ fb.l
        rw [← e, nC2] at h
        cases h
      have n0 : H0 C2 = none := (same_trans s06 (same_trans t03 t4)).free nC2
      generalize upd G4 C2 (.lst ((ts.take i ++ [k] ++ ts.drop (i + 1)).map fun t => V.ref t.1)) = G5 at t05 hC2 ⊢
      obtain ⟨g1, g2⟩ := oth_rep (i := i) so il2 (vp k k1) k4 k2 k3
      rw [← snds_rep] at g1 g2
      obtain ⟨f1, f2⟩ := (fb.keep t05).put nb hC2 g1 g2 n0 nCD
      refine ⟨_, (fb.keep t05).l, by rw [List.length_map]; omega, fun b o eb => ?_, _, f1, f2, ?_⟩
      · rw [upd_ne (ne_of_none eb nD3)]
        exact t05 _ _ (s6 _ _ eb)
      · rw [List.length_append]
        simp only [List.length_cons, List.length_nil]
        omega
    · rintro H6 ⟨s6, bs, fb, nb, bl⟩
      rw [List.length_map] at bl
      have fd6 := fd5.keep s6
      refine ⟨F, D3, _, _, rfl, rfl, fd6.l, fb.l, by rw [List.length_map, List.length_map]; omega, fun p2 np => ?_⟩
      have s06 := same_trans s05 s6
      exact q p2 _ _ _ _ _ (same_trans s06 (same_upd np)) (fd_app fd6 fb np ((same_trans s0 s06).free np)) (by rw [List.length_append]; omega)
end
end K2
end
section
set_option Elab.async false
set_option linter.all false
set_option maxRecDepth 100000
set_option maxHeartbeats 16000000
namespace K2
open PySem PySem.Spec PyProof.Rows L2
abbrev teO1 (K : PySem.W.Frag) : TE := tOp rCat (tSl (rSlL K) (tVar 1) tNoPart (tPart (tVar 2))) (tSl (rSlL K) (tVar 1) (tPart (tOp (rI0 fun i j => .int (i + j)) (tVar 2) (tC (.int 1)))) tNoPart)
section
variable {P : Program} {w : World} {K : PySem.W.Frag} {mg : Str → Option Value} {base : Heap}
theorem ok_others {f : Addr} {fd : FuncData} (F : FnP K "_law_others" sOthers f fd) (GSh : Fz P w K mg base "_law_shuffled" 3 ["_law_purse_here", "_law_some"] spShuffled) (T : Tx K mg) : FnOk P w K mg base CX0 4 f fd ["_law_purse_here", "_law_streets"] spOthers := by
  refine F.ok scOthers (fun vs H Q E h => ?_) (fun cdv A outer s H vs Q E hr h => ?_)
  · obtain ⟨_, _, _, _, rfl, _⟩ := h
    rfl
  · obtain ⟨p, l, ts, n, rfl, hp, hn, hl, nlp, so, h17, z⟩ := h
    have gL := T.fr "len" (by decide +kernel)
    have gR := T.fr "range" (by decide +kernel)
    have sl := sizeLine_eq
    refine ⟨_, PSs.nox (pss_cons (ps_setLc (i := 3) (own := [("_law_at", 2)]) (g := gName 2) (tt := tYes) (te := teO1 K) rfl scOthers.nd rfl rfl (sw_true rfl rfl rfl (by decide +kernel)) (pi_range1 rfl gR (pa_cons (pe_callB call_len_seq (by rfl) gL PySem.boot_len (pa_cons (pv 1) pa_nil)) pa_nil)) (blkOk_by (own := [("_law_at", 2)]) (N := NOt) (sc := defScope sOthers) (by decide +kernel))
          (fun _ _ _ _ _ => pg_name (i := 2) scOthers.nd rfl (Or.inl rfl)) (fun _ _ _ _ _ => pts_nil) (fun _ _ _ _ _ => pe_op op_cat (pe_slice sl_list (pv 1) po_none (po_some (pv 2))) (pe_slice sl_list (pv 1) (po_some (pe_op op_add (pv 2) pe_int)) po_none)))
      (pss_cons (ps_for PassesOwn.never rfl (pi_range1 rfl gR (pa_cons (pe_callB call_len_seq (by rfl) gL PySem.boot_len (pa_cons (pv 1) pa_nil)) pa_nil)) (pg_name (i := 2) scOthers.nd rfl (Or.inr rfl))
        (othA (p := p) (l := l) (ts := ts) T (othB (p := p) (l := l) (ts := ts) (H0 := H) hr)))
      (pss_one (ps_ret (pe_slice sl_list (pe_fz GSh hr (by rfl) (pa_cons (pv 0) (pa_cons (pv 3) pa_nil))) po_none (po_some pe_int)))))), ?_⟩
    have cl : ∀ (xs : List V) (a b : Option Int), (cutV xs a b).length ≤ xs.length := fun xs a b => cutV_length xs a b
    refine ⟨_, rfl, l, _, rfl, Or.inl (SqL.of hl.1), _, rfl, by omega, by rw [List.length_map]; omega, fun D nD => ?_⟩
    refine lc_range (lo := 0) (n := (ts.map fun t => V.ref t.1).length) (fun j H' => Same H H' ∧ ∃ bs : List (Addr × List (Addr × S5)), Fd H H' (snds ts) D bs ∧ (∀ b ∈ bs, b.1 ≠ D) ∧ bs.length ≤ j)
      ⟨same_upd nD, [], ⟨upd_same, fun a ha => by simp at ha, nD⟩, fun b hb => by simp at hb, Nat.le_refl _⟩ ?_ ?_
    · rintro i H' hi ⟨s6, bs, fb, nb, bl⟩
      rw [List.length_map] at hi
      rw [Int.zero_add]
      have hl6 := hl.keep s6
      refine ⟨rfl, _, rfl, _, rfl, _, rfl, l, _, rfl, SqL.of hl6.1, fun A1 nA1 => ?_⟩
      have t1 := same_upd (o := .lst (cutV (ts.map fun t => V.ref t.1) none (some (i : Int)))) nA1
      have hA1 : upd H' A1 (.lst (cutV (ts.map fun t => V.ref t.1) none (some (i : Int)))) A1 = some (.lst (cutV (ts.map fun t => V.ref t.1) none (some (i : Int)))) := upd_same
      generalize upd H' A1 (.lst (cutV (ts.map fun t => V.ref t.1) none (some (i : Int)))) = G1 at t1 hA1 ⊢
      refine ⟨_, rfl, _, rfl, _, _, rfl, rfl, _, rfl, l, _, rfl, SqL.of (t1 _ _ hl6.1), fun A2 nA2 => ?_⟩
      have t2 := same_upd (o := .lst (cutV (ts.map fun t => V.ref t.1) (some ((i : Int) + 1)) none)) nA2
      have hA2 : upd G1 A2 (.lst (cutV (ts.map fun t => V.ref t.1) (some ((i : Int) + 1)) none)) A2 = some (.lst (cutV (ts.map fun t => V.ref t.1) (some ((i : Int) + 1)) none)) := upd_same
      generalize upd G1 A2 (.lst (cutV (ts.map fun t => V.ref t.1) (some ((i : Int) + 1)) none)) = G2 at t2 hA2 ⊢
      refine ⟨A1, A2, _, _, rfl, rfl, t2 _ _ hA1, hA2, ?_, fun C2 nC2 => ?_⟩
      · have c1 := cl (ts.map fun t => V.ref t.1) none (some (i : Int))
        have c2 := cl (ts.map fun t => V.ref t.1) (some ((i : Int) + 1)) none
        rw [List.length_map] at c1 c2
        omega
      rw [map_cut1]
      have t5 := same_upd (o := .lst ((ts.take i ++ ts.drop (i + 1)).map fun t => V.ref t.1)) nC2
      have t02 := same_trans t1 t2
      have t05 := same_trans t02 t5
      have sbt := sub_at ts i
      have hC2 : Sts (upd G2 C2 (.lst ((ts.take i ++ ts.drop (i + 1)).map fun t => V.ref t.1))) C2 (ts.take i ++ ts.drop (i + 1)) := ⟨upd_same, fun u hu => t05 _ _ (hl6.2 u (sbt.subset hu))⟩
      have nCD : C2 ≠ D := fun e => by
        have h := t02 _ _ fb.l
        rw [← e, nC2] at h
        cases h
      have n0 : H C2 = none := (same_trans s6 t02).free nC2
      generalize upd G2 C2 (.lst ((ts.take i ++ ts.drop (i + 1)).map fun t => V.ref t.1)) = G5 at t05 hC2 ⊢
      obtain ⟨g1, g2⟩ := oth_drop (i := i) so (by rw [List.length_map]; exact hi)
      rw [← snds_cut] at g1 g2
      obtain ⟨f1, f2⟩ := (fb.keep t05).put nb hC2 g1 g2 n0 nCD
      refine ⟨_, (fb.keep t05).l, by rw [List.length_map]; omega, fun b o eb => ?_, _, f1, f2, ?_⟩
      · rw [upd_ne (ne_of_none eb nD)]
        exact t05 _ _ (s6 _ _ eb)
      · rw [List.length_append]
        simp only [List.length_cons, List.length_nil]
        omega
    · rintro H1 ⟨s1, bs, fb, nb, bl⟩
      rw [List.length_map] at bl
      refine ⟨_, rfl, l, _, rfl, Or.inl (SqL.of (s1 _ _ hl.1)), _, rfl, by omega, by rw [List.length_map]; omega, ?_⟩
      refine for_range (n := (ts.map fun t => V.ref t.1).length) (fun i σ H' => Same H H' ∧ ∃ (F : Addr) (as : List (Addr × List (Addr × S5))) (o2 o4 o5 o6 o7 o8 o9 o10 o11 o12 o13 : Option V), σ = [some (.ref p), some (.ref l), o2, some (.ref F), o4, o5, o6, o7, o8, o9, o10, o11, o12, o13] ∧ Fd H H' (snds ts) F as ∧ as.length ≤ ts.length + 5 * i)
        ⟨s1, D, bs, _, _, _, _, _, _, _, _, _, _, _, rfl, fb, by omega⟩ ?_ ?_
      · rintro i σ H' hi ⟨s2, F, as, o2, o4, o5, o6, o7, o8, o9, o10, o11, o12, o13, rfl, fa, al⟩
        rw [List.length_map] at hi
        rw [Int.zero_add]
        have ht : ts[i]? = some ts[i] := List.getElem?_eq_getElem hi
        refine ⟨i, ts[i], F, _, _, _, _, _, _, _, _, _, _, rfl, ht, hl.keep s2, fun S vs r o4 o5 o6 o7 o8 o9 o10 H2 s3 nS hr2 hS ev => ?_⟩
        have okOf : ∀ t ∈ ts, t.2.Ok := fun t htm => so.ok _ (List.mem_map.mpr ⟨t, htm, rfl⟩)
        have vl : vs.length = 5 := by
          have := congrArg List.length ev
          rw [List.length_map] at this
          exact this
        refine ⟨i, ts[i], F, S, vs, as, _, _, _, _, _, _, _, _, _, rfl, ht, (hl.keep s2).keep s3, so, hS, by omega, fun v hv => ?_, fa.keep s3, by omega, same_trans s2 s3, fun F' as' o11 o12 o13 H3 s4 fa' al' => ?_⟩
        · refine vrs_pre (okOf _ (List.getElem_mem hi)) (okOf r hr2) v.2 ?_
          rw [← ev]
          exact List.mem_map.mpr ⟨v, hv, rfl⟩
        · exact ⟨same_trans s2 (same_trans s3 s4), F', as', _, _, _, _, _, _, _, _, _, _, _, rfl, fa', by omega⟩
      · rintro σ H' ⟨s2, F, as, o2, o4, o5, o6, o7, o8, o9, o10, o11, o12, o13, rfl, fa, al⟩
        rw [List.length_map] at al
        obtain ⟨xs, hpx, hpu⟩ := hp
        have hp2 : Pu H' p n := ⟨xs, s2 _ _ hpx, hpu⟩
        have nFp : F ≠ p := fun e => by
          have := fa.d
          rw [e, hpx] at this
          cases this
        refine ⟨_, rfl, _, rfl, p, F, n, _, rfl, hp2, by omega, fa.l, nFp, by rw [List.length_map]; omega, fun D2 us H2 pu hp3 bu nD2 hD2 => ?_⟩
        obtain ⟨as2, pa, rfl⟩ := perm_map_inv pu as rfl
        refine ⟨_, rfl, D2, _, rfl, SqL.of hD2, fun D3 nD3 => ?_⟩
        have e14 : (some (14 : Int)) = some ((14 : Nat) : Int) := rfl
        rw [e14, cut_take, ← List.map_take]
        have s5 := same_upd (o := .lst ((as2.take 14).map fun a => V.ref a.1)) nD3
        have n0 : H D3 = none := by
          have h1 : D3 ≠ p := fun e => by
            obtain ⟨ys, hy, _⟩ := hp3
            rw [e, hy] at nD3
            cases nD3
          exact s2.free (bu.free nD3 h1)
        refine z D3 (as2.take 14) _ ((hp3.same s5).mono (by rw [List.length_map]; omega)) (But.trans (Same.but s2) (But.trans bu (Same.but s5))) ⟨upd_same, fun a ha => ?_, n0⟩ (by rw [List.length_take]; omega)
        have ham : a ∈ as := pa.mem_iff.mp (List.mem_of_mem_take ha)
        obtain ⟨h1, h2, h3, h4⟩ := fa.i a ham
        have nap : a.1 ≠ p := fun e => by rw [e, hpx] at h4; cases h4
        refine ⟨⟨s5 _ _ (bu _ _ nap h1.1), fun t ht => s5 _ _ (bu _ _ (fun e => ?_) (h1.2 t ht))⟩, h2, h3, h4⟩
        have e1 := h1.2 t ht
        rw [e, s2 _ _ hpx] at e1
        cases e1
end
end K2
end
section
set_option Elab.async false
set_option linter.all false
set_option maxRecDepth 100000
set_option maxHeartbeats 16000000
namespace K2
open PySem PySem.Spec PyProof.Rows L2
/-- [x for x in ws if x not in (an expression)] -/
theorem lc_notinE {K : PySem.W.Frag} {J : It} {G : Hp → Prop} {ws bs : List Str} (wk : Walk J ws.length G (YAt (ws.map V.str))) {σ : L2.St} {i : Nat} {F D : Addr} {H1 : Hp} {Qd : Hp → Prop} {tb : TE} (nD : H1 D = none) (hG : ∀ H', Same H1 H' → G H')
    (hF : Ws H1 F bs) (hl : ws.length ≤ 1000) (hi : ∀ v, ((wipe σ [i]).set i (some v))[i]? = some (some v)) (hb : ∀ v H' Q, Same H1 H' → Q (.ref F) H' → tb ((wipe σ [i]).set i (some v)) H' Q) (hw : ∀ v, wipe ((wipe σ [i]).set i (some v)) [i] = wipe σ [i])
    (fin : ∀ H', Same H1 H' → Ws H' D (ws.filter fun x => decide (x ∉ bs)) → Qd H') :
    ∃ W : Nat → Nat → Hp → Prop, (∃ m, W 0 m (upd H1 D (.lst []))) ∧ ∀ n m H, W n m H →
      (J.stop n H ∧ Qd H) ∨ (J.go n H ∧ ∃ Nx : Hp → Prop, (∀ H', Nx H' → ∃ m', m' < m ∧ W (n + 1) m' H') ∧ ∀ x H', J.yld n H x H' → gName i x (wipe σ [i]) H' fun σ2 H2 => wipe σ2 [i] = wipe σ [i] ∧ tTest (tOp (rIn K true) (tVar i) tb) σ2 H2 fun b H3 =>
        if b = true then tVar i σ2 H3 fun y H4 => ∃ acc, H4 D = some (.lst acc) ∧ acc.length < sizeLine ∧ Nx (upd H4 D (.lst (acc ++ [y]))) else Nx H3) := by
  have sl := sizeLine_eq
  refine lc_it wk (fun n H' => Same H1 H' ∧ H' D = some (.lst (((ws.take n).filter fun x => decide (x ∉ bs)).map V.str))) ⟨same_upd nD, upd_same⟩ (fun n H' _ h => hG H' h.1) ?_ ?_
  · rintro n x H' H2 hn ⟨s1, hD⟩ ⟨rfl, hx⟩
    obtain ⟨c, hc, rfl⟩ := at_map hx
    have et : ws.take (n + 1) = ws.take n ++ [c] := by
      rw [List.take_add_one, hc]
      rfl
    have ll : ((ws.take n).filter fun x => decide (x ∉ bs)).length ≤ n := Nat.le_trans (List.length_filter_le _ _) (by rw [List.length_take]; omega)
    refine ⟨hw _, _, hi _, hb _ _ _ s1 ⟨F, bs.map V.str, rfl, Or.inl (SqL.of (s1 _ _ hF)), rfl, flat_strs bs, _, rfl, ?_⟩⟩
    rw [inV_str]
    by_cases hb : c ∈ bs
    · refine ifF (by show ¬ (!decide (c ∈ bs)) = true; rw [decide_eq_true hb]; decide) ⟨s1, ?_⟩
      rw [et, List.filter_append]
      simp [hD, hb]
    · refine ifT (by show (!decide (c ∈ bs)) = true; rw [decide_eq_false hb]; rfl) ⟨_, hi _, _, hD, by rw [List.length_map]; omega, fun b o eb => ?_, ?_⟩
      · rw [upd_ne (ne_of_none eb nD)]
        exact s1 _ _ eb
      · rw [upd_same, et, List.filter_append]
        simp [hb]
  · rintro H' ⟨s1, hD⟩
    rw [List.take_length] at hD
    exact fin H' s1 hD
/-- a world at W whose parts aren't the purse -/
structure WoP (H : Hp) (p W ls lg lc ln : Addr) (ts : List (Addr × S5)) (gs cs ns : List Str) : Prop where
  at_ : H W = some (.lst [.ref ls, .ref lg, .ref lc, .ref ln])
  wo : Wo H ls lg lc ln ts gs cs ns
  nW : W ≠ p
  ns_ : ls ≠ p
  ng : lg ≠ p
  nc : lc ≠ p
  nn : ln ≠ p
theorem Sts.but {H H' : Hp} {p l : Addr} {ts : List (Addr × S5)} (h : Sts H l ts) (b : But p H H') (nl : l ≠ p) (hp : ∃ xs, H p = some (.lst xs)) : Sts H' l ts := by
  refine ⟨b _ _ nl h.1, fun t ht => b _ _ (fun e => ?_) (h.2 t ht)⟩
  obtain ⟨xs, hp⟩ := hp
  have e1 := h.2 t ht
  rw [e, hp] at e1
  cases e1
theorem WoP.but {H H' : Hp} {p W ls lg lc ln : Addr} {ts : List (Addr × S5)} {gs cs ns : List Str} (h : WoP H p W ls lg lc ln ts gs cs ns) (b : But p H H') (hp : ∃ xs, H p = some (.lst xs)) : WoP H' p W ls lg lc ln ts gs cs ns := by
  obtain ⟨h1, ⟨s, g, c, n, r1, r2, r3, r4, r5, r6, r7, r8, r9, r10⟩, a, a1, a2, a3, a4⟩ := h
  exact ⟨b _ _ a h1, ⟨s.but b a1 hp, b _ _ a2 g, b _ _ a3 c, b _ _ a4 n, r1, r2, r3, r4, r5, r6, r7, r8, r9, r10⟩, a, a1, a2, a3, a4⟩
theorem WoP.keep {H H' : Hp} {p W ls lg lc ln : Addr} {ts : List (Addr × S5)} {gs cs ns : List Str} (h : WoP H p W ls lg lc ln ts gs cs ns) (b : Same H H') : WoP H' p W ls lg lc ln ts gs cs ns := by
  obtain ⟨h1, ⟨s, g, c, n, r1, r2, r3, r4, r5, r6, r7, r8, r9, r10⟩, a, a1, a2, a3, a4⟩ := h
  exact ⟨b _ _ h1, ⟨s.keep b, b _ _ g, b _ _ c, b _ _ n, r1, r2, r3, r4, r5, r6, r7, r8, r9, r10⟩, a, a1, a2, a3, a4⟩
theorem Pu.lst {H : Hp} {p : Addr} {n : Int} (h : Pu H p n) : ∃ xs, H p = some (.lst xs) := by
  obtain ⟨xs, h, _⟩ := h
  exact ⟨xs, h⟩
theorem Wo.gnd {H : Hp} {ls lg lc ln : Addr} {ts : List (Addr × S5)} {gs cs ns : List Str} (h : Wo H ls lg lc ln ts gs cs ns) : gs.Nodup ∧ (∀ x ∈ gs, x ∈ cs) ∧ gs ≠ [] ∧ gs.length ≤ 5 := by
  obtain ⟨k, k1, k5, kc, rfl⟩ := h.gp
  refine ⟨(List.take_sublist _ _).nodup h.cd, fun x hx => List.mem_of_mem_take hx, fun e => ?_, by rw [List.length_take]; omega⟩
  have := congrArg List.length e
  rw [List.length_take, List.length_nil] at this
  omega
theorem Wo.sok {H : Hp} {ls lg lc ln : Addr} {ts : List (Addr × S5)} {gs cs ns : List Str} (h : Wo H ls lg lc ln ts gs cs ns) : SOk (snds ts) := by
  refine ⟨fun s hs => ?_, ?_, ?_⟩
  · obtain ⟨t, ht, rfl⟩ := List.mem_map.mp hs
    exact (h.ok t ht).1
  · rw [← nms_snds]
    exact h.nd
  · have := h.l2
    have := h.l3
    rw [List.length_map]
    omega
theorem Wo.gok {H : Hp} {ls lg lc ln : Addr} {ts : List (Addr × S5)} {gs cs ns : List Str} (h : Wo H ls lg lc ln ts gs cs ns) : GOk gs := by
  obtain ⟨h1, h2, h3, h4⟩ := h.gnd
  exact ⟨fun x hx => h.cw x (h2 x hx), h1, h3, by omega⟩
theorem nodup_filter_app {α : Type} [DecidableEq α] {cs ws : List α} (h1 : cs.Nodup) (h2 : ws.Nodup) : (cs ++ ws.filter fun x => decide (x ∉ cs)).Nodup :=
  List.nodup_append.mpr ⟨h1, List.filter_sublist.nodup h2, fun x hx y hy e => by
    subst e
    exact of_decide_eq_true (List.mem_filter.mp hy).2 hx⟩
section
variable {P : Program} {w : World} {K : PySem.W.Frag} {mg : Str → Option Value} {base : Heap}
/-! ### _law_quarter -/
def spLQuarter (CQ : Addr) : Sp := fun vs H Q _ => ∃ (p W ls lg lc ln : Addr) (ts : List (Addr × S5)) (gs cs ns : List Str), vs = [.ref W] ∧ WoP H p W ls lg lc ln ts gs cs ns ∧ ∀ q H', Same H H' → H q = none → IsQ H' CQ q (snds ts) gs → Q (.ref q) H'
theorem scLQuarter : FnScope ["_law_world_here"] ["_law_world_here"] (defScope sQuarter) := ⟨rfl, rfl, rfl, by decide +kernel, rfl, by decide +kernel, by decide +kernel⟩
theorem ok_lQuarter {CQ : Addr} {f : Addr} {fd : FuncData} (F : FnP K "_law_quarter" sQuarter f fd) (M : MkQ P w K mg base CQ) (T : Tx K mg) : FnOk P w K mg base CX0 8 f fd ["_law_world_here"] (spLQuarter CQ) := by
  refine F.ok scLQuarter (fun vs H Q E h => ?_) (fun cdv A outer s H vs Q E hr h => ?_)
  · obtain ⟨_, _, _, _, _, _, _, _, _, _, rfl, _⟩ := h
    rfl
  · obtain ⟨p, W, ls, lg, lc, ln, ts, gs, cs, ns, rfl, hW, q⟩ := h
    have gLi := T.fr "list" (by decide +kernel)
    refine ⟨_, PSs.nox (pss_one (ps_ret (pe_qu M hr (by rfl) (pa_cons (pe_callTy call_list_of (by rfl) gLi (by decide +kernel) (pa_cons (pe_ix ix_list (pv 0) pe_int (fun _ _ => rfl)) pa_nil)) (pa_cons (pe_callTy call_list_of (by rfl) gLi (by decide +kernel) (pa_cons (pe_ix ix_list (pv 0) pe_int (fun _ _ => rfl)) pa_nil)) pa_nil))))), ?_⟩
    have wo := hW.wo
    refine ⟨_, rfl, W, _, ((0 : Nat) : Int), _, rfl, rfl, SqL.of hW.at_, atI_nat rfl, ls, _, rfl, Or.inl (SqL.of wo.s.1), fun D1 n1 => ?_⟩
    have s1 := same_upd (o := .lst (ts.map fun t => V.ref t.1)) n1
    have h1 : Sts (upd H D1 (.lst (ts.map fun t => V.ref t.1))) D1 ts := ⟨upd_same, fun t ht => s1 _ _ (wo.s.2 t ht)⟩
    generalize upd H D1 (.lst (ts.map fun t => V.ref t.1)) = H1 at s1 h1 ⊢
    refine ⟨_, rfl, W, _, ((1 : Nat) : Int), _, rfl, rfl, SqL.of (s1 _ _ hW.at_), atI_nat rfl, lg, _, rfl, Or.inl (SqL.of (s1 _ _ wo.g)), fun D2 n2 => ?_⟩
    have s2 := same_upd (o := .lst (gs.map V.str)) n2
    have h2 : Ws (upd H1 D2 (.lst (gs.map V.str))) D2 gs := upd_same
    generalize upd H1 D2 (.lst (gs.map V.str)) = H2 at s2 h2 ⊢
    have s02 := same_trans s1 s2
    exact ⟨D1, D2, ts, gs, rfl, h1.keep s2, wo.sok, h2, wo.gok, fun q' dx l' g' ts' gs' H' s3 nq _ _ hq pt as pg ag => q q' H' (same_trans s02 s3) (s02.free nq) ⟨⟨dx, l', g', ts', gs', hq, pt.map fun t => t.2, as, pg, ag⟩, wo.sok, wo.gok⟩⟩
end
end K2
end
section
set_option Elab.async false
set_option linter.all false
set_option maxRecDepth 100000
set_option maxHeartbeats 16000000
namespace K2
open PySem PySem.Spec PyProof.Rows L2
def spTownWorld : Sp := fun vs H Q _ => ∃ (p W ls lg lc ln : Addr) (ts : List (Addr × S5)) (gs cs ns : List Str) (own most n : Int), vs = [.ref p, .ref W, .int own, .int most] ∧ WoP H p W ls lg lc ln ts gs cs ns ∧ Pu H p n ∧ n ≤ 400000 ∧ 0 ≤ own ∧ own ≤ 6 ∧ 0 ≤ most ∧ most ≤ 10 ∧
  ∀ (D : Addr) (us : List (Addr × S5)) (H' : Hp), Pu H' p (n + 500) → But p H H' → H D = none → Sts H' D us → SOk (snds us) → us.length ≤ 10 → Q (.ref D) H'
abbrev NTw : List Str := ["_law_purse_here", "_law_world_here", "_law_own", "_law_most", "_law_pool", "_law_inner", "_law_places", "_law_names", "_law_many", "_law_word_here", "_law_name"]
theorem scTownWorld : FnScope NTw ["_law_purse_here", "_law_world_here", "_law_own", "_law_most"] (defScope sTownWorld) := ⟨rfl, rfl, rfl, by decide +kernel, rfl, by decide +kernel, by decide +kernel⟩
theorem walk_strs {K : PySem.W.Frag} {a : Addr} {ws : List Str} : Walk (Itl K a) ws.length (fun H => SqL K H a (ws.map V.str)) (YAt (ws.map V.str)) := by
  have h := walk_list (K := K) (a := a) (xs := ws.map V.str)
  rw [List.length_map] at h
  exact h
theorem take_app_nodup {gs xs : List Str} {k : Nat} (h1 : gs.Nodup) (h2 : xs.Nodup) (hd : ∀ x ∈ xs, x ∉ gs) : (gs ++ xs.take k).Nodup :=
  List.nodup_append.mpr ⟨h1, (List.take_sublist _ _).nodup h2, fun x hx y hy e => by
    subst e
    exact hd x (List.mem_of_mem_take hy) hx⟩
section
variable {P : Program} {w : World} {K : PySem.W.Frag} {mg : Str → Option Value} {base : Heap}
theorem ok_townWorld {f : Addr} {fd : FuncData} (F : FnP K "_law_town_world" sTownWorld f fd) (G : DrawZ P w K mg base) (GWs : Fz P w K mg base "_law_words" 4 ["_law_purse_here", "_law_many"] spWords) (GSh : Fz P w K mg base "_law_shuffled" 3 ["_law_purse_here", "_law_some"] spShuffled)
    (GSt : Fz P w K mg base "_law_streets_of" 5 ["_law_purse_here", "_law_crossings", "_law_names", "_law_pairs", "_law_many"] spStreetsOf) (T : Tx K mg) :
    FnOk P w K mg base CX0 6 f fd ["_law_purse_here", "_law_world_here", "_law_own", "_law_most"] spTownWorld := by
  refine F.ok scTownWorld (fun vs H Q E h => ?_) (fun cdv A outer s H vs Q E hr h => ?_)
  · obtain ⟨_, _, _, _, _, _, _, _, _, _, _, _, _, rfl, _⟩ := h
    rfl
  · obtain ⟨p, W, ls, lg, lc, ln, ts, gs, cs, ns, own, most, n, rfl, hW, hp, hn, o0, o6, m0, m10, q⟩ := h
    have gL := T.fr "len" (by decide +kernel)
    have gMi := T.fr "min" (by decide +kernel)
    have gLi := T.fr "list" (by decide +kernel)
    have sl := sizeLine_eq
    have r4 : Room 4 (A.deeper (envOfC "_law_town_world" (defScope sTownWorld) s.heap.objs.size f cdv)) := hr.mono (by decide)
    have r3 : Room 3 (A.deeper (envOfC "_law_town_world" (defScope sTownWorld) s.heap.objs.size f cdv)) := hr.mono (by decide)
    have r2 : Room 2 (A.deeper (envOfC "_law_town_world" (defScope sTownWorld) s.heap.objs.size f cdv)) := hr.mono (by decide)
    refine ⟨_, PSs.nox (pss_cons (ps_set (i := 4) scTownWorld.nd rfl (Or.inr rfl) (pe_op op_cat (pe_ix ix_list (pv 1) pe_int (fun _ _ => rfl))
        (pe_lc (own := [("_law_word_here", 9)]) (g := gName 9) (tt := tTest (tOp (rIn K true) (tVar 9) (tOp (rIxL K) (tVar 1) (tC (.int ((2 : Nat) : Int)))))) rfl scTownWorld.nd (pi_list (pe_fz GWs r4 (by rfl) (pa_cons (pv 0) (pa_cons pe_int pa_nil)))) (blkOk_by (own := [("_law_word_here", 9)]) (N := NTw) (sc := defScope sTownWorld) (by decide +kernel))
          (fun _ _ _ _ _ => pg_name (i := 9) scTownWorld.nd rfl (Or.inl rfl)) (fun _ _ _ _ _ => pts_one (pt_cmpR op_notIn_seq (pv 9) (pe_ix ix_list (pv 1) pe_int (fun _ _ => rfl)) rfl)) (fun _ _ _ _ _ => pv 9))))
      (pss_cons (ps_setLc (i := 5) (own := [("_law_word_here", 9)]) (g := gName 9) (tt := tTest (tOp (rIn K true) (tVar 9) (tOp (rIxL K) (tVar 1) (tC (.int ((1 : Nat) : Int)))))) rfl scTownWorld.nd rfl rfl (sw_true rfl rfl rfl (by decide +kernel)) (pi_list (pe_ix ix_list (pv 1) pe_int (fun _ _ => rfl))) (blkOk_by (own := [("_law_word_here", 9)]) (N := NTw) (sc := defScope sTownWorld) (by decide +kernel))
          (fun _ _ _ _ _ => pg_name (i := 9) scTownWorld.nd rfl (Or.inl rfl)) (fun _ _ _ _ _ => pts_one (pt_cmpR op_notIn_seq (pv 9) (pe_ix ix_list (pv 1) pe_int (fun _ _ => rfl)) rfl)) (fun _ _ _ _ _ => pv 9))
      (pss_cons (ps_set (i := 6) scTownWorld.nd rfl (Or.inl rfl) (pe_op op_cat (pe_callTy call_list_of (by rfl) gLi (by decide +kernel) (pa_cons (pe_ix ix_list (pv 1) pe_int (fun _ _ => rfl)) pa_nil))
          (pe_slice sl_list (pe_op op_cat (pv 5) (pe_slice sl_list (pv 4) (po_some (pe_callB call_len_seq (by rfl) gL PySem.boot_len (pa_cons (pe_ix ix_list (pv 1) pe_int (fun _ _ => rfl)) pa_nil))) po_none)) po_none (po_some (pv 2)))))
      (C8.pss_cut (ps_if (pt_cmpR op_eq (pe_fz G r2 (by rfl) (pa_cons (pv 0) (pa_cons pe_int pa_nil))) pe_int (nomark _)) (pss_one (ps_set (i := 6) scTownWorld.nd rfl (Or.inl rfl) (pe_op op_cat (pe_callTy call_list_of (by rfl) gLi (by decide +kernel) (pa_cons (pe_ix ix_list (pv 1) pe_int (fun _ _ => rfl)) pa_nil))
          (pe_slice sl_list (pe_slice sl_list (pv 4) (po_some (pe_callB call_len_seq (by rfl) gL PySem.boot_len (pa_cons (pe_ix ix_list (pv 1) pe_int (fun _ _ => rfl)) pa_nil))) po_none) po_none (po_some (pv 2)))))) pss_nil)
      (pss_cons (ps_set (i := 7) scTownWorld.nd rfl (Or.inl rfl) (pe_fz GSh r3 (by rfl) (pa_cons (pv 0) (pa_cons (pe_op op_cat (pv 4)
          (pe_lc (own := [("_law_name", 10)]) (g := gName 10) (tt := tTest (tOp (rIn K true) (tVar 10) (tVar 4))) rfl scTownWorld.nd (pi_list (pe_ix ix_list (pv 1) pe_int (fun _ _ => rfl))) (blkOk_by (own := [("_law_name", 10)]) (N := NTw) (sc := defScope sTownWorld) (by decide +kernel))
            (fun _ _ _ _ _ => pg_name (i := 10) scTownWorld.nd rfl (Or.inl rfl)) (fun _ _ _ _ _ => pts_one (pt_cmpR op_notIn_seq (pv 10) (pv 4) rfl)) (fun _ _ _ _ _ => pv 10))) pa_nil))))
      (pss_cons (ps_set (i := 8) scTownWorld.nd rfl (Or.inl rfl) (pe_fz G r2 (by rfl) (pa_cons (pv 0) (pa_cons (pe_op op_add (pv 3) pe_int) pa_nil))))
      (pss_one (ps_ret (pe_fz GSt hr (by rfl) (pa_cons (pv 0) (pa_cons (pv 6) (pa_cons (pv 7) (pa_cons (pe_lst pa_nil) (pa_cons (pe_callB (call_min2 rfl) (by rfl) gMi (by decide +kernel) (pa_cons (pv 8) (pa_cons (pe_callB call_len_seq (by rfl) gL PySem.boot_len (pa_cons (pv 7) pa_nil)) pa_nil))) pa_nil)))))))))))))), ?_⟩
    have c9 := hW.wo.l1
    have n14 := hW.wo.l2
    obtain ⟨gnd, gsub, gne, g5⟩ := hW.wo.gnd
    -- pool
    refine ⟨_, rfl, W, _, ((2 : Nat) : Int), _, rfl, rfl, SqL.of hW.at_, atI_nat rfl, ?_⟩
    refine ⟨_, rfl, p, 8, n, rfl, hp, by omega, by decide, by decide, fun D1 ws H1 wl wnd wwd hp1 b1 fD1 hD1 => ?_⟩
    have hW1 := hW.but b1 hp.lst
    refine ⟨D1, rfl, ⟨_, SqL.of hD1⟩, fun D2 nD2 => ?_⟩
    refine lc_notinE (K := K) (i := 9) (F := lc) (bs := cs) (ws := ws) (walk_strs (K := K) (a := D1) (ws := ws)) nD2 (fun H' s => SqL.of (s _ _ hD1)) hW1.wo.c (by omega) (fun v => rfl) (fun v H' Q' s q' => ⟨_, rfl, W, _, ((2 : Nat) : Int), _, rfl, rfl, SqL.of (s _ _ hW1.at_), atI_nat rfl, q'⟩) (fun v => rfl) fun H2 s2 hD2 => ?_
    have hW2 := hW1.keep s2
    have hp2 := hp1.same s2
    have b2 := b1.trans (Same.but (p := p) s2)
    have w8 : (ws.filter fun x => decide (x ∉ cs)).length ≤ 8 := Nat.le_trans (List.length_filter_le _ _) (by omega)
    have w8nd : (ws.filter fun x => decide (x ∉ cs)).Nodup := List.filter_sublist.nodup wnd
    have w8wd : ∀ x ∈ ws.filter (fun x => decide (x ∉ cs)), Wd x := fun x hx => wwd x (List.mem_filter.mp hx).1
    have w8n : ∀ x ∈ ws.filter (fun x => decide (x ∉ cs)), x ∉ cs := fun x hx => of_decide_eq_true (List.mem_filter.mp hx).2
    have pnd : (cs ++ ws.filter fun x => decide (x ∉ cs)).Nodup := nodup_filter_app hW.wo.cd wnd
    generalize (ws.filter fun x => decide (x ∉ cs)) = vs at hD2 w8 w8nd w8wd w8n pnd
    refine ⟨lc, D2, _, _, rfl, rfl, hW2.wo.c, hD2, by rw [List.length_map, List.length_map]; omega, fun L nL => ?_⟩
    rw [← List.map_append]
    have s3 := same_upd (o := .lst ((cs ++ vs).map V.str)) nL
    have hL : Ws (upd H2 L (.lst ((cs ++ vs).map V.str))) L (cs ++ vs) := upd_same
    have nLp : L ≠ p := fun e => by
      obtain ⟨xs, hx⟩ := hp2.lst
      rw [e, hx] at nL
      cases nL
    generalize upd H2 L (.lst ((cs ++ vs).map V.str)) = H3 at s3 hL ⊢
    have hW3 := hW2.keep s3
    have hp3 := hp2.same s3
    have b3 := b2.trans (Same.but (p := p) s3)
    -- inner
    refine ⟨_, rfl, W, _, ((2 : Nat) : Int), _, rfl, rfl, SqL.of hW3.at_, atI_nat rfl, lc, rfl, ⟨_, SqL.of hW3.wo.c⟩, fun D4 nD4 => ?_⟩
    refine lc_notinE (K := K) (i := 9) (F := lg) (bs := gs) (ws := cs) (walk_strs (K := K) (a := lc) (ws := cs)) nD4 (fun H' s => SqL.of (s _ _ hW3.wo.c)) hW3.wo.g (by omega) (fun v => rfl) (fun v H' Q' s q' => ⟨_, rfl, W, _, ((1 : Nat) : Int), _, rfl, rfl, SqL.of (s _ _ hW3.at_), atI_nat rfl, q'⟩) (fun v => rfl) fun H4 s4 hD4 => ?_
    have inl : (cs.filter fun x => decide (x ∉ gs)).length ≤ 9 := Nat.le_trans (List.length_filter_le _ _) c9
    have ind : (cs.filter fun x => decide (x ∉ gs)).Nodup := List.filter_sublist.nodup hW.wo.cd
    have ins : ∀ x ∈ cs.filter (fun x => decide (x ∉ gs)), x ∈ cs ∧ x ∉ gs := fun x hx => ⟨(List.mem_filter.mp hx).1, of_decide_eq_true (List.mem_filter.mp hx).2⟩
    generalize (cs.filter fun x => decide (x ∉ gs)) = is at hD4 inl ind ins
    have hW4 := hW3.keep s4
    have hL4 := s4 _ _ hL
    obtain ⟨ow, rfl⟩ := Int.eq_ofNat_of_zero_le o0
    have edrop : cutV ((cs ++ vs).map V.str) (some ((cs.map V.str).length : Int)) none = vs.map V.str := by
      rw [cut_drop, List.length_map, ← List.map_drop, List.drop_append_of_le_length (Nat.le_refl _), List.drop_length, List.nil_append]
    -- places
    refine ⟨_, rfl, W, _, ((1 : Nat) : Int), _, rfl, rfl, SqL.of hW4.at_, atI_nat rfl, lg, _, rfl, Or.inl (SqL.of hW4.wo.g), fun A1 nA1 => ?_⟩
    have s5 := same_upd (o := .lst (gs.map V.str)) nA1
    have hA1 : Ws (upd H4 A1 (.lst (gs.map V.str))) A1 gs := upd_same
    generalize upd H4 A1 (.lst (gs.map V.str)) = H5 at s5 hA1 ⊢
    have hW5 := hW4.keep s5
    refine ⟨_, rfl, _, rfl, _, rfl, W, _, ((2 : Nat) : Int), _, rfl, rfl, SqL.of hW5.at_, atI_nat rfl, lc, _, rfl, Or.inl (SqL.of hW5.wo.c), _, rfl, L, _, rfl, SqL.of (s5 _ _ hL4), fun A2 nA2 => ?_⟩
    rw [edrop]
    have s6 := same_upd (o := .lst (vs.map V.str)) nA2
    have hA2 : Ws (upd H5 A2 (.lst (vs.map V.str))) A2 vs := upd_same
    generalize upd H5 A2 (.lst (vs.map V.str)) = H6 at s6 hA2 ⊢
    refine ⟨D4, A2, _, _, rfl, rfl, s6 _ _ (s5 _ _ hD4), hA2, by rw [List.length_map, List.length_map]; omega, fun A3 nA3 => ?_⟩
    rw [← List.map_append]
    have s7 := same_upd (o := .lst ((is ++ vs).map V.str)) nA3
    have hA3 : Ws (upd H6 A3 (.lst ((is ++ vs).map V.str))) A3 (is ++ vs) := upd_same
    generalize upd H6 A3 (.lst ((is ++ vs).map V.str)) = H7 at s7 hA3 ⊢
    refine ⟨_, rfl, _, rfl, A3, _, rfl, SqL.of hA3, fun A4 nA4 => ?_⟩
    rw [cut_take, ← List.map_take]
    have s8 := same_upd (o := .lst (((is ++ vs).take ow).map V.str)) nA4
    have hA4 : Ws (upd H7 A4 (.lst (((is ++ vs).take ow).map V.str))) A4 ((is ++ vs).take ow) := upd_same
    generalize upd H7 A4 (.lst (((is ++ vs).take ow).map V.str)) = H8 at s8 hA4 ⊢
    have s58 := same_trans s6 (same_trans s7 s8)
    refine ⟨A1, A4, _, _, rfl, rfl, s58 _ _ hA1, hA4, ?_, fun A5 nA5 => ?_⟩
    · rw [List.length_map, List.length_map, List.length_take]
      omega
    rw [← List.map_append]
    have s9 := same_upd (o := .lst ((gs ++ (is ++ vs).take ow).map V.str)) nA5
    have hA5 : Ws (upd H8 A5 (.lst ((gs ++ (is ++ vs).take ow).map V.str))) A5 (gs ++ (is ++ vs).take ow) := upd_same
    generalize upd H8 A5 (.lst ((gs ++ (is ++ vs).take ow).map V.str)) = H9 at s9 hA5 ⊢
    have s39 := same_trans s4 (same_trans s5 (same_trans s58 s9))
    have hW9 := hW3.keep s39
    have hp9 := hp3.same s39
    have b9 := b3.trans (Same.but (p := p) s39)
    have hL9 := s39 _ _ hL
    have dis1 : ∀ x ∈ is ++ vs, x ∉ gs := fun x hx => by
      rcases List.mem_append.mp hx with h | h
      · exact (ins x h).2
      · exact fun z => w8n x h (gsub x z)
    have nd1 : (is ++ vs).Nodup := List.nodup_append.mpr ⟨ind, w8nd, fun x hx y hy e => by
      subst e
      exact w8n x hy (ins x hx).1⟩
    have wd1 : ∀ x ∈ is ++ vs, Wd x := fun x hx => by
      rcases List.mem_append.mp hx with h | h
      · exact hW.wo.cw x (ins x h).1
      · exact w8wd x h
    have wdg : ∀ {xs : List Str}, (∀ x ∈ xs, Wd x) → ∀ x ∈ gs ++ xs.take ow, Wd x := fun {xs} h x hx => by
      rcases List.mem_append.mp hx with h2 | h2
      · exact hW.wo.cw x (gsub x h2)
      · exact h x (List.mem_of_mem_take h2)
    have nA5p : A5 ≠ p := fun e => by
      obtain ⟨xs, hx⟩ := hp3.lst
      have := (same_trans s4 (same_trans s5 s58)) _ _ hx
      rw [← e, nA5] at this
      cases this
    refine ⟨fun σ' H' => ∃ (LP : Addr) (pl : List Str) (o7 o8 o9 o10 : Option V), σ' = [some (.ref p), some (.ref W), some (.int (ow : Int)), some (.int most), some (.ref L), some (.ref D4), some (.ref LP), o7, o8, o9, o10] ∧ Ws H' LP pl ∧ LP ≠ p ∧ pl.Nodup ∧ (∀ x ∈ pl, Wd x) ∧ pl.length ≤ 30 ∧ WoP H' p W ls lg lc ln ts gs cs ns ∧ Pu H' p (n + 101) ∧ But p H H' ∧ Ws H' L (cs ++ vs), ?_, ?_⟩
    · obtain ⟨xs, hpx, hpu⟩ := hp9
      refine ⟨_, rfl, p, 2, _, xs, rfl, hpx, hpu, by omega, by decide, by decide, fun r ys r0 r1 hy => ⟨rfl, _, rfl, ?_⟩⟩
      have b10 := b9.trans (but_self (p := p) (H := H9) (o := .lst ys))
      have hW10 := hW9.but (but_self (p := p) (H := H9) (o := .lst ys)) ⟨xs, hpx⟩
      have hp10 : Pu (upd H9 p (.lst ys)) p (n + 101) := ⟨ys, upd_same, hy.mono (by omega)⟩
      have hL10 : Ws (upd H9 p (.lst ys)) L (cs ++ vs) := by
        show upd H9 p (.lst ys) L = _
        rw [upd_ne nLp]
        exact hL9
      have hA10 : Ws (upd H9 p (.lst ys)) A5 (gs ++ (is ++ vs).take ow) := by
        show upd H9 p (.lst ys) A5 = _
        rw [upd_ne nA5p]
        exact hA5
      generalize upd H9 p (.lst ys) = G0 at b10 hW10 hp10 hL10 hA10 ⊢
      refine ite2 (fun _ => ?_) (fun _ => ?_)
      · refine ⟨_, rfl, W, _, ((1 : Nat) : Int), _, rfl, rfl, SqL.of hW10.at_, atI_nat rfl, lg, _, rfl, Or.inl (SqL.of hW10.wo.g), fun B1 nB1 => ?_⟩
        have t1 := same_upd (o := .lst (gs.map V.str)) nB1
        have hB1 : Ws (upd G0 B1 (.lst (gs.map V.str))) B1 gs := upd_same
        generalize upd G0 B1 (.lst (gs.map V.str)) = G1 at t1 hB1 ⊢
        have hW11 := hW10.keep t1
        refine ⟨_, rfl, _, rfl, W, _, ((2 : Nat) : Int), _, rfl, rfl, SqL.of hW11.at_, atI_nat rfl, lc, _, rfl, Or.inl (SqL.of hW11.wo.c), _, rfl, L, _, rfl, SqL.of (t1 _ _ hL10), fun B2 nB2 => ?_⟩
        rw [edrop]
        have t2 := same_upd (o := .lst (vs.map V.str)) nB2
        have hB2 : Ws (upd G1 B2 (.lst (vs.map V.str))) B2 vs := upd_same
        generalize upd G1 B2 (.lst (vs.map V.str)) = G2 at t2 hB2 ⊢
        refine ⟨_, rfl, _, rfl, B2, _, rfl, SqL.of hB2, fun B3 nB3 => ?_⟩
        rw [cut_take, ← List.map_take]
        have t3 := same_upd (o := .lst ((vs.take ow).map V.str)) nB3
        have hB3 : Ws (upd G2 B3 (.lst ((vs.take ow).map V.str))) B3 (vs.take ow) := upd_same
        generalize upd G2 B3 (.lst ((vs.take ow).map V.str)) = G3 at t3 hB3 ⊢
        refine ⟨B1, B3, _, _, rfl, rfl, t3 _ _ (t2 _ _ hB1), hB3, ?_, fun B4 nB4 => ?_⟩
        · rw [List.length_map, List.length_map, List.length_take]
          omega
        rw [← List.map_append]
        have t4 := same_upd (o := .lst ((gs ++ vs.take ow).map V.str)) nB4
        have t14 := same_trans t1 (same_trans t2 (same_trans t3 t4))
        have nBp : B4 ≠ p := fun e => by
          obtain ⟨xs, hx⟩ := hp10.lst
          have := (same_trans t1 (same_trans t2 t3)) _ _ hx
          rw [← e, nB4] at this
          cases this
        refine ⟨B4, gs ++ vs.take ow, _, _, _, _, rfl, upd_same, nBp, take_app_nodup gnd w8nd fun x hx z => w8n x hx (gsub x z), wdg w8wd, ?_, hW10.keep t14, hp10.same t14, b10.trans (Same.but (p := p) t14), t14 _ _ hL10⟩
        rw [List.length_append, List.length_take]
        omega
      · refine ⟨A5, _, _, _, _, _, rfl, hA10, nA5p, take_app_nodup gnd nd1 dis1, wdg wd1, ?_, hW10, hp10, b10, hL10⟩
        rw [List.length_append, List.length_take]
        omega
    · rintro σ' G0 ⟨LP, pl, o7, o8, o9, o10, rfl, hLP, nLPp, pnd2, pwd, pl30, hW10, hp10, b10, hL10⟩
      -- names
      refine ⟨_, rfl, _, rfl, _, rfl, W, _, ((3 : Nat) : Int), _, rfl, rfl, SqL.of hW10.at_, atI_nat rfl, ln, rfl, ⟨_, SqL.of hW10.wo.n⟩, fun D5 nD5 => ?_⟩
      refine lc_notin (K := K) (i := 10) (f := 4) (F := L) (bs := cs ++ vs) (ws := ns) (walk_strs (K := K) (a := ln) (ws := ns)) nD5 (fun H' s => SqL.of (s _ _ hW10.wo.n)) hL10 (by omega) (fun v => rfl) (fun v => rfl) (fun v => rfl) fun G1 t1 hD5 => ?_
      have nnd : (cs ++ vs ++ ns.filter fun x => decide (x ∉ cs ++ vs)).Nodup := nodup_filter_app pnd hW.wo.nn
      have nwd : ∀ x ∈ cs ++ vs ++ ns.filter (fun x => decide (x ∉ cs ++ vs)), Wd x := fun x hx => by
        rcases List.mem_append.mp hx with h | h
        · rcases List.mem_append.mp h with h | h
          · exact hW.wo.cw x h
          · exact w8wd x h
        · exact hW.wo.nw x (List.mem_filter.mp h).1
      have nfl : (ns.filter fun x => decide (x ∉ cs ++ vs)).length ≤ 14 := Nat.le_trans (List.length_filter_le _ _) n14
      generalize (ns.filter fun x => decide (x ∉ cs ++ vs)) = xs at hD5 nnd nwd nfl
      refine ⟨L, D5, _, _, rfl, rfl, t1 _ _ hL10, hD5, by rw [List.length_map, List.length_map, List.length_append]; omega, fun L2 nL2 => ?_⟩
      rw [← List.map_append]
      have t2 := same_upd (o := .lst ((cs ++ vs ++ xs).map V.str)) nL2
      have hL2 : Ws (upd G1 L2 (.lst ((cs ++ vs ++ xs).map V.str))) L2 (cs ++ vs ++ xs) := upd_same
      have nL2p : L2 ≠ p := fun e => by
        obtain ⟨zs, hx⟩ := hp10.lst
        have := t1 _ _ hx
        rw [← e, nL2] at this
        cases this
      generalize upd G1 L2 (.lst ((cs ++ vs ++ xs).map V.str)) = G2 at t2 hL2 ⊢
      have t12 := same_trans t1 t2
      refine ⟨p, L2, _, _, rfl, hp10.same t12, by omega, hL2, nL2p, by rw [List.length_map, List.length_append, List.length_append]; omega, fun D6 us G3 pu hp12 b12 nD6 hD6 => ?_⟩
      obtain ⟨nm, pnm, rfl⟩ := perm_map_inv pu (cs ++ vs ++ xs) rfl
      have l31 : (cs ++ vs ++ xs).length ≤ 31 := by
        rw [List.length_append, List.length_append]
        omega
      rw [List.length_map] at hp12
      have nml := pnm.length_eq
      have nmnd := pnm.nodup_iff.mpr nnd
      have nmwd : ∀ x ∈ nm, Wd x := fun x hx => nwd x (pnm.mem_iff.mp hx)
      have b13 := b10.trans ((Same.but (p := p) t12).trans b12)
      have hLP3 : Ws G3 LP pl := b12 _ _ nLPp (t12 _ _ hLP)
      have nD6p : D6 ≠ p := fun e => by
        obtain ⟨zs, hx⟩ := hp10.lst
        have := t12 _ _ hx
        rw [← e, nD6] at this
        cases this
      -- many
      obtain ⟨ps, hpx, hpu⟩ := hp12
      refine ⟨_, rfl, _, rfl, _, _, rfl, rfl, p, _, _, ps, rfl, hpx, hpu, by omega, by omega, by omega, fun r ys r0 r1 hy => ?_⟩
      have b14 := b13.trans (but_self (p := p) (H := G3) (o := .lst ys))
      have hp14 : upd G3 p (.lst ys) p = some (.lst ys) := upd_same
      have hLP4 : Ws (upd G3 p (.lst ys)) LP pl := by
        show upd G3 p (.lst ys) LP = _
        rw [upd_ne nLPp]
        exact hLP3
      have hD7 : Ws (upd G3 p (.lst ys)) D6 nm := by
        show upd G3 p (.lst ys) D6 = _
        rw [upd_ne nD6p]
        exact hD6
      generalize upd G3 p (.lst ys) = G4 at b14 hp14 hLP4 hD7 ⊢
      refine ⟨_, rfl, _, rfl, _, rfl, Nat.zero_le _, fun E nE => ?_⟩
      have t5 := same_upd (o := .lst []) nE
      have hE : upd G4 E (.lst []) E = some (.lst []) := upd_same
      have nEp : E ≠ p := fun e => by
        rw [e, hp14] at nE
        cases nE
      generalize upd G4 E (.lst []) = G5 at t5 hE ⊢
      refine ⟨_, rfl, _, rfl, D6, _, rfl, Or.inl (SqL.of (t5 _ _ hD7)), _, _, rfl, ?_⟩
      have hk : ∃ k : Int, (if (((nm.map V.str).length : Nat) : Int) < r then (((nm.map V.str).length : Nat) : Int) else r) = k ∧ 0 ≤ k ∧ k ≤ (nm.length : Int) ∧ k ≤ 10 := by
        refine ⟨_, rfl, ?_⟩
        rw [List.length_map]
        split <;> omega
      obtain ⟨k, ek, k0, k1, k2⟩ := hk
      rw [ek]
      refine ⟨p, LP, D6, E, pl, nm, [], _, k, rfl, ⟨t5 _ _ hLP4, t5 _ _ hD7, ⟨hE, fun a ha => by simp at ha⟩, nLPp, nD6p, nEp, ⟨_, t5 _ _ hp14⟩, pnd2, pwd, nmwd, by omega, by simp⟩, ⟨ys, t5 _ _ hp14, hy⟩, by omega, k0, k1, by omega, fun R rs G6 hp15 b15 fR hR okR nmR lR _ => ?_⟩
      have b16 := b14.trans ((Same.but (p := p) t5).trans b15)
      have nRp : R ≠ p := fun e => by
        rw [e, t5 _ _ hp14] at fR
        cases fR
      refine q R rs G6 (hp15.mono (by omega)) b16 (b14.free (t5.free fR) nRp) hR ⟨fun s hs => ?_, ?_, by rw [List.length_map]; omega⟩ (by omega)
      · obtain ⟨t, ht, rfl⟩ := List.mem_map.mp hs
        exact (okR t ht).1
      · rw [← nms_snds, nmR]
        exact (List.take_sublist _ _).nodup nmnd
end
end K2
end
section
set_option Elab.async false
set_option linter.all false
set_option maxRecDepth 100000
set_option maxHeartbeats 16000000
namespace K2
open PySem PySem.Spec PyProof.Rows L2
/-- a def called by names alone, the keywords in the parameters' order turned about -/
def FzK (P : Program) (w : World) (K : PySem.W.Frag) (mg : Str → Option Value) (base : Heap) (x : Str) (k : Nat) (ps ks : List Str) (sp : Sp) : Prop :=
  ∃ (g : Addr) (fd : FuncData), FnOk P w K mg base CX0 k g fd ps sp ∧ mg x = some (.ref g) ∧ PySem.W.keepIn K (.ref g) = true ∧ KBn K fd ps 0 ks (fun us ws => us ++ ws.reverse) (fun vs zs => vs ++ zs.reverse)
def tFzK (n : Nat) (sp : Sp) (tk : TA) : TE := fun σ H Q => tk σ H fun zs H2 => zs.length = n ∧ sp zs.reverse H2 Q E0
theorem pe_fzK {X : Cx} {k : Nat} {x : Str} {ps ks : List Str} {sp : Sp} {p pos : Pos} {kws : List Keyword} {tk : TA} (Z : FzK X.prog X.w X.K X.mg X.base x k ps ks sp) (hr : Room k X.A) (hg : Gl X x) (hkw : PK X kws tk)
    (hall : (backToKw pos (keywordEach kws X.env)).all (·.1.isSome) = true := by rfl) (hks : (backToKw pos (keywordEach kws X.env)).filterMap (·.1) = ks := by rfl) (hdb : (x == ("__debug__" : Str)) = false := by decide)
    (hpl : ((backTo pos (starEach [] X.env)).any (·.1) || (backToKw pos (keywordEach kws X.env)).any (·.1.isNone)) = false := by rfl) : PE X (.Call (.Name x p) [] kws pos) (tFzK ks.length sp tk) := by
  obtain ⟨g, fd, F, hm, hk, hb⟩ := Z
  refine ⟨fun pins s σ H Q I h => ?_⟩
  refine wpAny_Call_Name_kw (ld_glob I hg hm ?_ hdb)
  refine PySem.W.callWith_KW0 (h₀ := X.base) I.ok.mod.kin hk hall ?_ hpl
  refine thn (hkw.run pos pins s σ H _ I h) fun ws s2 ⟨zs, H2, I2, rz, l2, q2⟩ => ⟨I2.kIn, ?_⟩
  rw [hks]
  exact run_fnN (n := 0) (us := []) (vs := []) F hr hb pass0 I2 .nil rz rfl l2 q2
/-! ### heaps less one place -/
def del (H : Hp) (D : Addr) : Hp := fun a => if a = D then none else H a
theorem del_of {H : Hp} {D a : Addr} {o : HO} (h : H a = some o) (ne : a ≠ D) : del H D a = some o := by
  unfold del
  rw [if_neg ne]
  exact h
theorem del_same {H : Hp} {D : Addr} : Same (del H D) H := fun a o e => by
  unfold del at e
  split at e
  · cases e
  · exact e
theorem del_keep {H H' : Hp} {D : Addr} (s : Same H H') : Same (del H D) (del H' D) := fun a o e => by
  unfold del at e ⊢
  split at e
  · cases e
  · rename_i ne
    rw [if_neg ne]
    exact s _ _ e
theorem del_upd {H : Hp} {D : Addr} {o : HO} : Same (del H D) (del (upd H D o) D) := fun a u e => by
  unfold del at e ⊢
  split at e
  · cases e
  · rename_i ne
    rw [if_neg ne, upd_ne ne]
    exact e
theorem del_new {H : Hp} {D : Addr} {o : HO} (n : H D = none) : Same H (del (upd H D o) D) := fun a u e => by
  have ne := ne_of_none e n
  unfold del
  rw [if_neg ne, upd_ne ne]
  exact e
theorem del_put {H : Hp} {D : Addr} {o : HO} : Same (del H D) (upd H D o) := fun a u e => by
  unfold del at e
  split at e
  · cases e
  · rename_i ne
    rw [upd_ne ne]
    exact e
/-! ### the purse is no part of a quarter -/
theorem pu_ne_sts {H : Hp} {p l : Addr} {n : Int} {ts : List (Addr × S5)} (hp : Pu H p n) (h : H l = some (.lst (ts.map fun t => V.ref t.1))) : l ≠ p := fun e => by
  obtain ⟨xs, hx, a, b, c, d, ex, _⟩ := hp
  rw [e, hx, ex] at h
  cases ts with
  | nil => cases h
  | cons t ts => cases h
theorem pu_ne_ws {H : Hp} {p l : Addr} {n : Int} {ws : List Str} (hp : Pu H p n) (h : Ws H l ws) : l ≠ p := fun e => by
  obtain ⟨xs, hx, a, b, c, d, ex, _⟩ := hp
  have h : H l = some (.lst (ws.map V.str)) := h
  rw [e, hx, ex] at h
  cases ws with
  | nil => cases h
  | cons t ts => cases h
theorem IsQ.but {H H' : Hp} {CQ q p : Addr} {ss : List S5} {gs : List Str} {n : Int} (h : IsQ H CQ q ss gs) (hp : Pu H p n) (b : But p H H') : IsQ H' CQ q ss gs := by
  obtain ⟨⟨dx, l, g, ts, hs, ⟨h1, h2, h3⟩, r⟩, so, go⟩ := h
  refine ⟨⟨dx, l, g, ts, hs, ⟨b _ _ (fun e => ?_) h1, h2.but b (pu_ne_sts hp h2.1) hp.lst, b _ _ (pu_ne_ws hp h3) h3⟩, r⟩, so, go⟩
  obtain ⟨xs, hx⟩ := hp.lst
  rw [e, hx] at h1
  cases h1
theorem IsT.but {H H' : Hp} {CQ q p : Addr} {ss : List S5} {n : Int} (h : IsT H CQ q ss) (hp : Pu H p n) (b : But p H H') : IsT H' CQ q ss := by
  obtain ⟨⟨dx, l, ts, ⟨h1, h2⟩, r⟩, so⟩ := h
  refine ⟨⟨dx, l, ts, ⟨b _ _ (fun e => ?_) h1, h2.but b (pu_ne_sts hp h2.1) hp.lst⟩, r⟩, so⟩
  obtain ⟨xs, hx⟩ := hp.lst
  rw [e, hx] at h1
  cases h1
/-- things that are all unlike a -/
def Os (H : Hp) (CQ CT : Addr) (a : OD) (xs : List V) : Prop := ∀ o ∈ xs, ∃ b, Ob H CQ CT o b ∧ ¬ Oeq a b ∧ ¬ Oeq b a
theorem Os.keep {H H' : Hp} {CQ CT : Addr} {a : OD} {xs : List V} (h : Os H CQ CT a xs) (s : Same H H') : Os H' CQ CT a xs := fun o ho => let ⟨b, h1, h2⟩ := h o ho; ⟨b, h1.keep s, h2⟩
theorem Os.app {H : Hp} {CQ CT : Addr} {a : OD} {xs ys : List V} (h : Os H CQ CT a xs) (h2 : Os H CQ CT a ys) : Os H CQ CT a (xs ++ ys) := fun o ho => by
  rcases List.mem_append.mp ho with ho | ho
  · exact h o ho
  · exact h2 o ho
theorem Os.nil {H : Hp} {CQ CT : Addr} {a : OD} : Os H CQ CT a [] := fun o ho => by simp at ho
theorem Os.one {H : Hp} {CQ CT : Addr} {a b : OD} {x : V} (h : Ob H CQ CT x b) (n1 : ¬ Oeq a b) (n2 : ¬ Oeq b a) : Os H CQ CT a [x] := fun o ho => by
  rw [List.mem_singleton.mp ho]
  exact ⟨b, h, n1, n2⟩
/-- the new quarter -/
theorem isQ_of {H : Hp} {CQ q dx l g : Addr} {ts ts' : List (Addr × S5)} {gs gs' : List Str} (h : QuP H CQ q dx l g ts' gs') (so : SOk (snds ts)) (go : GOk gs) (pt : ts'.Perm ts) (as : Asc5 (snds ts')) (pg : gs'.Perm gs) (ag : Asc gs') : IsQ H CQ q (snds ts) gs :=
  ⟨⟨dx, l, g, ts', gs', h, pt.map fun t => t.2, as, pg, ag⟩, so, go⟩
theorem isT_of {H : Hp} {CQ q dx l : Addr} {ts ts' : List (Addr × S5)} (h : TwP H CQ q dx l ts') (so : SOk (snds ts)) (pt : ts'.Perm ts) (as : Asc5 (snds ts')) : IsT H CQ q (snds ts) :=
  ⟨⟨dx, l, ts', h, pt.map fun t => t.2, as⟩, so⟩
/-- a quarter stays where a place is out that isn't one of it -/
theorem QuP.del {H : Hp} {CQ q dx l g D : Addr} {ts : List (Addr × S5)} {gs : List Str} (h : QuP H CQ q dx l g ts gs) (hD : ∃ xs, H D = some (.lst xs)) (nl : l ≠ D) (ng : g ≠ D) : QuP (del H D) CQ q dx l g ts gs := by
  obtain ⟨xs, hD⟩ := hD
  obtain ⟨h1, h2, h3⟩ := h
  refine ⟨del_of h1 fun e => ?_, ⟨del_of h2.1 nl, fun t ht => del_of (h2.2 t ht) fun e => ?_⟩, del_of h3 ng⟩
  · rw [e, hD] at h1
    cases h1
  · have e1 := h2.2 t ht
    rw [e, hD] at e1
    cases e1
theorem TwP.del {H : Hp} {CQ q dx l D : Addr} {ts : List (Addr × S5)} (h : TwP H CQ q dx l ts) (hD : ∃ xs, H D = some (.lst xs)) (nl : l ≠ D) : TwP (del H D) CQ q dx l ts := by
  obtain ⟨xs, hD⟩ := hD
  obtain ⟨h1, h2⟩ := h
  refine ⟨del_of h1 fun e => ?_, ⟨del_of h2.1 nl, fun t ht => del_of (h2.2 t ht) fun e => ?_⟩⟩
  · rw [e, hD] at h1
    cases h1
  · have e1 := h2.2 t ht
    rw [e, hD] at e1
    cases e1
end K2
end
section
set_option Elab.async false
set_option linter.all false
set_option maxRecDepth 100000
set_option maxHeartbeats 16000000
namespace K2
open PySem PySem.Spec PyProof.Rows L2
abbrev NQL : List Str := ["_law_purse_here", "_law_world_here", "_law_streets", "_law_gates", "_law_handed", "_law_doors", "_law_made", "_law_told", "_law_twin", "_law_others_here", "_law_more", "_law_some", "_law_word_here"]
theorem scQLaw : FnScope NQL ["_law_purse_here", "_law_world_here"] (defScope sQLaw) := ⟨rfl, rfl, rfl, by decide +kernel, rfl, by decide +kernel, by decide +kernel⟩
def qlS (j : Nat) : Stmt := (defBody sQLaw).getD j (.Pass ⟨0, 0, 0, 0⟩)
/-- what the laws of a quarter and of a town call -/
structure QE (P : Program) (w : World) (K : PySem.W.Frag) (mg : Str → Option Value) (base : Heap) (CQ CT : Addr) : Prop where
  J : Jd P w K mg base CQ CT
  mq : MkQ P w K mg base CQ
  mt : MkT P w K mg base CT
  Z : EqZ P w K mg base CQ CT
  sh : Fz P w K mg base "_law_shuffled" 3 ["_law_purse_here", "_law_some"] spShuffled
  ot : Fz P w K mg base "_law_others" 4 ["_law_purse_here", "_law_streets"] spOthers
  qr : Fz P w K mg base "_law_quarter_right" 7 ["_law_made", "_law_streets", "_law_gates"] (spQRight CQ)
  tr : Fz P w K mg base "_law_town_right" 7 ["_law_made", "_law_streets"] (spTRight CT)
  ur : Fz P w K mg base "_law_unlike_right" 7 ["_law_made", "_law_others_here"] (spUnlike CQ CT)
  lq : Fz P w K mg base "_law_quarter" 8 ["_law_world_here"] (spLQuarter CQ)
  crK : FzK P w K mg base "crossings_of" 2 ["quarter"] ["quarter"] (spCross CQ)
  plK : FzK P w K mg base "places_of" 2 ["town"] ["town"] (spPlaces CT)
  akK : FzK P w K mg base "asked_of" 3 ["quarter", "town"] ["town", "quarter"] (spAsked CQ CT)
/-- the state of a quarter's law -/
structure QL (CQ : Addr) (H0 H : Hp) (p W ls lg lc ln : Addr) (ts : List (Addr × S5)) (gs cs ns : List Str) (st gt made : Addr) (us : List (Addr × S5)) (hs : List Str) (n : Int) : Prop where
  wo : WoP H p W ls lg lc ln ts gs cs ns
  pu : Pu H p n
  bu : But p H0 H
  s : Sts H st us
  g : Ws H gt hs
  ps : us.Perm ts
  pg : hs.Perm gs
  q : IsQ H CQ made (snds us) hs
theorem QL.keep {CQ : Addr} {H0 H H' : Hp} {p W ls lg lc ln : Addr} {ts : List (Addr × S5)} {gs cs ns : List Str} {st gt made : Addr} {us : List (Addr × S5)} {hs : List Str} {n : Int} (h : QL CQ H0 H p W ls lg lc ln ts gs cs ns st gt made us hs n) (s : Same H H') :
    QL CQ H0 H' p W ls lg lc ln ts gs cs ns st gt made us hs n := ⟨h.wo.keep s, h.pu.same s, h.bu.trans (Same.but s), h.s.keep s, s _ _ h.g, h.ps, h.pg, h.q.keep s⟩
theorem QL.l33 {CQ : Addr} {H0 H : Hp} {p W ls lg lc ln : Addr} {ts : List (Addr × S5)} {gs cs ns : List Str} {st gt made : Addr} {us : List (Addr × S5)} {hs : List Str} {n : Int} (h : QL CQ H0 H p W ls lg lc ln ts gs cs ns st gt made us hs n) : us.length ≤ 14 ∧ hs.length ≤ 5 ∧ hs ≠ [] ∧ SOk (snds us) ∧ GOk hs := by
  have h1 := h.ps.length_eq
  have h2 := h.pg.length_eq
  have h3 := h.wo.wo.l2
  have h4 := h.wo.wo.l3
  obtain ⟨_, _, h5, h6⟩ := h.wo.wo.gnd
  exact ⟨by omega, by omega, fun e => h5 (by have z := h.pg; rw [e] at z; exact z.symm.eq_nil), h.q.so, h.q.go⟩
section
variable {P : Program} {w : World} {K : PySem.W.Frag} {mg : Str → Option Value} {base : Heap} {f : Addr} {cdv : Value} {A : Around} {outer : List Env} {s : Shared} {Hl : Hp} {E : XK} {CQ CT : Addr}
abbrev TQ (P : Program) (w : World) (K : PySem.W.Frag) (mg : Str → Option Value) (base : Heap) (f : Addr) (cdv : Value) (A : Around) (outer : List Env) (s : Shared) (Hl : Hp) (E : XK) : Cx := (cxOf CX0 P w K mg base NQL "_law_quarter_law" (defScope sQLaw) f cdv A outer s Hl E).nox
/-- the first six statements -/
def tQA (CQ : Addr) (u : TS) : TS := fun Z σ H => ∃ (p W ls lg lc ln : Addr) (ts : List (Addr × S5)) (gs cs ns : List Str) (n : Int) (o2 o3 o4 o5 o6 o7 o8 o9 o10 o11 o12 : Option V), σ = [some (.ref p), some (.ref W), o2, o3, o4, o5, o6, o7, o8, o9, o10, o11, o12] ∧ WoP H p W ls lg lc ln ts gs cs ns ∧ Pu H p n ∧ n ≤ 600000 ∧
  ∀ st gt hd dr made us hs H', QL CQ H H' p W ls lg lc ln ts gs cs ns st gt made us hs (n + 30) → u Z [some (.ref p), some (.ref W), some (.ref st), some (.ref gt), some (.ref hd), some (.ref dr), some (.ref made), o7, o8, o9, o10, o11, o12] H'
theorem qlA (Q : QE P w K mg base CQ CT) (T : Tx K mg) (hr : Room 7 (A.deeper (envOfC "_law_quarter_law" (defScope sQLaw) s.heap.objs.size f cdv))) {rest : List Stmt} {u : TS} (hu : PSs (TQ P w K mg base f cdv A outer s Hl E) rest u) :
    PSs (TQ P w K mg base f cdv A outer s Hl E) (qlS 0 :: qlS 1 :: qlS 2 :: qlS 3 :: qlS 4 :: qlS 5 :: rest) (tQA CQ u) := by
  have gLi := T.fr "list" (by decide +kernel)
  have r3 : Room 3 (A.deeper (envOfC "_law_quarter_law" (defScope sQLaw) s.heap.objs.size f cdv)) := hr.mono (by decide)
  have r5 : Room 7 (A.deeper (envOfC "_law_quarter_law" (defScope sQLaw) s.heap.objs.size f cdv)) := hr.mono (by decide)
  refine weak (pss_cons (ps_asg (pe_tup (pa_cons (pe_fz Q.sh r3 (by rfl) (pa_cons (pv 0) (pa_cons (pe_ix ix_list (pv 1) pe_int (fun _ _ => rfl)) pa_nil))) (pa_cons (pe_fz Q.sh r3 (by rfl) (pa_cons (pv 0) (pa_cons (pe_ix ix_list (pv 1) pe_int (fun _ _ => rfl)) pa_nil))) pa_nil)))
      (pg_tup rfl (pgs_cons (pg_name (i := 2) scQLaw.nd rfl (Or.inr rfl)) (pgs_cons (pg_name (i := 3) scQLaw.nd rfl (Or.inr rfl)) pgs_nil))))
    (pss_cons (ps_par (i := 4) (j := 5) rfl scQLaw.nd rfl rfl (by decide) rfl rfl (pa_cons (pe_callTy call_list_of (by rfl) gLi (by decide +kernel) (pa_cons (pv 2) pa_nil)) (pa_cons (pe_callTy call_list_of (by rfl) gLi (by decide +kernel) (pa_cons (pv 3) pa_nil)) pa_nil)) (by rfl))
    (pss_cons (ps_set (i := 6) scQLaw.nd rfl (Or.inl rfl) (pe_qu Q.mq r5 (by rfl) (pa_cons (pv 4) (pa_cons (pv 5) pa_nil))))
    (pss_cons (ps_if (PW.pt (pw_or (pt_cmpR (op_neD hr.units) (pv 4) (pv 2) (nomark _)) (pw_or (pt_cmpR (op_neD hr.units) (pv 5) (pv 3) (nomark _)) (pw_or1 (pt_not (pt_val (pe_fz Q.qr hr (by rfl) (pa_cons (pv 6) (pa_cons (pv 2) (pa_cons (pv 3) pa_nil)))))))))) (pss_one (ps_ret pe_bl)) pss_nil)
    (pss_cons (ps_expr (pe_bm PySem.F.plainAttrs_list PySem.F.slot_list_append PySem.F.type_list_append mt_append (pv 4) (pa_cons (pe_tup (pa_cons pe_str (pa_cons pe_str (pa_cons pe_str (pa_cons pe_int (pa_cons pe_int pa_nil)))))) pa_nil)))
    (pss_cons (ps_expr (pe_bm0 PySem.F.plainAttrs_list PySem.F.slot_list_clear PySem.F.type_list_clear mt_clear (pv 5))) hu)))))) ?_
  rintro Z σ H ⟨p, W, ls, lg, lc, ln, ts, gs, cs, ns, n, o2, o3, o4, o5, o6, o7, o8, o9, o10, o11, o12, rfl, hW, hp, hn, q⟩
  have sl := sizeLine_eq
  have l2 := hW.wo.l2
  have l3 := hW.wo.l3
  obtain ⟨gnd, gsub, gne, g5⟩ := hW.wo.gnd
  -- shuffled streets
  refine ⟨_, rfl, _, rfl, W, _, ((0 : Nat) : Int), _, rfl, rfl, SqL.of hW.at_, atI_nat rfl, p, ls, n, _, rfl, hp, by omega, hW.wo.s.1, hW.ns_, by rw [List.length_map]; omega, fun st zs H1 pz hp1 b1 nst hst => ?_⟩
  obtain ⟨us, pus, rfl⟩ := perm_map_inv pz ts rfl
  have hW1 := hW.but b1 hp.lst
  rw [List.length_map] at hp1
  have nstp : st ≠ p := fun e => by
    obtain ⟨xs, hx⟩ := hp.lst
    rw [e, hx] at nst
    cases nst
  refine ⟨_, rfl, _, rfl, W, _, ((1 : Nat) : Int), _, rfl, rfl, SqL.of hW1.at_, atI_nat rfl, p, lg, _, _, rfl, hp1, by omega, hW1.wo.g, hW.ng, by rw [List.length_map]; omega, fun gt zs H2 pz2 hp2 b2 ngt hgt => ?_⟩
  obtain ⟨hs, phs, rfl⟩ := perm_map_inv pz2 gs rfl
  have hW2 := hW1.but b2 hp1.lst
  rw [List.length_map] at hp2
  have hst2 : Sts H2 st us := ⟨b2 _ _ nstp hst, fun t ht => hW2.wo.s.2 t (pus.mem_iff.mp ht)⟩
  have b02 := b1.trans b2
  refine ⟨(by show 2 ≤ sizeLine; rw [sl]; decide), fun t nt => ⟨t, _, rfl, SqT.of upd_same, rfl, _, _, rfl, _, _, rfl, rfl, ?_⟩⟩
  have s3 := same_upd (o := .tup [V.ref st, V.ref gt]) nt
  generalize upd H2 t (.tup [V.ref st, V.ref gt]) = H3 at s3 ⊢
  have hst3 := hst2.keep s3
  have hgt3 : Ws H3 gt hs := s3 _ _ hgt
  -- handed, doors
  refine ⟨_, rfl, st, _, rfl, Or.inl (SqL.of hst3.1), fun hd nhd => ?_⟩
  have s4 := same_upd (o := .lst (us.map fun t => V.ref t.1)) nhd
  have hhd : Sts (upd H3 hd (.lst (us.map fun t => V.ref t.1))) hd us := ⟨upd_same, fun t ht => s4 _ _ (hst3.2 t ht)⟩
  generalize upd H3 hd (.lst (us.map fun t => V.ref t.1)) = H4 at s4 hhd ⊢
  refine ⟨_, rfl, gt, _, rfl, Or.inl (SqL.of (s4 _ _ hgt3)), fun dr ndr => ⟨_, _, rfl, ?_⟩⟩
  have s5 := same_upd (o := .lst (hs.map V.str)) ndr
  have hdr : Ws (upd H4 dr (.lst (hs.map V.str))) dr hs := upd_same
  generalize upd H4 dr (.lst (hs.map V.str)) = H5 at s5 hdr ⊢
  have s35 := same_trans s4 s5
  have hhd5 := hhd.keep s5
  have so : SOk (snds us) := hW.wo.sok.perm (pus.map fun t => t.2)
  have go : GOk hs := hW.wo.gok.perm phs
  have ul := pus.length_eq
  have hl := phs.length_eq
  -- made
  refine ⟨_, rfl, _, rfl, hd, dr, us, hs, rfl, hhd5, so, hdr, go, fun m dx l' g' ts' gs' H6 s6 nm nl ng hm pt as pg ag => ?_⟩
  have isq := isQ_of hm so go pt as pg ag
  have hst6 := (hst3.keep s35).keep s6
  have hgt6 : Ws H6 gt hs := s6 _ _ (s35 _ _ hgt3)
  refine ⟨_, rfl, _, rfl, _, _, dp_of (hhd5.keep s6), dp_of hst6, sts_shaped so.ok, sts_shaped so.ok, _, rfl, ?_⟩
  rw [eqv_sts, decide_eq_true rfl]
  refine ifF (by decide) ⟨_, rfl, _, rfl, _, _, dp_ws (s6 _ _ hdr), dp_ws hgt6, strs_shaped go.wd, strs_shaped go.wd, _, rfl, ?_⟩
  rw [eqv_strs, decide_eq_true rfl]
  refine ifF (by decide) ⟨_, rfl, _, rfl, _, rfl, m, st, gt, us, hs, rfl, isq, hst6, hgt6, by omega, fun H7 s7 => ⟨_, rfl, ifF (by decide) ?_⟩⟩
  have s57 := same_trans s6 s7
  have hhd7 := hhd5.keep s57
  have hdr7 : Ws H7 dr hs := s57 _ _ hdr
  have hm7 := hm.keep s7
  -- append, clear
  refine ⟨_, rfl, Or.inl ⟨rfl, _, SqL.of hhd7.1⟩, (by show 5 ≤ sizeLine; rw [sl]; decide), fun z nz => ?_⟩
  have s8 := same_upd (o := .tup [V.str "zz", V.str "zz", V.str "zzz", V.int 1, V.int 1]) nz
  generalize upd H7 z (.tup [V.str "zz", V.str "zz", V.str "zzz", V.int 1, V.int 1]) = H8 at s8 ⊢
  refine ⟨hd, _, _, rfl, rfl, s8 _ _ hhd7.1, by rw [List.length_map]; omega, ?_⟩
  have ndh : dr ≠ hd := fun e => by
    have h1 := s5 _ _ hhd.1
    have h2 := s4
    rw [e] at ndr
    rw [hhd.1] at ndr
    cases ndr
  have s38 := same_trans s35 (same_trans s57 s8)
  refine ⟨_, rfl, Or.inl ⟨rfl, hs.map V.str, SqL.of ?_⟩, dr, hs.map V.str, rfl, rfl, ?_, ?_⟩
  · show upd H8 hd _ dr = _
    rw [upd_ne ndh]
    exact s8 _ _ hdr7
  · show upd H8 hd _ dr = _
    rw [upd_ne ndh]
    exact s8 _ _ hdr7
  have hd0 : H3 hd = none := nhd
  have dr0 : H3 dr = none := s4.free ndr
  have key : ∀ o1 o2 : HO, Same H3 (upd (upd H8 hd o1) dr o2) := fun o1 o2 a o e => by
    rw [upd_ne (ne_of_none e dr0), upd_ne (ne_of_none e hd0)]
    exact s38 _ _ e
  have k := key (.lst ((us.map fun t => V.ref t.1) ++ [V.ref z])) (.lst [])
  have hm8 := hm7.keep s8
  have nh : H5 hd = some (.lst (us.map fun t => V.ref t.1)) := hhd5.1
  have nd5 : H5 dr = some (.lst (hs.map V.str)) := hdr
  have kq : ∀ a o, H8 a = some o → a ≠ hd → a ≠ dr → upd (upd H8 hd (.lst ((us.map fun t => V.ref t.1) ++ [V.ref z]))) dr (.lst []) a = some o := fun a o e n1 n2 => by
    rw [upd_ne n2, upd_ne n1]
    exact e
  refine q st gt hd dr m us hs _ ⟨(hW2.keep s3).keep k, ((hp2.mono (by omega)).same s3).same k, (b02.trans (Same.but (p := p) s3)).trans (Same.but (p := p) k), hst3.keep k, k _ _ hgt3, pus, phs, ?_⟩
  refine isQ_of (ts' := ts') (gs' := gs') (dx := dx) (l := l') (g := g') ⟨kq _ _ hm8.at_ (fun e => ?_) (fun e => ?_), ⟨kq _ _ hm8.s.1 (fun e => ?_) (fun e => ?_), fun t ht => kq _ _ (hm8.s.2 t ht) (fun e => ?_) (fun e => ?_)⟩, kq _ _ hm8.g (fun e => ?_) (fun e => ?_)⟩ so go pt as pg ag
  · rw [e, nh] at nm
    cases nm
  · rw [e, nd5] at nm
    cases nm
  · rw [e, nh] at nl
    cases nl
  · rw [e, nd5] at nl
    cases nl
  · have e1 := hm8.s.2 t ht
    rw [e, s8 _ _ hhd7.1] at e1
    cases e1
  · have e1 := hm8.s.2 t ht
    rw [e, s8 _ _ hdr7] at e1
    cases e1
  · rw [e, nh] at ng
    cases ng
  · rw [e, nd5] at ng
    cases ng
end
end K2
end
section
set_option Elab.async false
set_option linter.all false
set_option maxRecDepth 100000
set_option maxHeartbeats 16000000
namespace K2
open PySem PySem.Spec PyProof.Rows L2
theorem oeq_t {a b : OD} {k : Bool} (h : Oeq a b) (e : k = true ↔ Oeq a b) : k = true := e.mpr h
section
variable {P : Program} {w : World} {K : PySem.W.Frag} {mg : Str → Option Value} {base : Heap} {f : Addr} {cdv : Value} {A : Around} {outer : List Env} {s : Shared} {Hl : Hp} {E : XK} {CQ CT : Addr}
/-- statements 6 to 8 -/
def tQB (CQ : Addr) (u : TS) : TS := fun Z σ H => ∃ (H0 : Hp) (p W ls lg lc ln : Addr) (ts : List (Addr × S5)) (gs cs ns : List Str) (st gt made : Addr) (us : List (Addr × S5)) (hs : List Str) (n : Int) (o4 o5 o7 o8 o9 o10 o11 o12 : Option V),
  σ = [some (.ref p), some (.ref W), some (.ref st), some (.ref gt), o4, o5, some (.ref made), o7, o8, o9, o10, o11, o12] ∧ QL CQ H0 H p W ls lg lc ln ts gs cs ns st gt made us hs n ∧
  ∀ o7 o8 H', Same H H' → u Z [some (.ref p), some (.ref W), some (.ref st), some (.ref gt), o4, o5, some (.ref made), o7, o8, o9, o10, o11, o12] H'
theorem qlB (Q : QE P w K mg base CQ CT) (T : Tx K mg) (hr : Room 7 (A.deeper (envOfC "_law_quarter_law" (defScope sQLaw) s.heap.objs.size f cdv))) {rest : List Stmt} {u : TS} (hu : PSs (TQ P w K mg base f cdv A outer s Hl E) rest u) :
    PSs (TQ P w K mg base f cdv A outer s Hl E) (qlS 6 :: qlS 7 :: qlS 8 :: rest) (tQB CQ u) := by
  have gLi := T.fr "list" (by decide +kernel)
  have gRe := T.fr "reversed" (by decide +kernel)
  have r1 : Room 1 (A.deeper (envOfC "_law_quarter_law" (defScope sQLaw) s.heap.objs.size f cdv)) := hr.mono (by decide)
  have r2 : Room 2 (A.deeper (envOfC "_law_quarter_law" (defScope sQLaw) s.heap.objs.size f cdv)) := hr.mono (by decide)
  have r5 : Room 7 (A.deeper (envOfC "_law_quarter_law" (defScope sQLaw) s.heap.objs.size f cdv)) := hr.mono (by decide)
  refine weak (pss_cons (ps_for PassesOwn.never rfl (pi_tup (pe_tup (pa_cons (pe_mz Q.J.ms.qs (pv 6) r1) (pa_cons (pe_mz Q.J.ms.qg (pv 6) r1) (pa_cons (pe_fzK Q.crK r2 (by rfl) (pk_cons (pv 6) pk_nil)) pa_nil))))) (pg_name (i := 7) scQLaw.nd rfl (Or.inl rfl))
      (pss_cons (ps_expr (pe_bm0 PySem.F.plainAttrs_list PySem.F.slot_list_reverse PySem.F.type_list_reverse mt_reverse (pv 7))) (pss_one (ps_expr (pe_bm PySem.F.plainAttrs_list PySem.F.slot_list_append PySem.F.type_list_append mt_append (pv 7) (pa_cons pe_str pa_nil))))))
    (pss_cons (ps_set (i := 8) scQLaw.nd rfl (Or.inl rfl) (pe_quK Q.mq r5 (by rfl) (pk_cons (pe_lstRev rfl (by rfl) gLi (by rfl) gRe (pe_ix ix_list (pv 1) pe_int (fun _ _ => rfl))) (pk_cons (pe_lstRev rfl (by rfl) gLi (by rfl) gRe (pe_ix ix_list (pv 1) pe_int (fun _ _ => rfl))) pk_nil))))
    (pss_cons (ps_if (PW.pt (pw_or (pt_not (pt_val (pe_fz Q.qr hr (by rfl) (pa_cons (pv 6) (pa_cons (pv 2) (pa_cons (pv 3) pa_nil)))))) (pw_or (pt_not (pt_cmpR (op_obEq Q.Z r1) (pv 6) (pv 8) (nomark _))) (pw_or (pt_cmpR (op_obNe Q.Z r2) (pv 6) (pv 8) (nomark _)) (pw_or1 (pt_not (pt_cmpR (op_obEq Q.Z r1) (pv 6) (pv 6) (nomark _))))))))
      (pss_one (ps_ret pe_bl)) pss_nil) hu))) ?_
  rintro Z σ H ⟨H0, p, W, ls, lg, lc, ln, ts, gs, cs, ns, st, gt, made, us, hs, n, o4, o5, o7, o8, o9, o10, o11, o12, rfl, L, q⟩
  have sl := sizeLine_eq
  obtain ⟨u14, h5, hne, so, go⟩ := L.l33
  obtain ⟨⟨dx, ml, mg', mts, mgs, hm, pt, as, pg, ag⟩, _, _⟩ := L.q
  have lm := pt.length_eq
  rw [List.length_map, List.length_map] at lm
  have gl := pg.length_eq
  -- three lists are told
  refine ⟨_, rfl, made, dx, _, rfl, hm.at_, rfl, made, dx, ml, _, _, rfl, hm.at_, rfl, hm.s.1, fun D1 n1 => ?_⟩
  have s1 := same_upd (o := .lst (mts.map fun t => V.ref t.1)) n1
  have hD1 : upd H D1 (.lst (mts.map fun t => V.ref t.1)) D1 = some (.lst (mts.map fun t => V.ref t.1)) := upd_same
  generalize upd H D1 (.lst (mts.map fun t => V.ref t.1)) = H1 at s1 hD1 ⊢
  have hm1 := hm.keep s1
  refine ⟨_, rfl, made, dx, _, rfl, hm1.at_, rfl, made, dx, mg', _, _, rfl, hm1.at_, rfl, hm1.g, fun D2 n2 => ?_⟩
  have s2 := same_upd (o := .lst (mgs.map V.str)) n2
  have hD2 : upd H1 D2 (.lst (mgs.map V.str)) D2 = some (.lst (mgs.map V.str)) := upd_same
  generalize upd H1 D2 (.lst (mgs.map V.str)) = H2 at s2 hD2 ⊢
  have hm2 := hm1.keep s2
  refine ⟨_, rfl, rfl, made, dx, ml, mg', mts, mgs, rfl, hm2, by omega, by omega, fun D3 vs H3 s3 n3 tvs hD3 => ?_⟩
  have vl : vs.length ≤ 50 := by
    have h1 := len_le_of_sub vs (ends (snds mts) ++ mgs) tvs.nd fun x hx => (tvs.mem x).mp hx
    have h2 := ends_len (snds mts)
    rw [List.length_map] at h2
    rw [List.length_append] at h1
    omega
  refine ⟨(by show 3 ≤ sizeLine; rw [sl]; decide), fun tp ntp => ?_⟩
  have s4 := same_upd (o := .tup [V.ref D1, V.ref D2, V.ref D3]) ntp
  have htp : upd H3 tp (.tup [V.ref D1, V.ref D2, V.ref D3]) tp = some (.tup [V.ref D1, V.ref D2, V.ref D3]) := upd_same
  generalize upd H3 tp (.tup [V.ref D1, V.ref D2, V.ref D3]) = H4 at s4 htp ⊢
  have s04 := same_trans s1 (same_trans s2 (same_trans s3 s4))
  have f1 : H D1 = none := n1
  have f2 : H D2 = none := s1.free n2
  have f3 : H D3 = none := (same_trans s1 s2).free n3
  refine ⟨tp, rfl, ⟨_, SqT.of htp⟩, ?_⟩
  refine for_tup (K := K) (a := tp) (xs := [V.ref D1, V.ref D2, V.ref D3]) (fun i σ H' => (∃ o7 : Option V, σ = [some (.ref p), some (.ref W), some (.ref st), some (.ref gt), o4, o5, some (.ref made), o7, o8, o9, o10, o11, o12]) ∧ Same H H' ∧ H' tp = some (.tup [V.ref D1, V.ref D2, V.ref D3]) ∧ ∀ D ∈ [D1, D2, D3], ∃ xs, H' D = some (.lst xs) ∧ xs.length ≤ 60 + i)
    ⟨⟨_, rfl⟩, s04, htp, fun D hD => ?_⟩ (fun i σ H' _ h => SqT.of h.2.2.1) ?_ ?_
  · simp only [List.mem_cons, List.not_mem_nil, or_false] at hD
    rcases hD with rfl | rfl | rfl
    · exact ⟨_, s4 _ _ (s3 _ _ (s2 _ _ hD1)), by rw [List.length_map]; omega⟩
    · exact ⟨_, s4 _ _ (s3 _ _ hD2), by rw [List.length_map]; omega⟩
    · exact ⟨_, s4 _ _ hD3, by rw [List.length_map]; omega⟩
  · rintro i v σ H' hi ⟨⟨o7, rfl⟩, s5, htp5, hD⟩
    have vm := List.mem_of_getElem? hi
    have il : i < 3 := (List.getElem?_eq_some_iff.mp hi).1
    have : ∃ D, v = V.ref D ∧ D ∈ [D1, D2, D3] ∧ H D = none := by
      simp only [List.mem_cons, List.not_mem_nil, or_false] at vm
      rcases vm with rfl | rfl | rfl
      · exact ⟨D1, rfl, by simp, f1⟩
      · exact ⟨D2, rfl, by simp, f2⟩
      · exact ⟨D3, rfl, by simp, f3⟩
    obtain ⟨D, rfl, Dm, fD⟩ := this
    obtain ⟨xs, hx, xl⟩ := hD D Dm
    refine ⟨_, rfl, Or.inl ⟨rfl, xs, SqL.of hx⟩, D, xs, rfl, rfl, hx, ?_⟩
    refine ⟨_, rfl, Or.inl ⟨rfl, xs.reverse, SqL.of upd_same⟩, D, xs.reverse, _, rfl, rfl, upd_same, by rw [List.length_reverse]; omega, ?_⟩
    refine ⟨⟨_, rfl⟩, fun a o e => ?_, ?_, fun D' hD' => ?_⟩
    · rw [upd_ne (ne_of_none e fD), upd_ne (ne_of_none e fD)]
      exact s5 _ _ e
    · have ne : tp ≠ D := fun e => by
        rw [e, hx] at htp5
        cases htp5
      rw [upd_ne ne, upd_ne ne]
      exact htp5
    · by_cases e : D' = D
      · subst e
        exact ⟨_, upd_same, by rw [List.length_append, List.length_reverse]; simp only [List.length_cons, List.length_nil]; omega⟩
      · obtain ⟨ys, hy, yl⟩ := hD D' hD'
        exact ⟨ys, by rw [upd_ne e, upd_ne e]; exact hy, by omega⟩
  · rintro σ H5 ⟨⟨o7, rfl⟩, s5, _, _⟩
    have L5 := L.keep s5
    have wo := L5.wo.wo
    -- the twin
    refine ⟨_, rfl, W, _, ((1 : Nat) : Int), _, rfl, rfl, SqL.of L5.wo.at_, atI_nat rfl, lg, _, rfl, SqL.of wo.g, fun G nG => ?_⟩
    rw [← List.map_reverse]
    have s6 := same_upd (o := .lst (gs.reverse.map V.str)) nG
    have hG : Ws (upd H5 G (.lst (gs.reverse.map V.str))) G gs.reverse := upd_same
    generalize upd H5 G (.lst (gs.reverse.map V.str)) = H6 at s6 hG ⊢
    have L6 := L5.keep s6
    refine ⟨_, rfl, W, _, ((0 : Nat) : Int), _, rfl, rfl, SqL.of L6.wo.at_, atI_nat rfl, ls, _, rfl, SqL.of L6.wo.wo.s.1, fun S nS => ?_⟩
    rw [← List.map_reverse]
    have s7 := same_upd (o := .lst (ts.reverse.map fun t => V.ref t.1)) nS
    have hS : Sts (upd H6 S (.lst (ts.reverse.map fun t => V.ref t.1))) S ts.reverse := ⟨upd_same, fun t ht => s7 _ _ (L6.wo.wo.s.2 t (List.mem_reverse.mp ht))⟩
    generalize upd H6 S (.lst (ts.reverse.map fun t => V.ref t.1)) = H7 at s7 hS ⊢
    have tr : ts.reverse.Perm ts := List.reverse_perm ts
    have gr : gs.reverse.Perm gs := List.reverse_perm gs
    have so2 : SOk (snds ts.reverse) := wo.sok.perm (tr.map fun t => t.2)
    have go2 : GOk gs.reverse := wo.gok.perm gr
    refine ⟨.ref G, .ref S, rfl, S, G, ts.reverse, gs.reverse, rfl, hS, so2, s7 _ _ hG, go2, fun tw dx' l' g' ts' gs' H8 s8 _ _ _ htw pt' as' pg' ag' => ?_⟩
    have isT := isQ_of htw so2 go2 pt' as' pg' ag'
    have s58 := same_trans s6 (same_trans s7 s8)
    have L8 := L5.keep s58
    -- judged
    refine ⟨_, rfl, _, rfl, _, rfl, made, st, gt, us, hs, rfl, L8.q, L8.s, L8.g, by omega, fun H9 s9 => ⟨_, rfl, ifF (by decide) ?_⟩⟩
    have L9 := L8.keep s9
    have isT9 := isT.keep s9
    have e1 : Oeq (.q (snds us) hs) (.q (snds ts.reverse) gs.reverse) := ⟨(L9.ps.trans tr.symm).map fun t => t.2, L9.pg.trans gr.symm⟩
    refine ⟨_, rfl, _, rfl, _, _, .q L9.q, .q isT9, .inl (fun z => nomatch z), fun k1 h1 => ?_⟩
    cases oeq_t e1 h1
    refine ⟨_, rfl, ifF (by decide) ?_⟩
    refine ⟨_, rfl, _, rfl, _, _, .q L9.q, .q isT9, .inl (fun z => nomatch z), fun k2 h2 => ?_⟩
    cases oeq_t e1 h2
    refine ⟨_, rfl, ifF (by decide) ?_⟩
    have e3 : Oeq (.q (snds us) hs) (.q (snds us) hs) := ⟨List.Perm.refl _, List.Perm.refl _⟩
    refine ⟨_, rfl, _, rfl, _, _, .q L9.q, .q L9.q, .inl (fun z => nomatch z), fun k3 h3 => ?_⟩
    cases oeq_t e3 h3
    exact ⟨_, rfl, ifF (by decide) (q _ _ _ (same_trans s5 (same_trans s58 s9)))⟩
end
end K2
end
section
set_option Elab.async false
set_option linter.all false
set_option maxRecDepth 100000
set_option maxHeartbeats 16000000
namespace K2
open PySem PySem.Spec PyProof.Rows L2
theorem QL.but {CQ : Addr} {H0 H H' : Hp} {p W ls lg lc ln : Addr} {ts : List (Addr × S5)} {gs cs ns : List Str} {st gt made : Addr} {us : List (Addr × S5)} {hs : List Str} {n m : Int} (h : QL CQ H0 H p W ls lg lc ln ts gs cs ns st gt made us hs n) (b : But p H H') (hp : Pu H' p m) :
    QL CQ H0 H' p W ls lg lc ln ts gs cs ns st gt made us hs m := ⟨h.wo.but b h.pu.lst, hp, h.bu.trans b, h.s.but b (pu_ne_sts h.pu h.s.1) h.pu.lst, b _ _ (pu_ne_ws h.pu h.g) h.g, h.ps, h.pg, h.q.but h.pu b⟩
/-- a list of things unlike a, at D -/
def OsL (CQ CT : Addr) (a : OD) (H : Hp) (D : Addr) (xs : List V) : Prop := H D = some (.lst xs) ∧ Os (del H D) CQ CT a xs
theorem OsL.keep {CQ CT : Addr} {a : OD} {H H' : Hp} {D : Addr} {xs : List V} (h : OsL CQ CT a H D xs) (s : Same H H') : OsL CQ CT a H' D xs := ⟨s _ _ h.1, h.2.keep (del_keep s)⟩
theorem OsL.os {CQ CT : Addr} {a : OD} {H : Hp} {D : Addr} {xs : List V} (h : OsL CQ CT a H D xs) : Os H CQ CT a xs := h.2.keep del_same
theorem OsL.new {CQ CT : Addr} {a : OD} {H : Hp} {D : Addr} {xs : List V} (n : H D = none) (h : Os H CQ CT a xs) : OsL CQ CT a (upd H D (.lst xs)) D xs := ⟨upd_same, h.keep (del_new n)⟩
theorem OsL.put {CQ CT : Addr} {a : OD} {H : Hp} {D : Addr} {xs : List V} {y : V} (h : OsL CQ CT a H D xs) (h1 : Os (del H D) CQ CT a [y]) : OsL CQ CT a (upd H D (.lst (xs ++ [y]))) D (xs ++ [y]) := ⟨upd_same, (h.2.app h1).keep del_upd⟩
theorem IsQ.del {H : Hp} {CQ q dx l g D : Addr} {ts ts' : List (Addr × S5)} {gs gs' : List Str} (h : QuP H CQ q dx l g ts' gs') (hD : ∃ xs, H D = some (.lst xs)) (nl : l ≠ D) (ng : g ≠ D) (so : SOk (snds ts)) (go : GOk gs) (pt : ts'.Perm ts) (as : Asc5 (snds ts')) (pg : gs'.Perm gs) (ag : Asc gs') : IsQ (del H D) CQ q (snds ts) gs :=
  isQ_of (h.del hD nl ng) so go pt as pg ag
theorem no_qs {ss ss' : List S5} {gs gs' : List Str} (h : ¬ ss'.Perm ss) : ¬ Oeq (.q ss gs) (.q ss' gs') ∧ ¬ Oeq (.q ss' gs') (.q ss gs) := ⟨fun z => h z.1.symm, fun z => h z.1⟩
theorem no_qg {ss ss' : List S5} {gs gs' : List Str} (h : ¬ gs'.Perm gs) : ¬ Oeq (.q ss gs) (.q ss' gs') ∧ ¬ Oeq (.q ss' gs') (.q ss gs) := ⟨fun z => h z.2.symm, fun z => h z.2⟩
section
variable {P : Program} {w : World} {K : PySem.W.Frag} {mg : Str → Option Value} {base : Heap} {f : Addr} {cdv : Value} {A : Around} {outer : List Env} {s : Shared} {Hl : Hp} {E : XK} {CQ CT : Addr}
abbrev rList (K : PySem.W.Frag) : List V → Hp → VK → Prop := fun xs H Q => ∃ p ys, xs = [V.ref p] ∧ (SqL K H p ys ∨ SqT K H p ys) ∧ ∀ (l : Addr), H l = none → Q (V.ref l) (upd H l (HO.lst ys))
/-- the words that are no gates -/
structure MoreOk (hs ms : List Str) : Prop where
  wd : ∀ x ∈ ms, Wd x
  nd : ms.Nodup
  no : ∀ x ∈ ms, x ∉ hs
  l : ms.length ≤ 20
/-- statements 9 and 10 -/
def tQC (CQ CT : Addr) (u : TS) : TS := fun Z σ H => ∃ (H0 : Hp) (p W ls lg lc ln : Addr) (ts : List (Addr × S5)) (gs cs ns : List Str) (st gt made : Addr) (us : List (Addr × S5)) (hs : List Str) (n : Int) (o4 o5 o7 o8 o9 o10 o11 o12 : Option V),
  σ = [some (.ref p), some (.ref W), some (.ref st), some (.ref gt), o4, o5, some (.ref made), o7, o8, o9, o10, o11, o12] ∧ QL CQ H0 H p W ls lg lc ln ts gs cs ns st gt made us hs n ∧ n ≤ 650000 ∧
  ∀ (D : Addr) (xs : List V) (M : Addr) (ms : List Str) (H' : Hp), QL CQ H0 (del H' D) p W ls lg lc ln ts gs cs ns st gt made us hs (n + 120) → OsL CQ CT (.q (snds us) hs) H' D xs → xs.length ≤ 14 → Ws (del H' D) M ms → MoreOk hs ms → u Z [some (.ref p), some (.ref W), some (.ref st), some (.ref gt), o4, o5, some (.ref made), o7, o8, some (.ref D), some (.ref M), o11, o12] H'
theorem qlC (Q : QE P w K mg base CQ CT) (T : Tx K mg) (hr : Room 7 (A.deeper (envOfC "_law_quarter_law" (defScope sQLaw) s.heap.objs.size f cdv))) {rest : List Stmt} {u : TS} (hu : PSs (TQ P w K mg base f cdv A outer s Hl E) rest u) :
    PSs (TQ P w K mg base f cdv A outer s Hl E) (qlS 9 :: qlS 10 :: rest) (tQC CQ CT u) := by
  have gLi := T.fr "list" (by decide +kernel)
  have r4 : Room 4 (A.deeper (envOfC "_law_quarter_law" (defScope sQLaw) s.heap.objs.size f cdv)) := hr.mono (by decide)
  have r5 : Room 7 (A.deeper (envOfC "_law_quarter_law" (defScope sQLaw) s.heap.objs.size f cdv)) := hr.mono (by decide)
  refine weak (pss_cons (ps_setLc (i := 9) (own := [("_law_some", 11)]) (g := gName 11) (tt := tYes) (te := tCall (spQuarter CQ) [] E0 (tCons (tVar 11) (tCons (tCB (rList K) (tCons (tVar 3) tNil)) tNil))) rfl scQLaw.nd rfl rfl (sw_true rfl rfl rfl (by decide +kernel)) (pi_list (pe_fz Q.ot r4 (by rfl) (pa_cons (pv 0) (pa_cons (pe_ix ix_list (pv 1) pe_int (fun _ _ => rfl)) pa_nil)))) (blkOk_by (own := [("_law_some", 11)]) (N := NQL) (sc := defScope sQLaw) (by decide +kernel))
        (fun _ _ _ _ _ => pg_name (i := 11) scQLaw.nd rfl (Or.inl rfl)) (fun _ _ _ _ _ => pts_nil) (fun _ _ _ _ _ => pe_qu Q.mq r5 (by rfl) (pa_cons (pv 11) (pa_cons (pe_callTy call_list_of (by rfl) gLi (by decide +kernel) (pa_cons (pv 3) pa_nil)) pa_nil))))
    (pss_cons (ps_setLc (i := 10) (own := [("_law_word_here", 12)]) (g := gName 12) (tt := tTest (tOp (rIn K true) (tVar 12) (tVar 3))) (te := tVar 12) rfl scQLaw.nd rfl rfl (sw_true rfl rfl rfl (by decide +kernel)) (pi_list (pe_ix ix_list (pv 1) pe_int (fun _ _ => rfl))) (blkOk_by (own := [("_law_word_here", 12)]) (N := NQL) (sc := defScope sQLaw) (by decide +kernel))
        (fun _ _ _ _ _ => pg_name (i := 12) scQLaw.nd rfl (Or.inl rfl)) (fun _ _ _ _ _ => pts_one (pt_cmpR op_notIn_seq (pv 12) (pv 3) rfl)) (fun _ _ _ _ _ => pv 12)) hu)) ?_
  rintro Z σ H ⟨H0, p, W, ls, lg, lc, ln, ts, gs, cs, ns, st, gt, made, us, hs, n, o4, o5, o7, o8, o9, o10, o11, o12, rfl, L, hn, q⟩
  have sl := sizeLine_eq
  obtain ⟨u14, h5, hne, so, go⟩ := L.l33
  have wo := L.wo.wo
  have l2 := wo.l2
  have l3 := wo.l3
  have pss : (snds us).Perm (snds ts) := L.ps.map fun t => t.2
  -- the others
  refine ⟨_, rfl, _, rfl, W, _, ((0 : Nat) : Int), _, rfl, rfl, SqL.of L.wo.at_, atI_nat rfl, p, ls, ts, n, rfl, L.pu, by omega, wo.s, L.wo.ns_, wo.sok, by omega, fun D0 as H1 hp1 b1 fd al => ?_⟩
  have L1 := L.but b1 hp1
  refine ⟨D0, rfl, ⟨_, SqL.of fd.l⟩, fun D nD => ?_⟩
  refine lc_list (K := K) (a := D0) (xs := as.map fun a => V.ref a.1) (fun j H' => Same H1 H' ∧ ∃ xs, OsL CQ CT (.q (snds us) hs) H' D xs ∧ xs.length ≤ j)
    ⟨same_upd nD, [], OsL.new nD Os.nil, Nat.le_refl _⟩ (fun j H' _ h => SqL.of (h.1 _ _ fd.l)) ?_ ?_
  · rintro j x H' hj ⟨s2, xs, ox, xl⟩
    obtain ⟨u, hu', rfl⟩ := at_map hj
    have um := List.mem_of_getElem? hu'
    have jl := (List.getElem?_eq_some_iff.mp hu').1
    have L2 := L1.keep s2
    obtain ⟨f1, f2, f3, f4⟩ := (fd.keep s2).i u um
    refine ⟨rfl, _, rfl, _, rfl, gt, _, rfl, Or.inl (SqL.of L2.g), fun G nG => ?_⟩
    have s3 := same_upd (o := .lst (hs.map V.str)) nG
    have hG : Ws (upd H' G (.lst (hs.map V.str))) G hs := upd_same
    generalize upd H' G (.lst (hs.map V.str)) = H2 at s3 hG ⊢
    refine ⟨u.1, G, u.2, hs, rfl, f1.keep s3, f2, hG, go, fun qa dx l' g' ts' gs' H3 s4 nq nl ng hq pt as' pg ag => ?_⟩
    have ox3 := ox.keep (same_trans s3 s4)
    have ne : ∀ a, H2 a = none → a ≠ D := fun a e z => by
      have e1 := s3 _ _ ox.1
      rw [← z, e] at e1
      cases e1
    obtain ⟨n1, n2⟩ := no_qs (gs := hs) (gs' := hs) (fun z => f3 (z.trans pss))
    refine ⟨xs, ox3.1, by omega, fun a o e => ?_, _, ox3.put (Os.one (.q (IsQ.del hq ⟨_, ox3.1⟩ (ne _ nl) (ne _ ng) f2 go pt as' pg ag)) n1 n2), by rw [List.length_append]; simp only [List.length_cons, List.length_nil]; omega⟩
    rw [upd_ne (ne_of_none e nD)]
    exact s4 _ _ (s3 _ _ (s2 _ _ e))
  · rintro H2 ⟨s2, xs, ox, xl⟩
    rw [List.length_map] at xl
    have L2 := L1.keep s2
    refine ⟨_, rfl, W, _, ((2 : Nat) : Int), _, rfl, rfl, SqL.of L2.wo.at_, atI_nat rfl, lc, rfl, ⟨_, SqL.of L2.wo.wo.c⟩, fun M nM => ?_⟩
    have c9 : cs.length ≤ 9 := wo.l1
    refine lc_notin (K := K) (i := 12) (f := 3) (F := gt) (bs := hs) (ws := cs) (walk_strs (K := K) (a := lc) (ws := cs)) nM (fun H' s => SqL.of (s _ _ L2.wo.wo.c)) L2.g (by omega) (fun v => rfl) (fun v => rfl) (fun v => rfl) fun H3 s3 hM => ?_
    have dk : Same H1 (del H3 D) := fun a o e => del_of (s3 _ _ (s2 _ _ e)) (ne_of_none e nD)
    have nMD : M ≠ D := fun z => by
      have e1 := ox.1
      rw [← z, nM] at e1
      cases e1
    refine q D xs M _ H3 (L1.keep dk) (ox.keep s3) (by omega) (del_of hM nMD) ⟨fun x hx => wo.cw x (List.mem_filter.mp hx).1, List.filter_sublist.nodup wo.cd, fun x hx => of_decide_eq_true (List.mem_filter.mp hx).2, Nat.le_trans (List.length_filter_le _ _) (by omega)⟩
end
end K2
end
section
set_option Elab.async false
set_option linter.all false
set_option maxRecDepth 100000
set_option maxHeartbeats 16000000
namespace K2
open PySem PySem.Spec PyProof.Rows L2
theorem Os.two {H : Hp} {CQ CT : Addr} {a : OD} {x : V} {xs : List V} (h : Os H CQ CT a [x]) (h2 : Os H CQ CT a xs) : Os H CQ CT a (x :: xs) := h.app h2
theorem go_more {hs ms : List Str} (go : GOk hs) (h5 : hs.length ≤ 5) (h : MoreOk hs ms) (k : Nat) : GOk (hs ++ ms.take k) :=
  ⟨fun x hx => by
    rcases List.mem_append.mp hx with hx | hx
    · exact go.wd x hx
    · exact h.wd x (List.mem_of_mem_take hx), take_app_nodup go.nd h.nd h.no, fun e => go.ne (List.append_eq_nil_iff.mp e).1, by
    rw [List.length_append, List.length_take]
    have := h.l
    omega⟩
section
variable {P : Program} {w : World} {K : PySem.W.Frag} {mg : Str → Option Value} {base : Heap} {f : Addr} {cdv : Value} {A : Around} {outer : List Env} {s : Shared} {Hl : Hp} {E : XK} {CQ CT : Addr}
/-- one step more of the list of others -/
def tQO (CQ CT : Addr) (k : Nat) (u : TS) : TS := fun Z σ H => ∃ (H0 : Hp) (p W ls lg lc ln : Addr) (ts : List (Addr × S5)) (gs cs ns : List Str) (st gt made : Addr) (us : List (Addr × S5)) (hs : List Str) (n : Int) (o4 o5 o7 o8 o11 o12 : Option V) (D : Addr) (xs : List V) (M : Addr) (ms : List Str),
  σ = [some (.ref p), some (.ref W), some (.ref st), some (.ref gt), o4, o5, some (.ref made), o7, o8, some (.ref D), some (.ref M), o11, o12] ∧ QL CQ H0 (del H D) p W ls lg lc ln ts gs cs ns st gt made us hs n ∧ OsL CQ CT (.q (snds us) hs) H D xs ∧ xs.length ≤ k ∧ Ws (del H D) M ms ∧ MoreOk hs ms ∧ k ≤ 40 ∧
  ∀ (D : Addr) (xs : List V) (H' : Hp), QL CQ H0 (del H' D) p W ls lg lc ln ts gs cs ns st gt made us hs n → OsL CQ CT (.q (snds us) hs) H' D xs → xs.length ≤ k + 2 → Ws (del H' D) M ms → u Z [some (.ref p), some (.ref W), some (.ref st), some (.ref gt), o4, o5, some (.ref made), o7, o8, some (.ref D), some (.ref M), o11, o12] H'
theorem qlD (Q : QE P w K mg base CQ CT) (T : Tx K mg) (hr : Room 7 (A.deeper (envOfC "_law_quarter_law" (defScope sQLaw) s.heap.objs.size f cdv))) {rest : List Stmt} {u : TS} (hu : PSs (TQ P w K mg base f cdv A outer s Hl E) rest u) :
    PSs (TQ P w K mg base f cdv A outer s Hl E) (qlS 11 :: rest) (tQO CQ CT 14 u) := by
  have gLi := T.fr "list" (by decide +kernel)
  have gI := T.fr "int" (by decide +kernel)
  have gL := T.fr "len" (by decide +kernel)
  have r5 : Room 7 (A.deeper (envOfC "_law_quarter_law" (defScope sQLaw) s.heap.objs.size f cdv)) := hr.mono (by decide)
  refine weak (pss_cons (ps_set (i := 9) scQLaw.nd rfl (Or.inl rfl) (pe_op op_cat (pv 9) (pe_op op_rep (pe_lst (pa_cons (pe_qu Q.mq r5 (by rfl) (pa_cons (pe_callTy call_list_of (by rfl) gLi (by decide +kernel) (pa_cons (pv 2) pa_nil)) (pa_cons (pe_op op_cat (pv 3) (pe_slice sl_list (pv 10) po_none (po_some pe_int))) pa_nil))) pa_nil))
      (pe_callTy call_int1 (by rfl) gI (by decide +kernel) (pa_cons (pe_and (pe_cmpR (op_neD hr.units) (pv 10) (pe_lst pa_nil) (nomark _)) (pe_one (pe_cmpR op_lt (pe_callB call_len_seq (by rfl) gL PySem.boot_len (pa_cons (pv 3) pa_nil)) pe_int (nomark _)))) pa_nil))))) hu) ?_
  rintro Z σ H ⟨H0, p, W, ls, lg, lc, ln, ts, gs, cs, ns, st, gt, made, us, hs, n, o4, o5, o7, o8, o11, o12, D, xs, M, ms, rfl, Ld, ox, xl, hMd, mo, -, q⟩
  have sl := sizeLine_eq
  have L := Ld.keep del_same
  have hM : Ws H M ms := del_same _ _ hMd
  obtain ⟨u14, h5, hne, so, go⟩ := L.l33
  refine ⟨_, rfl, _, rfl, st, _, rfl, Or.inl (SqL.of L.s.1), fun S nS => ?_⟩
  have s1 := same_upd (o := .lst (us.map fun t => V.ref t.1)) nS
  have hS : Sts (upd H S (.lst (us.map fun t => V.ref t.1))) S us := ⟨upd_same, fun t ht => s1 _ _ (L.s.2 t ht)⟩
  generalize upd H S (.lst (us.map fun t => V.ref t.1)) = H1 at s1 hS ⊢
  have hM1 : Ws H1 M ms := s1 _ _ hM
  have hg1 : Ws H1 gt hs := s1 _ _ L.g
  refine ⟨_, rfl, _, rfl, _, rfl, M, _, rfl, SqL.of hM1, fun B nB => ?_⟩
  have e1 : (some (1 : Int)) = some ((1 : Nat) : Int) := rfl
  rw [e1, cut_take, ← List.map_take]
  have s2 := same_upd (o := .lst ((ms.take 1).map V.str)) nB
  have hB : Ws (upd H1 B (.lst ((ms.take 1).map V.str))) B (ms.take 1) := upd_same
  generalize upd H1 B (.lst ((ms.take 1).map V.str)) = H2 at s2 hB ⊢
  refine ⟨gt, B, _, _, rfl, rfl, s2 _ _ hg1, hB, by rw [List.length_map, List.length_map, List.length_take]; omega, fun G nG => ?_⟩
  rw [← List.map_append]
  have s3 := same_upd (o := .lst ((hs ++ ms.take 1).map V.str)) nG
  have hG : Ws (upd H2 G (.lst ((hs ++ ms.take 1).map V.str))) G (hs ++ ms.take 1) := upd_same
  generalize upd H2 G (.lst ((hs ++ ms.take 1).map V.str)) = H3 at s3 hG ⊢
  have gm := go_more go h5 mo 1
  refine ⟨S, G, us, hs ++ ms.take 1, rfl, hS.keep (same_trans s2 s3), so, hG, gm, fun qa dx l' g' ts' gs' H4 s4 nq nl ng hq pt as' pg ag => ?_⟩
  have isq := isQ_of hq so gm pt as' pg ag
  have s14 := same_trans s1 (same_trans s2 (same_trans s3 s4))
  refine ⟨by show 1 ≤ sizeLine; rw [sl]; decide, fun C nC => ?_⟩
  have s5 := same_upd (o := .lst [V.ref qa]) nC
  have hC : upd H4 C (.lst [V.ref qa]) C = some (.lst [V.ref qa]) := upd_same
  generalize upd H4 C (.lst [V.ref qa]) = H5 at s5 hC ⊢
  have s05 := same_trans s14 s5
  refine ⟨_, rfl, by show 0 ≤ sizeLine; rw [sl]; decide, fun z nz => ?_⟩
  have s6 := same_upd (o := .lst []) nz
  have hz : Ws (upd H5 z (.lst [])) z [] := upd_same
  generalize upd H5 z (.lst []) = H6 at s6 hz ⊢
  have s06 := same_trans s05 s6
  refine ⟨_, _, dp_ws (s6 _ _ (s5 _ _ (s4 _ _ (s3 _ _ (s2 _ _ hM1))))), dp_ws hz, strs_shaped mo.wd, strs_shaped (fun x hx => by simp at hx), ?_⟩
  rw [eqv_strs]
  have fin : ∀ (ys : List V) (R : Addr) (H7 : Hp) (Q' : VK), Same H6 H7 → H7 R = some (.lst ys) → ys.length ≤ 1 → Os H7 CQ CT (.q (snds us) hs) ys → (∀ (D : Addr) (xs : List V) (H' : Hp), QL CQ H0 (del H' D) p W ls lg lc ln ts gs cs ns st gt made us hs n → OsL CQ CT (.q (snds us) hs) H' D xs → xs.length ≤ 14 + 2 → Ws (del H' D) M ms → Q' (.ref D) H') → rCat (.ref D) (.ref R) H7 Q' := by
    intro ys R H7 Q' s7 hR yl hy q'
    have ox7 := ox.keep (same_trans s06 s7)
    refine ⟨D, R, _, _, rfl, rfl, ox7.1, hR, by omega, fun D' nD' => ?_⟩
    have s8 := same_upd (o := .lst (xs ++ ys)) nD'
    have s08 := same_trans s06 (same_trans s7 s8)
    have dn := del_new (o := .lst (xs ++ ys)) nD'
    exact q' D' _ _ (L.keep (same_trans (same_trans s06 s7) dn)) (OsL.new nD' (ox7.os.app hy)) (by rw [List.length_append]; omega) (dn _ _ (s7 _ _ (s06 _ _ hM)))
  by_cases hm : ms = []
  · rw [decide_eq_true hm]
    refine ⟨_, rfl, ifF (by decide) (Or.inr ⟨false, rfl, C, _, _, rfl, rfl, s6 _ _ hC, by decide, by decide, by rw [sl]; show 1 * 0 ≤ 16777216; decide, fun R nR => ?_⟩)⟩
    exact fin [] R _ _ (same_upd nR) upd_same (by decide) Os.nil q
  · rw [decide_eq_false hm]
    refine ⟨_, rfl, ifT (by decide) ⟨_, rfl, gt, _, rfl, Or.inl (SqL.of (s06 _ _ L.g)), _, _, rfl, rfl, Or.inr ⟨_, rfl, C, _, _, rfl, rfl, s6 _ _ hC, ?_, ?_, ?_, fun R nR => ?_⟩⟩⟩
    · split <;> decide
    · split <;> decide
    · rw [sl]
      split <;> (show 1 * _ ≤ 16777216; decide)
    · split at *
      · refine fin [.ref qa] R _ _ (same_upd nR) upd_same (Nat.le_refl _) ?_ q
        have npg : ¬ (hs ++ ms.take 1).Perm hs := fun z => by
          have := z.length_eq
          rw [List.length_append, List.length_take] at this
          have := List.length_pos_iff.mpr hm
          omega
        obtain ⟨n1, n2⟩ := no_qg (ss := snds us) (ss' := snds us) npg
        exact Os.one (.q ((isq.keep (same_trans s5 s6)).keep (same_upd nR))) n1 n2
      · exact fin [] R _ _ (same_upd nR) upd_same (by decide) Os.nil q
end
end K2
end
section
set_option Elab.async false
set_option linter.all false
set_option maxRecDepth 100000
set_option maxHeartbeats 16000000
namespace K2
open PySem PySem.Spec PyProof.Rows L2
theorem go_tail {hs : List Str} (go : GOk hs) (h : 1 < hs.length) : GOk (hs.drop 1) :=
  ⟨fun x hx => go.wd x (List.mem_of_mem_drop hx), (List.drop_sublist 1 hs).nodup go.nd, fun e => by
    have := congrArg List.length e
    rw [List.length_drop, List.length_nil] at this
    omega, by
    rw [List.length_drop]
    have := go.l
    omega⟩
theorem go_other {hs : List Str} {x : Str} (go : GOk hs) (hx : Wd x) (hn : x ∉ hs) : GOk (hs.drop 1 ++ [x]) :=
  ⟨fun y hy => by
    rcases List.mem_append.mp hy with hy | hy
    · exact go.wd y (List.mem_of_mem_drop hy)
    · rw [List.mem_singleton.mp hy]
      exact hx, List.nodup_append.mpr ⟨(List.drop_sublist 1 hs).nodup go.nd, List.nodup_cons.mpr ⟨fun z => by simp at z, List.nodup_nil⟩, fun y hy z hz e => by
      rw [List.mem_singleton.mp hz] at e
      rw [e] at hy
      exact hn (List.mem_of_mem_drop hy)⟩, fun e => by simp at e, by
    rw [List.length_append, List.length_drop]
    simp only [List.length_cons, List.length_nil]
    have := go.l
    have := List.length_pos_iff.mpr go.ne
    omega⟩
section
variable {P : Program} {w : World} {K : PySem.W.Frag} {mg : Str → Option Value} {base : Heap} {f : Addr} {cdv : Value} {A : Around} {outer : List Env} {s : Shared} {Hl : Hp} {E : XK} {CQ CT : Addr}
theorem qlE (Q : QE P w K mg base CQ CT) (T : Tx K mg) (hr : Room 7 (A.deeper (envOfC "_law_quarter_law" (defScope sQLaw) s.heap.objs.size f cdv))) {rest : List Stmt} {u : TS} (hu : PSs (TQ P w K mg base f cdv A outer s Hl E) rest u) :
    PSs (TQ P w K mg base f cdv A outer s Hl E) (qlS 12 :: rest) (tQO CQ CT 16 u) := by
  have gLi := T.fr "list" (by decide +kernel)
  have gL := T.fr "len" (by decide +kernel)
  have r5 : Room 7 (A.deeper (envOfC "_law_quarter_law" (defScope sQLaw) s.heap.objs.size f cdv)) := hr.mono (by decide)
  refine weak (pss_cons (ps_if (pt_cmpR op_gt (pe_callB call_len_seq (by rfl) gL PySem.boot_len (pa_cons (pv 3) pa_nil)) pe_int (nomark _))
      (pss_one (ps_expr (pe_bm PySem.F.plainAttrs_list PySem.F.slot_list_append PySem.F.type_list_append mt_append (pv 9) (pa_cons (pe_qu Q.mq r5 (by rfl) (pa_cons (pe_callTy call_list_of (by rfl) gLi (by decide +kernel) (pa_cons (pv 2) pa_nil)) (pa_cons (pe_slice sl_list (pv 3) (po_some pe_int) po_none) pa_nil))) pa_nil)))) pss_nil) hu) ?_
  rintro Z σ H ⟨H0, p, W, ls, lg, lc, ln, ts, gs, cs, ns, st, gt, made, us, hs, n, o4, o5, o7, o8, o11, o12, D, xs, M, ms, rfl, Ld, ox, xl, hMd, mo, -, q⟩
  have sl := sizeLine_eq
  have L := Ld.keep del_same
  obtain ⟨u14, h5, hne, so, go⟩ := L.l33
  refine ⟨_, rfl, gt, _, rfl, Or.inl (SqL.of L.g), _, _, rfl, rfl, _, rfl, ?_⟩
  by_cases h1 : 1 < hs.length
  · refine ifT (by rw [List.length_map]; simp; omega) ?_
    refine ⟨_, rfl, Or.inl ⟨rfl, _, SqL.of ox.1⟩, _, rfl, st, _, rfl, Or.inl (SqL.of L.s.1), fun S nS => ?_⟩
    have s1 := same_upd (o := .lst (us.map fun t => V.ref t.1)) nS
    have hS : Sts (upd H S (.lst (us.map fun t => V.ref t.1))) S us := ⟨upd_same, fun t ht => s1 _ _ (L.s.2 t ht)⟩
    generalize upd H S (.lst (us.map fun t => V.ref t.1)) = H1 at s1 hS ⊢
    have hg1 : Ws H1 gt hs := s1 _ _ L.g
    refine ⟨_, rfl, _, rfl, gt, _, rfl, SqL.of hg1, fun G nG => ?_⟩
    have e1 : (some (1 : Int)) = some ((1 : Nat) : Int) := rfl
    rw [e1, cut_drop, ← List.map_drop]
    have s2 := same_upd (o := .lst ((hs.drop 1).map V.str)) nG
    have hG : Ws (upd H1 G (.lst ((hs.drop 1).map V.str))) G (hs.drop 1) := upd_same
    generalize upd H1 G (.lst ((hs.drop 1).map V.str)) = H2 at s2 hG ⊢
    have gm := go_tail go h1
    refine ⟨S, G, us, hs.drop 1, rfl, hS.keep s2, so, hG, gm, fun qa dx l' g' ts' gs' H4 s4 nq nl ng hq pt as' pg ag => ?_⟩
    have s14 := same_trans s1 (same_trans s2 s4)
    have ox4 := ox.keep s14
    have ne : ∀ a, H2 a = none → a ≠ D := fun a e z => by
      have e1 := s2 _ _ (s1 _ _ ox.1)
      rw [← z, e] at e1
      cases e1
    have npg : ¬ (hs.drop 1).Perm hs := fun z => by
      have := z.length_eq
      rw [List.length_drop] at this
      omega
    obtain ⟨n1, n2⟩ := no_qg (ss := snds us) (ss' := snds us) npg
    have o5 := ox4.put (Os.one (.q (IsQ.del hq ⟨_, ox4.1⟩ (ne _ nl) (ne _ ng) so gm pt as' pg ag)) n1 n2)
    have dk : Same (del H D) (del (upd H4 D (.lst (xs ++ [V.ref qa]))) D) := same_trans (del_keep s14) del_upd
    exact ⟨D, xs, _, rfl, rfl, ox4.1, by omega, q D _ _ (Ld.keep dk) o5 (by rw [List.length_append]; simp only [List.length_cons, List.length_nil]; omega) (dk _ _ hMd)⟩
  · refine ifF (by rw [List.length_map]; simp; omega) ?_
    exact q D xs H Ld ox (by omega) hMd
theorem qlF (Q : QE P w K mg base CQ CT) (T : Tx K mg) (hr : Room 7 (A.deeper (envOfC "_law_quarter_law" (defScope sQLaw) s.heap.objs.size f cdv))) {rest : List Stmt} {u : TS} (hu : PSs (TQ P w K mg base f cdv A outer s Hl E) rest u) :
    PSs (TQ P w K mg base f cdv A outer s Hl E) (qlS 13 :: rest) (tQO CQ CT 18 u) := by
  have gLi := T.fr "list" (by decide +kernel)
  have r5 : Room 7 (A.deeper (envOfC "_law_quarter_law" (defScope sQLaw) s.heap.objs.size f cdv)) := hr.mono (by decide)
  refine weak (pss_cons (ps_set (i := 9) scQLaw.nd rfl (Or.inl rfl) (pe_op op_cat (pv 9) (pe_lc (own := [("_law_word_here", 12)]) (g := gName 12) (tt := tYes) (te := tCall (spQuarter CQ) [] E0 (tCons (tCB (rList K) (tCons (tVar 2) tNil)) (tCons (tOp rCat (tSl (rSlL K) (tVar 3) (tPart (tC (.int 1))) tNoPart) (tLst (tCons (tVar 12) tNil))) tNil))) rfl scQLaw.nd
      (pi_list (pe_slice sl_list (pv 10) po_none (po_some pe_int))) (blkOk_by (own := [("_law_word_here", 12)]) (N := NQL) (sc := defScope sQLaw) (by decide +kernel))
      (fun _ _ _ _ _ => pg_name (i := 12) scQLaw.nd rfl (Or.inl rfl)) (fun _ _ _ _ _ => pts_nil)
      (fun _ _ _ _ _ => pe_qu Q.mq r5 (by rfl) (pa_cons (pe_callTy call_list_of (by rfl) gLi (by decide +kernel) (pa_cons (pv 2) pa_nil)) (pa_cons (pe_op op_cat (pe_slice sl_list (pv 3) (po_some pe_int) po_none) (pe_lst (pa_cons (pv 12) pa_nil))) pa_nil)))))) hu) ?_
  rintro Z σ H ⟨H0, p, W, ls, lg, lc, ln, ts, gs, cs, ns, st, gt, made, us, hs, n, o4, o5, o7, o8, o11, o12, D, xs, M, ms, rfl, Ld, ox, xl, hMd, mo, -, q⟩
  have sl := sizeLine_eq
  have L := Ld.keep del_same
  have hM : Ws H M ms := del_same _ _ hMd
  obtain ⟨u14, h5, hne, so, go⟩ := L.l33
  refine ⟨_, rfl, _, rfl, _, rfl, M, _, rfl, SqL.of hM, fun B nB => ?_⟩
  have e1 : (some (2 : Int)) = some ((2 : Nat) : Int) := rfl
  rw [e1, cut_take, ← List.map_take]
  have s1 := same_upd (o := .lst ((ms.take 2).map V.str)) nB
  have hB : Ws (upd H B (.lst ((ms.take 2).map V.str))) B (ms.take 2) := upd_same
  generalize upd H B (.lst ((ms.take 2).map V.str)) = H1 at s1 hB ⊢
  have L1 := L.keep s1
  refine ⟨B, rfl, ⟨_, SqL.of hB⟩, fun F nF => ?_⟩
  refine lc_list (K := K) (a := B) (xs := (ms.take 2).map V.str) (fun j H' => Same H1 H' ∧ ∃ ys, OsL CQ CT (.q (snds us) hs) H' F ys ∧ ys.length ≤ j)
    ⟨same_upd nF, [], OsL.new nF Os.nil, Nat.le_refl _⟩ (fun j H' _ h => SqL.of (h.1 _ _ hB)) ?_ ?_
  · rintro j x H' hj ⟨s2, ys, oy, yl⟩
    obtain ⟨y, hy, rfl⟩ := at_map hj
    have ym := List.mem_of_mem_take (List.mem_of_getElem? hy)
    have jl := (List.getElem?_eq_some_iff.mp hy).1
    rw [List.length_take] at jl
    have L2 := L1.keep s2
    refine ⟨rfl, _, rfl, st, _, rfl, Or.inl (SqL.of L2.s.1), fun S nS => ?_⟩
    have s3 := same_upd (o := .lst (us.map fun t => V.ref t.1)) nS
    have hS : Sts (upd H' S (.lst (us.map fun t => V.ref t.1))) S us := ⟨upd_same, fun t ht => s3 _ _ (L2.s.2 t ht)⟩
    generalize upd H' S (.lst (us.map fun t => V.ref t.1)) = H2 at s3 hS ⊢
    refine ⟨_, rfl, _, rfl, gt, _, rfl, SqL.of (s3 _ _ L2.g), fun G nG => ?_⟩
    have e1 : (some (1 : Int)) = some ((1 : Nat) : Int) := rfl
    rw [e1, cut_drop, ← List.map_drop]
    have s4 := same_upd (o := .lst ((hs.drop 1).map V.str)) nG
    have hG : Ws (upd H2 G (.lst ((hs.drop 1).map V.str))) G (hs.drop 1) := upd_same
    generalize upd H2 G (.lst ((hs.drop 1).map V.str)) = H3 at s4 hG ⊢
    refine ⟨_, rfl, by show 1 ≤ sizeLine; rw [sl]; decide, fun Y nY => ?_⟩
    have s5 := same_upd (o := .lst [V.str y]) nY
    have hY : upd H3 Y (.lst [V.str y]) Y = some (.lst [V.str y]) := upd_same
    generalize upd H3 Y (.lst [V.str y]) = H4 at s5 hY ⊢
    refine ⟨G, Y, _, _, rfl, rfl, s5 _ _ hG, hY, by rw [List.length_map, List.length_drop]; simp only [List.length_cons, List.length_nil]; omega, fun N nN => ?_⟩
    have s6 := same_upd (o := .lst ((hs.drop 1).map V.str ++ [V.str y])) nN
    have hN : Ws (upd H4 N (.lst ((hs.drop 1).map V.str ++ [V.str y]))) N (hs.drop 1 ++ [y]) := by
      show _ = some (HO.lst ((hs.drop 1 ++ [y]).map V.str))
      rw [List.map_append]
      exact upd_same
    generalize upd H4 N (.lst ((hs.drop 1).map V.str ++ [V.str y])) = H5 at s6 hN ⊢
    have gm := go_other go (mo.wd y ym) (mo.no y ym)
    have s36 := same_trans s4 (same_trans s5 s6)
    refine ⟨S, N, us, hs.drop 1 ++ [y], rfl, hS.keep s36, so, hN, gm, fun qa dx l' g' ts' gs' H6 s7 nq nl ng hq pt as' pg ag => ?_⟩
    have s27 := same_trans s3 (same_trans s36 s7)
    have oy6 := oy.keep s27
    have ne : ∀ a, H5 a = none → a ≠ F := fun a e z => by
      have e1 := s36 _ _ (s3 _ _ oy.1)
      rw [← z, e] at e1
      cases e1
    have npg : ¬ (hs.drop 1 ++ [y]).Perm hs := fun z => mo.no y ym (z.mem_iff.mp (by simp))
    obtain ⟨n1, n2⟩ := no_qg (ss := snds us) (ss' := snds us) npg
    refine ⟨ys, oy6.1, by omega, fun a o e => ?_, _, oy6.put (Os.one (.q (IsQ.del hq ⟨_, oy6.1⟩ (ne _ nl) (ne _ ng) so gm pt as' pg ag)) n1 n2), by rw [List.length_append]; simp only [List.length_cons, List.length_nil]; omega⟩
    rw [upd_ne (ne_of_none e nF)]
    exact s27 _ _ (s2 _ _ e)
  · rintro H2 ⟨s2, ys, oy, yl⟩
    rw [List.length_map, List.length_take] at yl
    have s02 := same_trans s1 s2
    have ox2 := ox.keep s02
    refine ⟨D, F, _, _, rfl, rfl, ox2.1, oy.1, by omega, fun D' nD' => ?_⟩
    have dn := del_new (o := .lst (xs ++ ys)) nD'
    exact q D' _ _ (L.keep (same_trans s02 dn)) (OsL.new nD' (ox2.os.app oy.os)) (by rw [List.length_append]; omega) (dn _ _ (s02 _ _ hM))
end
end K2
end
section
set_option Elab.async false
set_option linter.all false
set_option maxRecDepth 100000
set_option maxHeartbeats 16000000
namespace K2
open PySem PySem.Spec PyProof.Rows L2
theorem SOk.take {us : List (Addr × S5)} (h : SOk (snds us)) (k : Nat) : SOk (snds (us.take k)) := by
  have e : snds (us.take k) = (snds us).take k := List.map_take
  rw [e]
  refine ⟨fun s hs => h.ok s (List.mem_of_mem_take hs), ?_, ?_⟩
  · show (((snds us).take k).map S5.nm).Nodup
    rw [List.map_take]
    exact (List.take_sublist _ _).nodup h.nd
  · rw [List.length_take]
    have := h.l
    omega
theorem Sts.take {H : Hp} {l : Addr} {us : List (Addr × S5)} {k : Nat} (hx : H l = some (.lst ((us.take k).map fun t => V.ref t.1))) {l0 : Addr} (h : Sts H l0 us) : Sts H l (us.take k) := ⟨hx, fun t ht => h.2 t (List.mem_of_mem_take ht)⟩
section
variable {P : Program} {w : World} {K : PySem.W.Frag} {mg : Str → Option Value} {base : Heap} {f : Addr} {cdv : Value} {A : Around} {outer : List Env} {s : Shared} {Hl : Hp} {E : XK} {CQ CT : Addr}
def tQG (CQ CT : Addr) : TS := fun Z σ H => ∃ (H0 : Hp) (p W ls lg lc ln : Addr) (ts : List (Addr × S5)) (gs cs ns : List Str) (st gt made : Addr) (us : List (Addr × S5)) (hs : List Str) (n : Int) (o4 o5 o7 o8 o10 o11 o12 : Option V) (D : Addr) (xs : List V),
  σ = [some (.ref p), some (.ref W), some (.ref st), some (.ref gt), o4, o5, some (.ref made), o7, o8, some (.ref D), o10, o11, o12] ∧ QL CQ H0 H p W ls lg lc ln ts gs cs ns st gt made us hs n ∧ OsL CQ CT (.q (snds us) hs) H D xs ∧ xs.length ≤ 40 ∧
  ∀ (H' : Hp), QL CQ H0 H' p W ls lg lc ln ts gs cs ns st gt made us hs n → Z.rt (.bl true) H'
theorem qlG (Q : QE P w K mg base CQ CT) (T : Tx K mg) (hr : Room 7 (A.deeper (envOfC "_law_quarter_law" (defScope sQLaw) s.heap.objs.size f cdv))) :
    PSs (TQ P w K mg base f cdv A outer s Hl E) [qlS 14, qlS 15] (tQG CQ CT) := by
  have gLi := T.fr "list" (by decide +kernel)
  have r5 : Room 7 (A.deeper (envOfC "_law_quarter_law" (defScope sQLaw) s.heap.objs.size f cdv)) := hr.mono (by decide)
  refine weak (pss_cons (ps_set (i := 9) scQLaw.nd rfl (Or.inl rfl) (pe_op op_cat (pv 9) (pe_lst (pa_cons pe_non (pa_cons pe_int (pa_cons pe_bl (pa_cons pe_str (pa_cons (pe_lst pa_nil) (pa_cons (pe_tup pa_nil) (pa_cons pe_dnewK
      (pa_cons (pe_callTy call_list_of (by rfl) gLi (by decide +kernel) (pa_cons (pe_ix ix_list (pv 1) pe_int (fun _ _ => rfl)) pa_nil))
      (pa_cons (pe_lst (pa_cons (pe_ix ix_list (pv 1) pe_int (fun _ _ => rfl)) (pa_cons (pe_ix ix_list (pv 1) pe_int (fun _ _ => rfl)) pa_nil)))
      (pa_cons (pe_tup (pa_cons (pe_ix ix_list (pv 1) pe_int (fun _ _ => rfl)) (pa_cons (pe_ix ix_list (pv 1) pe_int (fun _ _ => rfl)) pa_nil)))
      (pa_cons (pe_tw Q.mt r5 (by rfl) (pa_cons (pe_slice sl_list (pv 2) po_none (po_some pe_int)) pa_nil)) pa_nil))))))))))))))
    (pss_one (ps_ret (pe_and (pe_fz Q.ur hr (by rfl) (pa_cons (pv 6) (pa_cons (pv 9) pa_nil))) (pe_one (pe_fz Q.qr hr (by rfl) (pa_cons (pv 6) (pa_cons (pv 2) (pa_cons (pv 3) pa_nil))))))))) ?_
  rintro Z σ H ⟨H0, p, W, ls, lg, lc, ln, ts, gs, cs, ns, st, gt, made, us, hs, n, o4, o5, o7, o8, o10, o11, o12, D, xs, rfl, L, ox, xl, q⟩
  have sl := sizeLine_eq
  have z0 : 0 ≤ sizeLine := by rw [sl]; decide
  have z2 : 2 ≤ sizeLine := by rw [sl]; decide
  obtain ⟨u14, h5, hne, so, go⟩ := L.l33
  refine ⟨_, rfl, z0, fun a1 n1 => ?_⟩
  have s1 := same_upd (o := .lst []) n1
  have h1 : upd H a1 (.lst []) a1 = some (.lst []) := upd_same
  generalize upd H a1 (.lst []) = H1 at s1 h1 ⊢
  refine ⟨z0, fun a2 n2 => ?_⟩
  have s2 := same_upd (o := .tup []) n2
  have h2 : upd H1 a2 (.tup []) a2 = some (.tup []) := upd_same
  generalize upd H1 a2 (.tup []) = H2 at s2 h2 ⊢
  refine fun a3 n3 => ?_
  have s3 := same_upd (o := .dK []) n3
  have h3 : upd H2 a3 (.dK []) a3 = some (.dK []) := upd_same
  generalize upd H2 a3 (.dK []) = H3 at s3 h3 ⊢
  have L3 := L.keep (same_trans s1 (same_trans s2 s3))
  refine ⟨_, rfl, W, _, ((0 : Nat) : Int), _, rfl, rfl, SqL.of L3.wo.at_, atI_nat rfl, ls, _, rfl, Or.inl (SqL.of L3.wo.wo.s.1), fun a4 n4 => ?_⟩
  have s4 := same_upd (o := .lst (ts.map fun t => V.ref t.1)) n4
  have h4 : upd H3 a4 (.lst (ts.map fun t => V.ref t.1)) a4 = some (.lst (ts.map fun t => V.ref t.1)) := upd_same
  generalize upd H3 a4 (.lst (ts.map fun t => V.ref t.1)) = H4 at s4 h4 ⊢
  have L4 := L3.keep s4
  refine ⟨_, rfl, W, _, ((0 : Nat) : Int), _, rfl, rfl, SqL.of L4.wo.at_, atI_nat rfl, _, rfl, W, _, ((1 : Nat) : Int), _, rfl, rfl, SqL.of L4.wo.at_, atI_nat rfl, z2, fun a5 n5 => ?_⟩
  have s5 := same_upd (o := .lst [V.ref ls, V.ref lg]) n5
  have h5' : upd H4 a5 (.lst [V.ref ls, V.ref lg]) a5 = some (.lst [V.ref ls, V.ref lg]) := upd_same
  generalize upd H4 a5 (.lst [V.ref ls, V.ref lg]) = H5 at s5 h5' ⊢
  have L5 := L4.keep s5
  refine ⟨_, rfl, W, _, ((0 : Nat) : Int), _, rfl, rfl, SqL.of L5.wo.at_, atI_nat rfl, _, rfl, W, _, ((1 : Nat) : Int), _, rfl, rfl, SqL.of L5.wo.at_, atI_nat rfl, z2, fun a6 n6 => ?_⟩
  have s6 := same_upd (o := .tup [V.ref ls, V.ref lg]) n6
  have h6 : upd H5 a6 (.tup [V.ref ls, V.ref lg]) a6 = some (.tup [V.ref ls, V.ref lg]) := upd_same
  generalize upd H5 a6 (.tup [V.ref ls, V.ref lg]) = H6 at s6 h6 ⊢
  have L6 := L5.keep s6
  refine ⟨_, rfl, _, rfl, st, _, rfl, SqL.of L6.s.1, fun S nS => ?_⟩
  have e1 : (some (2 : Int)) = some ((2 : Nat) : Int) := rfl
  rw [e1, cut_take, ← List.map_take]
  have s7 := same_upd (o := .lst ((us.take 2).map fun t => V.ref t.1)) nS
  have hS : Sts (upd H6 S (.lst ((us.take 2).map fun t => V.ref t.1))) S (us.take 2) := Sts.take upd_same (L6.s.keep s7)
  generalize upd H6 S (.lst ((us.take 2).map fun t => V.ref t.1)) = H7 at s7 hS ⊢
  have so2 := so.take 2
  refine ⟨S, us.take 2, rfl, hS, so2, fun tw dx l' ts' H8 s8 nq nl hq pt as' => ?_⟩
  have isT := isT_of hq so2 pt as'
  refine ⟨by show 11 ≤ sizeLine; rw [sl]; decide, fun R nR => ?_⟩
  have s9 := same_upd (o := .lst [V.non, V.int 0, V.bl true, V.str "", V.ref a1, V.ref a2, V.ref a3, V.ref a4, V.ref a5, V.ref a6, V.ref tw]) nR
  have hR : upd H8 R (.lst [V.non, V.int 0, V.bl true, V.str "", V.ref a1, V.ref a2, V.ref a3, V.ref a4, V.ref a5, V.ref a6, V.ref tw]) R = some (.lst [V.non, V.int 0, V.bl true, V.str "", V.ref a1, V.ref a2, V.ref a3, V.ref a4, V.ref a5, V.ref a6, V.ref tw]) := upd_same
  generalize upd H8 R (.lst [V.non, V.int 0, V.bl true, V.str "", V.ref a1, V.ref a2, V.ref a3, V.ref a4, V.ref a5, V.ref a6, V.ref tw]) = H9 at s9 hR ⊢
  have s89 := same_trans s8 s9
  have s69 := same_trans s7 s89
  have s59 := same_trans s6 s69
  have s49 := same_trans s5 s59
  have s39 := same_trans s4 s49
  have s29 := same_trans s3 s39
  have s19 := same_trans s2 s29
  have s09 := same_trans s1 s19
  have ff : ∀ {x : V} {T : String}, KindV H9 x (.type T) → Os H9 CQ CT (.q (snds us) hs) [x] := fun k => Os.one (.f k) (fun z => z) (fun z => z)
  have oy : Os H9 CQ CT (.q (snds us) hs) [V.non, V.int 0, V.bl true, V.str "", V.ref a1, V.ref a2, V.ref a3, V.ref a4, V.ref a5, V.ref a6, V.ref tw] :=
    (ff .non).two ((ff (.int 0)).two ((ff (.bl true)).two ((ff (.str "")).two ((ff (.lst (s19 _ _ h1))).two ((ff (.tup (s29 _ _ h2))).two ((ff (.dct (s39 _ _ h3))).two ((ff (.lst (s49 _ _ h4))).two ((ff (.lst (s59 _ _ h5'))).two ((ff (.tup (s69 _ _ h6))).two (Os.one (.t (isT.keep s9)) (fun z => z) (fun z => z)))))))))))
  have ox9 := ox.keep s09
  refine ⟨D, R, _, _, rfl, rfl, ox9.1, hR, by simp only [List.length_cons, List.length_nil]; omega, fun D' nD' => ?_⟩
  have s10 := same_upd (o := .lst (xs ++ [V.non, V.int 0, V.bl true, V.str "", V.ref a1, V.ref a2, V.ref a3, V.ref a4, V.ref a5, V.ref a6, V.ref tw])) nD'
  have hD' : upd H9 D' (.lst (xs ++ [V.non, V.int 0, V.bl true, V.str "", V.ref a1, V.ref a2, V.ref a3, V.ref a4, V.ref a5, V.ref a6, V.ref tw])) D' = some (.lst (xs ++ [V.non, V.int 0, V.bl true, V.str "", V.ref a1, V.ref a2, V.ref a3, V.ref a4, V.ref a5, V.ref a6, V.ref tw])) := upd_same
  generalize upd H9 D' (.lst (xs ++ [V.non, V.int 0, V.bl true, V.str "", V.ref a1, V.ref a2, V.ref a3, V.ref a4, V.ref a5, V.ref a6, V.ref tw])) = H10 at s10 hD' ⊢
  have L10 := L.keep (same_trans s09 s10)
  refine ⟨_, rfl, _, rfl, .ref made, .q (snds us) hs, D', _, rfl, .q L10.q, (fun z => nomatch z), hD', (ox9.os.app oy).keep s10, fun H11 s11 => ?_⟩
  have L11 := L10.keep s11
  refine ⟨true, rfl, ifT rfl ⟨_, rfl, _, rfl, _, rfl, made, st, gt, us, hs, rfl, L11.q, L11.s, L11.g, by omega, fun H12 s12 => ?_⟩⟩
  exact q H12 (L11.keep s12)
end
section
variable {P : Program} {w : World} {K : PySem.W.Frag} {mg : Str → Option Value} {base : Heap} {CQ CT : Addr}
def spQLaw : Sp := fun vs H Q _ => ∃ (p W ls lg lc ln : Addr) (ts : List (Addr × S5)) (gs cs ns : List Str) (n : Int), vs = [.ref p, .ref W] ∧ WoP H p W ls lg lc ln ts gs cs ns ∧ Pu H p n ∧ n ≤ 600000 ∧
  ∀ H', Pu H' p (n + 160) → But p H H' → Q (.bl true) H'
theorem ok_qLaw {f : Addr} {fd : FuncData} (F : FnP K "_law_quarter_law" sQLaw f fd) (Q : QE P w K mg base CQ CT) (T : Tx K mg) : FnOk P w K mg base CX0 8 f fd ["_law_purse_here", "_law_world_here"] spQLaw := by
  refine F.ok scQLaw (fun vs H Q E h => ?_) (fun cdv A outer s H vs Qk E hr h => ?_)
  · obtain ⟨_, _, _, _, _, _, _, _, _, _, _, rfl, _⟩ := h
    rfl
  · obtain ⟨p, W, ls, lg, lc, ln, ts, gs, cs, ns, n, rfl, hW, hp, hn, z⟩ := h
    refine ⟨_, PSs.nox (qlA Q T hr (qlB Q T hr (qlC Q T hr (qlD Q T hr (qlE Q T hr (qlF Q T hr (qlG Q T hr))))))), ?_⟩
    refine ⟨p, W, ls, lg, lc, ln, ts, gs, cs, ns, n, _, _, _, _, _, _, _, _, _, _, _, rfl, hW, hp, hn, fun st gt hd dr made us hs H1 L1 => ?_⟩
    refine ⟨H, p, W, ls, lg, lc, ln, ts, gs, cs, ns, st, gt, made, us, hs, _, _, _, _, _, _, _, _, _, rfl, L1, fun o7 o8 H2 s2 => ?_⟩
    refine ⟨H, p, W, ls, lg, lc, ln, ts, gs, cs, ns, st, gt, made, us, hs, _, _, _, _, _, _, _, _, _, rfl, L1.keep s2, by omega, fun D xs M ms H3 L3 ox xl hM mo => ?_⟩
    refine ⟨H, p, W, ls, lg, lc, ln, ts, gs, cs, ns, st, gt, made, us, hs, _, _, _, _, _, _, _, D, xs, M, ms, rfl, L3, ox, xl, hM, mo, by decide, fun D xs H4 L4 ox xl hM => ?_⟩
    refine ⟨H, p, W, ls, lg, lc, ln, ts, gs, cs, ns, st, gt, made, us, hs, _, _, _, _, _, _, _, D, xs, M, ms, rfl, L4, ox, xl, hM, mo, by decide, fun D xs H5 L5 ox xl hM => ?_⟩
    refine ⟨H, p, W, ls, lg, lc, ln, ts, gs, cs, ns, st, gt, made, us, hs, _, _, _, _, _, _, _, D, xs, M, ms, rfl, L5, ox, xl, hM, mo, by decide, fun D xs H6 L6 ox xl hM => ?_⟩
    refine ⟨H, p, W, ls, lg, lc, ln, ts, gs, cs, ns, st, gt, made, us, hs, _, _, _, _, _, _, _, _, D, xs, rfl, L6.keep del_same, ox, by omega, fun H7 L7 => ?_⟩
    exact z H7 (L7.pu.mono (by omega)) L7.bu
end
end K2
end
section
set_option Elab.async false
set_option linter.all false
set_option maxRecDepth 100000
set_option maxHeartbeats 16000000
namespace K2
open PySem PySem.Spec PyProof.Rows L2
abbrev NTu : List Str := ["_law_quarter_here", "_law_town", "_law_world_here", "_law_streets", "_law_quarters", "_law_towns", "_law_one", "_law_other", "_law_due", "_law_word_here"]
theorem scTurns : FnScope NTu ["_law_quarter_here", "_law_town", "_law_world_here", "_law_streets"] (defScope sTurns) := ⟨rfl, rfl, rfl, by decide +kernel, rfl, by decide +kernel, by decide +kernel⟩
/-! ### a row of pairs -/
def tPs : List (Nat × Nat) → TA
  | [] => tNil
  | p :: ps => tCons (tTup (tCons (tC (.int (p.1 : Int))) (tCons (tC (.int (p.2 : Int))) tNil))) (tPs ps)
def PrsAt (H : Hp) : List Addr → List (Nat × Nat) → Prop
  | [], [] => True
  | a :: as, p :: ps => H a = some (.tup [.int (p.1 : Int), .int (p.2 : Int)]) ∧ PrsAt H as ps
  | _, _ => False
theorem prs_read {σ : L2.St} : ∀ (l : List (Nat × Nat)) (H : Hp) (Q : List V → Hp → Prop), (∀ (as : List Addr) (H' : Hp), Same H H' → PrsAt H' as l → as.length = l.length → Q (as.map V.ref) H') → tPs l σ H Q
  | [], H, Q, h => h [] H (fun _ _ e => e) trivial rfl
  | p :: ps, H, Q, h => by
    have sl := sizeLine_eq
    refine ⟨by show 2 ≤ sizeLine; rw [sl]; decide, fun c nc => ?_⟩
    refine prs_read ps _ _ fun as H' s hp hl => ?_
    exact h (c :: as) H' (same_trans (same_upd nc) s) ⟨s _ _ upd_same, hp⟩ (by rw [List.length_cons, List.length_cons, hl])
theorem PrsAt.at {H : Hp} : ∀ {as : List Addr} {l : List (Nat × Nat)} {i : Nat} {x : V}, PrsAt H as l → (as.map V.ref)[i]? = some x → ∃ a p, x = .ref a ∧ p ∈ l ∧ H a = some (.tup [.int (p.1 : Int), .int (p.2 : Int)])
  | [], [], i, x, _, e => by simp at e
  | a :: as, p :: ps, 0, x, h, e => by
    simp only [List.map_cons, List.getElem?_cons_zero, Option.some.injEq] at e
    exact ⟨a, p, e.symm, List.mem_cons_self, h.1⟩
  | a :: as, p :: ps, i + 1, x, h, e => by
    simp only [List.map_cons, List.getElem?_cons_succ] at e
    obtain ⟨a', p', h1, h2, h3⟩ := PrsAt.at h.2 e
    exact ⟨a', p', h1, List.mem_cons_of_mem _ h2, h3⟩
  | [], p :: ps, _, _, h, _ => h.elim
  | a :: as, [], _, _, h, _ => h.elim
abbrev prs9 : List (Nat × Nat) := [(0, 1), (0, 2), (0, 0), (1, 0), (2, 0), (0, 3), (2, 1), (1, 2), (0, 0)]
def QAt (H : Hp) (CQ a : Addr) : Prop := ∃ ss gs, IsQ H CQ a ss gs ∧ gs.length ≤ 5
def TAt (H : Hp) (CT a : Addr) : Prop := ∃ ss, IsT H CT a ss ∧ ss.length ≤ 20
theorem QAt.keep {H H' : Hp} {CQ a : Addr} (h : QAt H CQ a) (s : Same H H') : QAt H' CQ a := let ⟨x, y, h1, h2⟩ := h; ⟨x, y, h1.keep s, h2⟩
theorem TAt.keep {H H' : Hp} {CQ a : Addr} (h : TAt H CQ a) (s : Same H H') : TAt H' CQ a := let ⟨x, h1, h2⟩ := h; ⟨x, h1.keep s, h2⟩
section
variable {P : Program} {w : World} {K : PySem.W.Frag} {mg : Str → Option Value} {base : Heap} {f : Addr} {cdv : Value} {A : Around} {outer : List Env} {s : Shared} {Hl : Hp} {E : XK} {CQ CT : Addr}
def trS (j : Nat) : Stmt := (defBody sTurns).getD j (.Pass ⟨0, 0, 0, 0⟩)
def trB (j : Nat) : Stmt := (forBody (trS 1)).getD j (.Pass ⟨0, 0, 0, 0⟩)
abbrev TTu (P : Program) (w : World) (K : PySem.W.Frag) (mg : Str → Option Value) (base : Heap) (f : Addr) (cdv : Value) (A : Around) (outer : List Env) (s : Shared) (Hl : Hp) (E : XK) : Cx := (cxOf CX0 P w K mg base NTu "_law_turns_right" (defScope sTurns) f cdv A outer s Hl E).nox
/-- one turn -/
def tTB (CQ CT : Addr) : TS := fun Z σ H => ∃ (o0 o1 o2 o3 o8 o9 : Option V) (QL TL : Addr) (qa ta : List Addr) (i j : Nat) (a b : Addr),
  σ = [o0, o1, o2, o3, some (.ref QL), some (.ref TL), some (.int (i : Int)), some (.int (j : Int)), o8, o9] ∧ H QL = some (.lst (qa.map V.ref)) ∧ H TL = some (.lst (ta.map V.ref)) ∧ qa[i]? = some a ∧ ta[j]? = some b ∧ QAt H CQ a ∧ TAt H CT b ∧
  ∀ o8 o9 H', Same H H' → Z.nx [o0, o1, o2, o3, some (.ref QL), some (.ref TL), some (.int (i : Int)), some (.int (j : Int)), o8, o9] H'
theorem trBody (Q : QE P w K mg base CQ CT) (T : Tx K mg) (hr : Room 6 (A.deeper (envOfC "_law_turns_right" (defScope sTurns) s.heap.objs.size f cdv))) :
    PSs (TTu P w K mg base f cdv A outer s Hl E) [trB 0, trB 1, trB 2] (tTB CQ CT) := by
  have gLi := T.fr "list" (by decide +kernel)
  have gSo := T.fr "sorted" (by decide +kernel)
  have r1 : Room 1 (A.deeper (envOfC "_law_turns_right" (defScope sTurns) s.heap.objs.size f cdv)) := hr.mono (by decide)
  have r3 : Room 3 (A.deeper (envOfC "_law_turns_right" (defScope sTurns) s.heap.objs.size f cdv)) := hr.mono (by decide)
  refine weak (pss_cons (ps_set (i := 8) scTurns.nd rfl (Or.inr rfl) (pe_callTy call_list_of (by rfl) gLi (by decide +kernel) (pa_cons (pe_mz Q.J.ms.qg (pe_ix ix_list (pv 4) (pv 6) (fun _ _ => rfl)) r1) pa_nil)))
    (pss_cons (ps_set (i := 8) scTurns.nd rfl (Or.inr rfl) (pe_op op_cat (pv 8) (pe_lc (own := [("_law_word_here", 9)]) (g := gName 9) (tt := tTest (tOp (rIn K true) (tVar 9) (tVar 8))) (te := tVar 9) rfl scTurns.nd
        (pi_list (pe_fz Q.J.sp r1 (by rfl) (pa_cons (pe_mz Q.J.ms.ts (pe_ix ix_list (pv 5) (pv 7) (fun _ _ => rfl)) r1) pa_nil))) (blkOk_by (own := [("_law_word_here", 9)]) (N := NTu) (sc := defScope sTurns) (by decide +kernel))
        (fun _ _ _ _ _ => pg_name (i := 9) scTurns.nd rfl (Or.inl rfl)) (fun _ _ _ _ _ => pts_one (pt_cmpR op_notIn_seq (pv 9) (pv 8) rfl)) (fun _ _ _ _ _ => pv 9))))
    (pss_one (ps_if (pt_not (pt_val (pe_fz Q.J.ex hr (by rfl) (pa_cons (pe_fz Q.J.ak r3 (by rfl) (pa_cons (pe_ix ix_list (pv 4) (pv 6) (fun _ _ => rfl)) (pa_cons (pe_ix ix_list (pv 5) (pv 7) (fun _ _ => rfl)) pa_nil)))
        (pa_cons (pe_callB cr_sortedS (by rfl) gSo (by decide +kernel) (pa_cons (pv 8) pa_nil)) pa_nil))))) (pss_one (ps_ret pe_bl)) pss_nil)))) ?_
  rintro Z σ H ⟨o0, o1, o2, o3, o8, o9, QL, TL, qa, ta, i, j, a, b, rfl, hQ, hT, ha, hb, ⟨ss, gs, ⟨⟨dx, l, g, qts, hs, hq, pt, as, pg, ag⟩, so, go⟩, g5⟩, ⟨ss2, ⟨⟨dp, lp, tts, ht, pt2, as2⟩, so2⟩, t20⟩, q⟩
  have sl := sizeLine_eq
  have ha' : (qa.map V.ref)[i]? = some (V.ref a) := by rw [List.getElem?_map, ha]; rfl
  have hb' : (ta.map V.ref)[j]? = some (V.ref b) := by rw [List.getElem?_map, hb]; rfl
  have gl := pg.length_eq
  have tl := pt2.length_eq
  rw [List.length_map] at tl
  refine ⟨_, rfl, _, rfl, QL, _, ((i : Nat) : Int), _, rfl, rfl, SqL.of hQ, atI_nat ha', a, dx, _, rfl, hq.at_, rfl, a, dx, g, _, _, rfl, hq.at_, rfl, hq.g, fun D2 n2 => ?_⟩
  have s1 := same_upd (o := .lst (hs.map V.str)) n2
  have hD2 : Ws (upd H D2 (.lst (hs.map V.str))) D2 hs := upd_same
  generalize upd H D2 (.lst (hs.map V.str)) = H1 at s1 hD2 ⊢
  refine ⟨D2, _, rfl, Or.inl (SqL.of hD2), fun D3 n3 => ?_⟩
  have s2 := same_upd (o := .lst (hs.map V.str)) n3
  have hD3 : Ws (upd H1 D3 (.lst (hs.map V.str))) D3 hs := upd_same
  generalize upd H1 D3 (.lst (hs.map V.str)) = H2 at s2 hD3 ⊢
  have s02 := same_trans s1 s2
  have ht2 := ht.keep s02
  refine ⟨_, rfl, _, rfl, _, rfl, TL, _, ((j : Nat) : Int), _, rfl, rfl, SqL.of (s02 _ _ hT), atI_nat hb', b, dp, _, rfl, ht2.at_, rfl, b, dp, lp, _, _, rfl, ht2.at_, rfl, ht2.s.1, fun D4 n4 => ?_⟩
  have s3 := same_upd (o := .lst (tts.map fun t => V.ref t.1)) n4
  have hD4 : Sts (upd H2 D4 (.lst (tts.map fun t => V.ref t.1))) D4 tts := ⟨upd_same, fun t h => s3 _ _ (ht2.s.2 t h)⟩
  generalize upd H2 D4 (.lst (tts.map fun t => V.ref t.1)) = H3 at s3 hD4 ⊢
  refine ⟨D4, tts, rfl, hD4, fun t h => ((so2.perm pt2).ok t.2 (List.mem_map.mpr ⟨t, h, rfl⟩)).2.2.2.1, by omega, fun D5 us H4 s4 n5 tus hD5 => ?_⟩
  have ul : us.length ≤ 40 := by
    have h1 := len_le_of_sub us (ends (snds tts)) tus.nd fun x hx => (tus.mem x).mp hx
    have h2 := ends_len (snds tts)
    rw [List.length_map] at h2
    omega
  have s04 := same_trans s02 (same_trans s3 s4)
  refine ⟨D5, rfl, ⟨_, SqL.of hD5⟩, fun D6 n6 => ?_⟩
  refine lc_notin (K := K) (i := 9) (f := 8) (F := D3) (bs := hs) (ws := us) (walk_strs (K := K) (a := D5) (ws := us)) n6 (fun H' s => SqL.of (s _ _ hD5)) (s4 _ _ (s3 _ _ hD3)) (by omega) (fun v => rfl) (fun v => rfl) (fun v => rfl) fun H5 s5 hD6 => ?_
  have fl := List.length_filter_le (fun x => decide (x ∉ hs)) us
  have s35 := same_trans s3 (same_trans s4 s5)
  refine ⟨D3, D6, _, _, rfl, rfl, s35 _ _ hD3, hD6, by rw [List.length_map, List.length_map]; omega, fun D7 n7 => ?_⟩
  rw [← List.map_append]
  have s6 := same_upd (o := .lst ((hs ++ us.filter fun x => decide (x ∉ hs)).map V.str)) n7
  have hD7 : Ws (upd H5 D7 (.lst ((hs ++ us.filter fun x => decide (x ∉ hs)).map V.str))) D7 (hs ++ us.filter fun x => decide (x ∉ hs)) := upd_same
  generalize upd H5 D7 (.lst ((hs ++ us.filter fun x => decide (x ∉ hs)).map V.str)) = H6 at s6 hD7 ⊢
  have s06 := same_trans s02 (same_trans s35 s6)
  refine ⟨_, rfl, _, rfl, QL, _, ((i : Nat) : Int), _, rfl, rfl, SqL.of (s06 _ _ hQ), atI_nat ha', _, rfl, _, rfl, TL, _, ((j : Nat) : Int), _, rfl, rfl, SqL.of (s06 _ _ hT), atI_nat hb', ?_⟩
  refine ⟨a, dx, l, g, qts, hs, b, dp, lp, tts, rfl, hq.keep s06, by omega, ht.keep s06, by omega, fun D8 zs H7 s7 n8 tz hD8 => ?_⟩
  refine ⟨_, rfl, D7, _, rfl, SqL.of (s7 _ _ hD7), by rw [List.length_append]; omega, fun ys D9 pm sy n9 => ?_⟩
  have s8 := same_upd (o := .lst (ys.map V.str)) n9
  have hD9 : Ws (upd H7 D9 (.lst (ys.map V.str))) D9 ys := upd_same
  generalize upd H7 D9 (.lst (ys.map V.str)) = H8 at s8 hD9 ⊢
  have nd : (hs ++ us.filter fun x => decide (x ∉ hs)).Nodup := nodup_filter_app (go.perm pg).nd tus.nd
  have ty : Told ys (hs ++ ends (snds tts)) := told_sorted pm sy nd fun x => by
    rw [List.mem_append, List.mem_append, List.mem_filter, tus.mem]
    by_cases hx : x ∈ hs <;> simp [hx]
  have e : zs = ys := tz.uniq ty fun x => Iff.rfl
  subst e
  have yl : zs.length ≤ 1000 := by
    rw [pm.length_eq, List.length_append]
    omega
  refine ⟨_, _, _, rfl, dt_ws (s8 _ _ hD8), dt_ws hD9, Nat.le_trans (dep_strs _) (by decide), wid_strs yl, fun H9 s9 => ⟨_, rfl, ifF (by decide) ?_⟩⟩
  exact q _ _ H9 (same_trans s06 (same_trans s7 (same_trans s8 s9)))
end
end K2
end
section
set_option Elab.async false
set_option linter.all false
set_option maxRecDepth 100000
set_option maxHeartbeats 16000000
namespace K2
open PySem PySem.Spec PyProof.Rows L2
theorem sok_nil : SOk ([] : List S5) := ⟨fun s h => by simp at h, List.nodup_nil, by decide⟩
theorem go_one {x : Str} (h : Wd x) : GOk [x] := ⟨fun y hy => by rw [List.mem_singleton.mp hy]; exact h, List.nodup_cons.mpr ⟨fun z => by simp at z, List.nodup_nil⟩, fun e => by simp at e, by show 1 ≤ 60; decide⟩
theorem wd_z8 : Wd "zzzzzzzz" := by
  unfold Wd
  decide +kernel
theorem wd_a : Wd "a" := by
  unfold Wd
  decide +kernel
abbrev sQ : S5 := ⟨"q", "qq", "qqq", 1, 1⟩
theorem sok_q : SOk [sQ] := by
  refine ⟨fun s h => ?_, ?_, by decide⟩
  · rw [List.mem_singleton.mp h]
    refine ⟨?_, ?_, ?_, by decide +kernel, by decide, by decide, by decide, by decide⟩ <;> (unfold Wd; decide +kernel)
  · exact List.nodup_cons.mpr ⟨fun z => by simp at z, List.nodup_nil⟩
theorem wkE {X : Cx} {e : Expr} {t t' : TE} (h : PE X e t) (imp : ∀ σ H Q, t' σ H Q → t σ H Q) : PE X e t' := ⟨fun pins s σ H Q I q => h.run pins s σ H Q I (imp σ H Q q)⟩
def tPrs (l : List (Nat × Nat)) : TE := fun _ H Q => ∀ (tp : Addr) (as : List Addr) (H' : Hp), Same H H' → PrsAt H' as l → H' tp = some (.tup (as.map V.ref)) → Q (.ref tp) H'
theorem PrsAt.keep {H H' : Hp} (s : Same H H') : ∀ {as : List Addr} {l : List (Nat × Nat)}, PrsAt H as l → PrsAt H' as l
  | [], [], h => h
  | _ :: _, _ :: _, h => ⟨s _ _ h.1, PrsAt.keep s h.2⟩
  | [], _ :: _, h => h.elim
  | _ :: _, [], h => h.elim
theorem prs_imp (l : List (Nat × Nat)) (hl : l.length ≤ 9) (σ : L2.St) (H : Hp) (Q : VK) (h : tPrs l σ H Q) : tTup (tPs l) σ H Q := by
  have sl := sizeLine_eq
  show tPs l σ H (fun xs H1 => xs.length ≤ sizeLine ∧ ∀ (p : Addr), H1 p = none → Q (V.ref p) (upd H1 p (HO.tup xs)))
  refine prs_read l H _ fun as H' s hp e => ⟨by rw [List.length_map, e, sl]; omega, fun tp n => ?_⟩
  have s2 := same_upd (o := .tup (as.map V.ref)) n
  exact h tp as _ (same_trans s s2) (hp.keep s2) upd_same
theorem go_take1 {gs : List Str} (go : GOk gs) : GOk (gs.take 1) :=
  ⟨fun x hx => go.wd x (List.mem_of_mem_take hx), (List.take_sublist _ _).nodup go.nd, fun e => by
    have := congrArg List.length e
    rw [List.length_take, List.length_nil] at this
    have := List.length_pos_iff.mpr go.ne
    omega, by
    rw [List.length_take]
    omega⟩
section
variable {P : Program} {w : World} {K : PySem.W.Frag} {mg : Str → Option Value} {base : Heap} {CQ CT : Addr}
def spTurns (CQ CT : Addr) : Sp := fun vs H Q _ => ∃ (q t W l ls lg lc ln : Addr) (ss : List S5) (hs : List Str) (ss2 : List S5) (ts : List (Addr × S5)) (gs cs ns : List Str) (us : List (Addr × S5)), vs = [.ref q, .ref t, .ref W, .ref l] ∧ IsQ H CQ q ss hs ∧ hs.length ≤ 5 ∧ IsT H CT t ss2 ∧ ss2.length ≤ 20 ∧
  H W = some (.lst [.ref ls, .ref lg, .ref lc, .ref ln]) ∧ Wo H ls lg lc ln ts gs cs ns ∧ Sts H l us ∧ SOk (snds us) ∧ ∀ H', Same H H' → Q (.bl true) H'
theorem ok_turns {f : Addr} {fd : FuncData} (F : FnP K "_law_turns_right" sTurns f fd) (Q : QE P w K mg base CQ CT) (T : Tx K mg) : FnOk P w K mg base CX0 8 f fd ["_law_quarter_here", "_law_town", "_law_world_here", "_law_streets"] (spTurns CQ CT) := by
  refine F.ok scTurns (fun vs H Q E h => ?_) (fun cdv A outer s H vs Qk E hr h => ?_)
  · obtain ⟨_, _, _, _, _, _, _, _, _, _, _, _, _, _, _, _, rfl, _⟩ := h
    rfl
  · obtain ⟨q, t, W, l, ls, lg, lc, ln, ss, hs, ss2, ts, gs, cs, ns, us, rfl, hq, h5, ht, t20, hW, wo, hl, so, z⟩ := h
    have sl := sizeLine_eq
    have z0 : 0 ≤ sizeLine := by rw [sl]; decide
    have z1 : 1 ≤ sizeLine := by rw [sl]; decide
    have hr6 : Room 6 (A.deeper (envOfC "_law_turns_right" (defScope sTurns) s.heap.objs.size f cdv)) := hr.mono (by decide)
    have r5 : Room 7 (A.deeper (envOfC "_law_turns_right" (defScope sTurns) s.heap.objs.size f cdv)) := hr.mono (by decide)
    refine ⟨_, PSs.nox (pss_cons (ps_par (i := 4) (j := 5) rfl scTurns.nd rfl rfl (by decide) rfl rfl
        (pa_cons (pe_lst (pa_cons (pv 0) (pa_cons (pe_qu Q.mq r5 (by rfl) (pa_cons (pe_lst pa_nil) (pa_cons (pe_slice sl_list (pe_ix ix_list (pv 2) pe_int (fun _ _ => rfl)) po_none (po_some pe_int)) pa_nil))) (pa_cons (pe_qu Q.mq r5 (by rfl) (pa_cons (pe_lst pa_nil) (pa_cons (pe_lst (pa_cons pe_str pa_nil)) pa_nil))) pa_nil))))
        (pa_cons (pe_lst (pa_cons (pv 1) (pa_cons (pe_tw Q.mt r5 (by rfl) (pa_cons (pe_lst pa_nil) pa_nil)) (pa_cons (pe_tw Q.mt r5 (by rfl) (pa_cons (pe_lst (pa_cons (pe_tup (pa_cons pe_str (pa_cons pe_str (pa_cons pe_str (pa_cons pe_int (pa_cons pe_int pa_nil)))))) pa_nil)) pa_nil)) (pa_cons (pe_tw Q.mt r5 (by rfl) (pa_cons (pe_slice sl_list (pv 3) po_none (po_some pe_int)) pa_nil)) pa_nil))))) pa_nil)) (by rfl))
      (pss_cons (ps_for PassesOwn.never rfl (pi_tup (wkE (pe_tup (t := tPs prs9) (pa_cons (pe_tup (pa_cons pe_int (pa_cons pe_int pa_nil))) (pa_cons (pe_tup (pa_cons pe_int (pa_cons pe_int pa_nil))) (pa_cons (pe_tup (pa_cons pe_int (pa_cons pe_int pa_nil))) (pa_cons (pe_tup (pa_cons pe_int (pa_cons pe_int pa_nil))) (pa_cons (pe_tup (pa_cons pe_int (pa_cons pe_int pa_nil))) (pa_cons (pe_tup (pa_cons pe_int (pa_cons pe_int pa_nil))) (pa_cons (pe_tup (pa_cons pe_int (pa_cons pe_int pa_nil))) (pa_cons (pe_tup (pa_cons pe_int (pa_cons pe_int pa_nil))) (pa_cons (pe_tup (pa_cons pe_int (pa_cons pe_int pa_nil))) pa_nil)))))))))) (prs_imp prs9 (by decide)))) (pg_tup rfl (pgs_cons (pg_name (i := 6) scTurns.nd rfl (Or.inl rfl)) (pgs_cons (pg_name (i := 7) scTurns.nd rfl (Or.inl rfl)) pgs_nil))) (trBody Q T hr6))
      (pss_one (ps_ret pe_bl)))), ?_⟩
    -- the quarters
    refine ⟨_, rfl, z0, fun a1 n1 => ?_⟩
    have s1 := same_upd (o := .lst []) n1
    have h1 : Sts (upd H a1 (.lst [])) a1 [] := ⟨upd_same, fun t h => by simp at h⟩
    generalize upd H a1 (.lst []) = H1 at s1 h1 ⊢
    refine ⟨_, rfl, W, _, ((1 : Nat) : Int), _, rfl, rfl, SqL.of (s1 _ _ hW), atI_nat rfl, _, rfl, lg, _, rfl, SqL.of (s1 _ _ wo.g), fun a2 n2 => ?_⟩
    have e1 : (some (1 : Int)) = some ((1 : Nat) : Int) := rfl
    rw [e1, cut_take, ← List.map_take]
    have s2 := same_upd (o := .lst ((gs.take 1).map V.str)) n2
    have h2 : Ws (upd H1 a2 (.lst ((gs.take 1).map V.str))) a2 (gs.take 1) := upd_same
    generalize upd H1 a2 (.lst ((gs.take 1).map V.str)) = H2 at s2 h2 ⊢
    have go1 := go_take1 wo.gok
    refine ⟨a1, a2, [], gs.take 1, rfl, h1.keep s2, sok_nil, h2, go1, fun q1 dx1 l1 g1 ts1 gs1 H3 s3 _ _ _ hq1 pt1 as1 pg1 ag1 => ?_⟩
    have isq1 := isQ_of (ts := []) hq1 sok_nil go1 pt1 as1 pg1 ag1
    refine ⟨z0, fun a3 n3 => ?_⟩
    have s4 := same_upd (o := .lst []) n3
    have h3 : Sts (upd H3 a3 (.lst [])) a3 [] := ⟨upd_same, fun t h => by simp at h⟩
    generalize upd H3 a3 (.lst []) = H4 at s4 h3 ⊢
    refine ⟨z1, fun a4 n4 => ?_⟩
    have s5 := same_upd (o := .lst [V.str "zzzzzzzz"]) n4
    have h4 : Ws (upd H4 a4 (.lst [V.str "zzzzzzzz"])) a4 ["zzzzzzzz"] := upd_same
    generalize upd H4 a4 (.lst [V.str "zzzzzzzz"]) = H5 at s5 h4 ⊢
    refine ⟨a3, a4, [], ["zzzzzzzz"], rfl, h3.keep s5, sok_nil, h4, go_one wd_z8, fun q2 dx2 l2 g2 ts2 gs2 H6 s6 _ _ _ hq2 pt2 as2 pg2 ag2 => ?_⟩
    have isq2 := isQ_of (ts := []) hq2 sok_nil (go_one wd_z8) pt2 as2 pg2 ag2
    refine ⟨by show 3 ≤ sizeLine; rw [sl]; decide, fun QL nQ => ?_⟩
    have s7 := same_upd (o := .lst [V.ref q, V.ref q1, V.ref q2]) nQ
    have hQL : upd H6 QL (.lst [V.ref q, V.ref q1, V.ref q2]) QL = some (.lst ([q, q1, q2].map V.ref)) := upd_same
    generalize upd H6 QL (.lst [V.ref q, V.ref q1, V.ref q2]) = H7 at s7 hQL ⊢
    have s27 := same_trans s3 (same_trans s4 (same_trans s5 (same_trans s6 s7)))
    have s37 := same_trans s4 (same_trans s5 (same_trans s6 s7))
    have s07 := same_trans s1 (same_trans s2 s27)
    -- the towns
    refine ⟨_, rfl, z0, fun b1 m1 => ?_⟩
    have t1 := same_upd (o := .lst []) m1
    have k1 : Sts (upd H7 b1 (.lst [])) b1 [] := ⟨upd_same, fun t h => by simp at h⟩
    generalize upd H7 b1 (.lst []) = G1 at t1 k1 ⊢
    refine ⟨b1, [], rfl, k1, sok_nil, fun w1 dy1 y1 us1 G2 t2 _ _ hw1 pu1 au1 => ?_⟩
    have ist1 := isT_of (ts := []) hw1 sok_nil pu1 au1
    refine ⟨by show 5 ≤ sizeLine; rw [sl]; decide, fun b2 m2 => ?_⟩
    have t3 := same_upd (o := .tup [V.str "q", V.str "qq", V.str "qqq", V.int 1, V.int 1]) m2
    have k2 : upd G2 b2 (.tup [V.str "q", V.str "qq", V.str "qqq", V.int 1, V.int 1]) b2 = some (.tup sQ.vals) := upd_same
    generalize upd G2 b2 (.tup [V.str "q", V.str "qq", V.str "qqq", V.int 1, V.int 1]) = G3 at t3 k2 ⊢
    refine ⟨z1, fun b3 m3 => ?_⟩
    have t4 := same_upd (o := .lst [V.ref b2]) m3
    have k3 : Sts (upd G3 b3 (.lst [V.ref b2])) b3 [(b2, sQ)] := ⟨upd_same, fun t h => by
      rw [List.mem_singleton.mp h]
      exact t4 _ _ k2⟩
    generalize upd G3 b3 (.lst [V.ref b2]) = G4 at t4 k3 ⊢
    refine ⟨b3, [(b2, sQ)], rfl, k3, sok_q, fun w2 dy2 y2 us2 G5 t5 _ _ hw2 pu2 au2 => ?_⟩
    have ist2 := isT_of (ts := [(b2, sQ)]) hw2 sok_q pu2 au2
    have s0g := same_trans s07 (same_trans t1 (same_trans t2 (same_trans t3 (same_trans t4 t5))))
    have hl5 := hl.keep s0g
    refine ⟨_, rfl, _, rfl, l, _, rfl, SqL.of hl5.1, fun b4 m4 => ?_⟩
    rw [e1, cut_take, ← List.map_take]
    have t6 := same_upd (o := .lst ((us.take 1).map fun t => V.ref t.1)) m4
    have k4 : Sts (upd G5 b4 (.lst ((us.take 1).map fun t => V.ref t.1))) b4 (us.take 1) := Sts.take upd_same (hl5.keep t6)
    generalize upd G5 b4 (.lst ((us.take 1).map fun t => V.ref t.1)) = G6 at t6 k4 ⊢
    refine ⟨b4, us.take 1, rfl, k4, so.take 1, fun w3 dy3 y3 us3 G7 t7 _ _ hw3 pu3 au3 => ?_⟩
    have ist3 := isT_of hw3 (so.take 1) pu3 au3
    refine ⟨by show 4 ≤ sizeLine; rw [sl]; decide, fun TL nT => ?_⟩
    have t8 := same_upd (o := .lst [V.ref t, V.ref w1, V.ref w2, V.ref w3]) nT
    have hTL : upd G7 TL (.lst [V.ref t, V.ref w1, V.ref w2, V.ref w3]) TL = some (.lst ([t, w1, w2, w3].map V.ref)) := upd_same
    generalize upd G7 TL (.lst [V.ref t, V.ref w1, V.ref w2, V.ref w3]) = G8 at t8 hTL ⊢
    have t78 := same_trans t7 t8
    have t58 := same_trans t6 t78
    have t28 := same_trans t3 (same_trans t4 (same_trans t5 t58))
    have t08 := same_trans t1 (same_trans t2 t28)
    have s0 := same_trans s07 t08
    have Qa : ∀ a ∈ [q, q1, q2], QAt G8 CQ a := fun a ha => by
      simp only [List.mem_cons, List.not_mem_nil, or_false] at ha
      rcases ha with rfl | rfl | rfl
      · exact ⟨_, _, hq.keep s0, h5⟩
      · exact ⟨_, _, isq1.keep (same_trans s37 t08), by rw [List.length_take]; omega⟩
      · exact ⟨_, _, isq2.keep (same_trans s7 t08), by show 1 ≤ 5; decide⟩
    have Ta : ∀ a ∈ [t, w1, w2, w3], TAt G8 CT a := fun a ha => by
      simp only [List.mem_cons, List.not_mem_nil, or_false] at ha
      rcases ha with rfl | rfl | rfl | rfl
      · exact ⟨_, ht.keep s0, t20⟩
      · exact ⟨_, ist1.keep t28, by show 0 ≤ 20; decide⟩
      · exact ⟨_, ist2.keep t58, by show 1 ≤ 20; decide⟩
      · exact ⟨_, ist3.keep t8, by rw [List.length_map, List.length_take]; omega⟩
    have hQ8 := t08 _ _ hQL
    refine ⟨_, _, rfl, ?_⟩
    refine fun tp as G9 s9 hp htp => ⟨tp, rfl, ⟨_, SqT.of htp⟩, ?_⟩
    refine for_tup (K := K) (a := tp) (xs := as.map V.ref) (fun i σ H' => (∃ o6 o7 o8 o9 : Option V, σ = [some (.ref q), some (.ref t), some (.ref W), some (.ref l), some (.ref QL), some (.ref TL), o6, o7, o8, o9]) ∧ Same G9 H')
      ⟨⟨_, _, _, _, rfl⟩, fun _ _ e => e⟩ (fun i σ H' _ h => SqT.of (h.2 _ _ htp)) ?_ ?_
    · rintro i x σ H' hi ⟨⟨o6, o7, o8, o9, rfl⟩, u1⟩
      obtain ⟨c, pr, rfl, pm, hc⟩ := hp.at hi
      have lim : pr.1 < 3 ∧ pr.2 < 4 := by
        have : ∀ p ∈ prs9, p.1 < 3 ∧ p.2 < 4 := by decide
        exact this pr pm
      obtain ⟨a, ha⟩ : ∃ a, [q, q1, q2][pr.1]? = some a := ⟨_, List.getElem?_eq_getElem lim.1⟩
      obtain ⟨b, hb⟩ : ∃ b, [t, w1, w2, w3][pr.2]? = some b := ⟨_, List.getElem?_eq_getElem lim.2⟩
      have u0 := same_trans s9 u1
      have qa := (Qa a (List.mem_of_getElem? ha)).keep u0
      have tb := (Ta b (List.mem_of_getElem? hb)).keep u0
      refine ⟨c, _, rfl, SqT.of (u1 _ _ hc), rfl, _, _, rfl, _, _, rfl, rfl, ?_⟩
      refine ⟨_, _, _, _, _, _, QL, TL, [q, q1, q2], [t, w1, w2, w3], pr.1, pr.2, a, b, rfl, u0 _ _ hQ8, u0 _ _ hTL, ha, hb, qa, tb, fun o8 o9 H2 u2 => ?_⟩
      exact ⟨⟨_, _, _, _, rfl⟩, same_trans u1 u2⟩
    · rintro σ H' ⟨⟨o6, o7, o8, o9, rfl⟩, u1⟩
      exact z H' (same_trans s0 (same_trans s9 u1))
end
end K2
end
section
set_option Elab.async false
set_option linter.all false
set_option maxRecDepth 100000
set_option maxHeartbeats 4000000
namespace K2
open PySem PySem.Spec PyProof.Rows L2
abbrev NTL : List Str := ["_law_purse_here", "_law_world_here", "_law_streets", "_law_handed", "_law_before", "_law_made", "_law_told", "_law_twin", "_law_quarter_here", "_law_due", "_law_others_here", "_law_word_here", "_law_some"]
theorem scTLaw : FnScope NTL ["_law_purse_here", "_law_world_here", "_law_streets"] (defScope sTLaw) := ⟨rfl, rfl, rfl, by decide +kernel, rfl, by decide +kernel, by decide +kernel⟩
def tlS (j : Nat) : Stmt := (defBody sTLaw).getD j (.Pass ⟨0, 0, 0, 0⟩)
theorem Pu.del {H : Hp} {p D : Addr} {n : Int} (h : Pu H p n) (ne : p ≠ D) : Pu (del H D) p n := by
  obtain ⟨xs, h, r⟩ := h
  exact ⟨xs, del_of h ne, r⟩
/-- the state of a town's law -/
structure TLs (CT : Addr) (H0 H : Hp) (p W ls lg lc ln : Addr) (ts : List (Addr × S5)) (gs cs ns : List Str) (l made : Addr) (us : List (Addr × S5)) (n : Int) : Prop where
  wo : WoP H p W ls lg lc ln ts gs cs ns
  pu : Pu H p n
  bu : But p H0 H
  s : Sts H l us
  so : SOk (snds us)
  u10 : us.length ≤ 10
  t : IsT H CT made (snds us)
theorem TLs.keep {CT : Addr} {H0 H H' : Hp} {p W ls lg lc ln : Addr} {ts : List (Addr × S5)} {gs cs ns : List Str} {l made : Addr} {us : List (Addr × S5)} {n : Int} (h : TLs CT H0 H p W ls lg lc ln ts gs cs ns l made us n) (s : Same H H') :
    TLs CT H0 H' p W ls lg lc ln ts gs cs ns l made us n := ⟨h.wo.keep s, h.pu.same s, h.bu.trans (Same.but s), h.s.keep s, h.so, h.u10, h.t.keep s⟩
theorem TLs.but {CT : Addr} {H0 H H' : Hp} {p W ls lg lc ln : Addr} {ts : List (Addr × S5)} {gs cs ns : List Str} {l made : Addr} {us : List (Addr × S5)} {n m : Int} (h : TLs CT H0 H p W ls lg lc ln ts gs cs ns l made us n) (b : But p H H') (hp : Pu H' p m) :
    TLs CT H0 H' p W ls lg lc ln ts gs cs ns l made us m := ⟨h.wo.but b h.pu.lst, hp, h.bu.trans b, h.s.but b (pu_ne_sts h.pu h.s.1) h.pu.lst, h.so, h.u10, h.t.but h.pu b⟩
section
variable {P : Program} {w : World} {K : PySem.W.Frag} {mg : Str → Option Value} {base : Heap} {f : Addr} {cdv : Value} {A : Around} {outer : List Env} {s : Shared} {Hl : Hp} {E : XK} {CQ CT : Addr}
abbrev TTL (P : Program) (w : World) (K : PySem.W.Frag) (mg : Str → Option Value) (base : Heap) (f : Addr) (cdv : Value) (A : Around) (outer : List Env) (s : Shared) (Hl : Hp) (E : XK) : Cx := (cxOf CX0 P w K mg base NTL "_law_town_law" (defScope sTLaw) f cdv A outer s Hl E).nox
/-- statements 0 to 3 -/
def tTA (CT : Addr) (u : TS) : TS := fun Z σ H => ∃ (p W ls lg lc ln : Addr) (ts : List (Addr × S5)) (gs cs ns : List Str) (l : Addr) (us : List (Addr × S5)) (n : Int) (o3 o4 o5 o6 o7 o8 o9 o10 o11 o12 : Option V), σ = [some (.ref p), some (.ref W), some (.ref l), o3, o4, o5, o6, o7, o8, o9, o10, o11, o12] ∧ WoP H p W ls lg lc ln ts gs cs ns ∧ Pu H p n ∧ n ≤ 600000 ∧ Sts H l us ∧ SOk (snds us) ∧ us.length ≤ 10 ∧
  ∀ hd be made H', TLs CT H H' p W ls lg lc ln ts gs cs ns l made us (n + 15) → u Z [some (.ref p), some (.ref W), some (.ref l), some (.ref hd), some (.ref be), some (.ref made), o6, o7, o8, o9, o10, o11, o12] H'
theorem tlA (Q : QE P w K mg base CQ CT) (T : Tx K mg) (hr8 : Room 8 (A.deeper (envOfC "_law_town_law" (defScope sTLaw) s.heap.objs.size f cdv))) {rest : List Stmt} {u : TS} (hu : PSs (TTL P w K mg base f cdv A outer s Hl E) rest u) :
    PSs (TTL P w K mg base f cdv A outer s Hl E) (tlS 0 :: tlS 1 :: tlS 2 :: tlS 3 :: rest) (tTA CT u) := by
  have hr : Room 7 (A.deeper (envOfC "_law_town_law" (defScope sTLaw) s.heap.objs.size f cdv)) := hr8.mono (by decide)
  have gLi := T.fr "list" (by decide +kernel)
  have r3 : Room 3 (A.deeper (envOfC "_law_town_law" (defScope sTLaw) s.heap.objs.size f cdv)) := hr.mono (by decide)
  have r5 : Room 7 (A.deeper (envOfC "_law_town_law" (defScope sTLaw) s.heap.objs.size f cdv)) := hr.mono (by decide)
  refine weak (pss_cons (ps_set (i := 3) scTLaw.nd rfl (Or.inl rfl) (pe_fz Q.sh r3 (by rfl) (pa_cons (pv 0) (pa_cons (pv 2) pa_nil))))
    (pss_cons (ps_par (i := 4) (j := 5) rfl scTLaw.nd rfl rfl (by decide) rfl rfl (pa_cons (pe_callTy call_list_of (by rfl) gLi (by decide +kernel) (pa_cons (pv 3) pa_nil)) (pa_cons (pe_tw Q.mt r5 (by rfl) (pa_cons (pv 3) pa_nil)) pa_nil)) (by rfl))
    (pss_cons (ps_if (PW.pt (pw_or (pt_cmpR (op_neD hr.units) (pv 3) (pv 4) (nomark _)) (pw_or1 (pt_not (pt_val (pe_fz Q.tr hr (by rfl) (pa_cons (pv 5) (pa_cons (pv 2) pa_nil)))))))) (pss_one (ps_ret pe_bl)) pss_nil)
    (pss_cons (ps_expr (pe_bm PySem.F.plainAttrs_list PySem.F.slot_list_append PySem.F.type_list_append mt_append (pv 3) (pa_cons (pe_tup (pa_cons pe_str (pa_cons pe_str (pa_cons pe_str (pa_cons pe_int (pa_cons pe_int pa_nil)))))) pa_nil))) hu)))) ?_
  rintro Z σ H ⟨p, W, ls, lg, lc, ln, ts, gs, cs, ns, l, us, n, o3, o4, o5, o6, o7, o8, o9, o10, o11, o12, rfl, hW, hp, hn, hl, so, u10, q⟩
  have sl := sizeLine_eq
  have nlp := pu_ne_sts hp hl.1
  refine ⟨_, rfl, _, rfl, p, l, n, _, rfl, hp, by omega, hl.1, nlp, by rw [List.length_map]; omega, fun hd zs H1 pz hp1 b1 nhd hhd => ?_⟩
  obtain ⟨vs, pvs, rfl⟩ := perm_map_inv pz us rfl
  rw [List.length_map] at hp1
  have php : p ≠ hd := fun e => by
    obtain ⟨xs, hx⟩ := hp.lst
    rw [e, nhd] at hx
    cases hx
  have bd : But p H (del H1 hd) := fun a o na e => del_of (b1 a o na e) (ne_of_none e nhd)
  have hpd := hp1.del php
  have hWd := hW.but bd hp.lst
  have hld := hl.but bd nlp hp.lst
  have hh1 : Sts H1 hd vs := ⟨hhd, fun t ht => del_same _ _ (hld.2 t (pvs.mem_iff.mp ht))⟩
  have sov : SOk (snds vs) := so.perm (pvs.map fun t => t.2)
  refine ⟨_, rfl, hd, _, rfl, Or.inl (SqL.of hh1.1), fun be nbe => ?_⟩
  have s2 := same_upd (o := .lst (vs.map fun t => V.ref t.1)) nbe
  have hbe : Sts (upd H1 be (.lst (vs.map fun t => V.ref t.1))) be vs := ⟨upd_same, fun t ht => s2 _ _ (hh1.2 t ht)⟩
  generalize upd H1 be (.lst (vs.map fun t => V.ref t.1)) = H2 at s2 hbe ⊢
  refine ⟨_, rfl, hd, vs, rfl, hh1.keep s2, sov, fun made dx l' ts' H3 s3 nq nl ht pt as' => ⟨_, _, rfl, ?_⟩⟩
  have s23 := same_trans s2 s3
  have ptu := pt.trans pvs
  have ist := isT_of ht so ptu as'
  have hl3 : Sts H3 l us := (hld.keep del_same).keep s23
  refine ⟨_, rfl, _, rfl, _, _, dp_of (hh1.keep s23), dp_of (hbe.keep s3), sts_shaped sov.ok, sts_shaped sov.ok, _, rfl, ?_⟩
  rw [eqv_sts, decide_eq_true rfl]
  refine ifF (by decide) ⟨_, rfl, _, rfl, made, l, us, rfl, ist, hl3, by omega, fun H4 s4 => ⟨_, rfl, ifF (by decide) ?_⟩⟩
  have s24 := same_trans s23 s4
  have hh4 := hh1.keep s24
  refine ⟨_, rfl, Or.inl ⟨rfl, _, SqL.of hh4.1⟩, (by show 5 ≤ sizeLine; rw [sl]; decide), fun z nz => ?_⟩
  have s5 := same_upd (o := .tup [V.str "zz", V.str "zz", V.str "zzz", V.int 1, V.int 1]) nz
  generalize upd H4 z (.tup [V.str "zz", V.str "zz", V.str "zzz", V.int 1, V.int 1]) = H5 at s5 ⊢
  have hh5 := hh4.keep s5
  have s25 := same_trans s24 s5
  have vl := pvs.length_eq
  refine ⟨hd, _, _, rfl, rfl, hh5.1, by rw [List.length_map]; omega, ?_⟩
  have nl' : l' ≠ hd := fun e => by
    have e1 := s2 _ _ hh1.1
    rw [← e, nl] at e1
    cases e1
  have istd : IsT (del H5 hd) CT made (snds us) := isT_of ((ht.keep (same_trans s4 s5)).del ⟨_, hh5.1⟩ nl') so ptu as'
  have dk := del_keep (D := hd) s25
  exact q hd be made _ (TLs.keep ⟨hWd.keep dk, (hpd.mono (by omega)).same dk, bd.trans (Same.but dk), hld.keep dk, so, u10, istd⟩ del_put)
end
end K2
end
section
set_option Elab.async false
set_option linter.all false
set_option maxRecDepth 100000
set_option maxHeartbeats 4000000
namespace K2
open PySem PySem.Spec PyProof.Rows L2
section
variable {P : Program} {w : World} {K : PySem.W.Frag} {mg : Str → Option Value} {base : Heap} {f : Addr} {cdv : Value} {A : Around} {outer : List Env} {s : Shared} {Hl : Hp} {E : XK} {CQ CT : Addr}
/-- statements 4 to 6 -/
def tTBk (CQ CT : Addr) (u : TS) : TS := fun Z σ H => ∃ (H0 : Hp) (p W ls lg lc ln : Addr) (ts : List (Addr × S5)) (gs cs ns : List Str) (l made : Addr) (us : List (Addr × S5)) (n : Int) (o3 o4 o6 o7 o8 o9 o10 o11 o12 : Option V),
  σ = [some (.ref p), some (.ref W), some (.ref l), o3, o4, some (.ref made), o6, o7, o8, o9, o10, o11, o12] ∧ TLs CT H0 H p W ls lg lc ln ts gs cs ns l made us n ∧
  ∀ o6 tw qh H', TLs CT H0 H' p W ls lg lc ln ts gs cs ns l made us n → IsT H' CT tw (snds us) → IsQ H' CQ qh (snds ts) gs → u Z [some (.ref p), some (.ref W), some (.ref l), o3, o4, some (.ref made), o6, some (.ref tw), some (.ref qh), o9, o10, o11, o12] H'
theorem tlB (Q : QE P w K mg base CQ CT) (T : Tx K mg) (hr8 : Room 8 (A.deeper (envOfC "_law_town_law" (defScope sTLaw) s.heap.objs.size f cdv))) {rest : List Stmt} {u : TS} (hu : PSs (TTL P w K mg base f cdv A outer s Hl E) rest u) :
    PSs (TTL P w K mg base f cdv A outer s Hl E) (tlS 4 :: tlS 5 :: tlS 6 :: rest) (tTBk CQ CT u) := by
  have hr : Room 7 (A.deeper (envOfC "_law_town_law" (defScope sTLaw) s.heap.objs.size f cdv)) := hr8.mono (by decide)
  have gLi := T.fr "list" (by decide +kernel)
  have gRe := T.fr "reversed" (by decide +kernel)
  have r1 : Room 1 (A.deeper (envOfC "_law_town_law" (defScope sTLaw) s.heap.objs.size f cdv)) := hr.mono (by decide)
  have r2 : Room 2 (A.deeper (envOfC "_law_town_law" (defScope sTLaw) s.heap.objs.size f cdv)) := hr.mono (by decide)
  have r5 : Room 7 (A.deeper (envOfC "_law_town_law" (defScope sTLaw) s.heap.objs.size f cdv)) := hr.mono (by decide)
  have r6 : Room 6 (A.deeper (envOfC "_law_town_law" (defScope sTLaw) s.heap.objs.size f cdv)) := hr.mono (by decide)
  refine weak (pss_cons (ps_for PassesOwn.never rfl (pi_tup (pe_tup (pa_cons (pe_mz Q.J.ms.ts (pv 5) r1) (pa_cons (pe_fzK Q.plK r2 (by rfl) (pk_cons (pv 5) pk_nil)) pa_nil)))) (pg_name (i := 6) scTLaw.nd rfl (Or.inl rfl))
      (pss_cons (ps_expr (pe_bm0 PySem.F.plainAttrs_list PySem.F.slot_list_reverse PySem.F.type_list_reverse mt_reverse (pv 6))) (pss_one (ps_expr (pe_bm PySem.F.plainAttrs_list PySem.F.slot_list_append PySem.F.type_list_append mt_append (pv 6) (pa_cons pe_str pa_nil))))))
    (pss_cons (ps_par (i := 7) (j := 8) rfl scTLaw.nd rfl rfl (by decide) rfl rfl (pa_cons (pe_twK Q.mt r5 (by rfl) (pk_cons (pe_lstRev rfl (by rfl) gLi (by rfl) gRe (pv 2)) pk_nil)) (pa_cons (pe_fz Q.lq hr8 (by rfl) (pa_cons (pv 1) pa_nil)) pa_nil)) (by rfl))
    (pss_cons (ps_if (PW.pt (pw_or (pt_not (pt_val (pe_fz Q.tr hr (by rfl) (pa_cons (pv 5) (pa_cons (pv 2) pa_nil))))) (pw_or (pt_not (pt_cmpR (op_obEq Q.Z r1) (pv 5) (pv 7) (nomark _))) (pw_or1 (pt_cmpR (op_obNe Q.Z r2) (pv 5) (pv 7) (nomark _))))))
      (pss_one (ps_ret pe_bl)) pss_nil) hu))) ?_
  rintro Z σ H ⟨H0, p, W, ls, lg, lc, ln, ts, gs, cs, ns, l, made, us, n, o3, o4, o6, o7, o8, o9, o10, o11, o12, rfl, L, q⟩
  have sl := sizeLine_eq
  have so := L.so
  have u10 := L.u10
  obtain ⟨⟨dx, ml, mts, hm, pt, as⟩, _⟩ := L.t
  have lm := pt.length_eq
  rw [List.length_map, List.length_map] at lm
  -- two lists are told
  refine ⟨_, rfl, made, dx, _, rfl, hm.at_, rfl, made, dx, ml, _, _, rfl, hm.at_, rfl, hm.s.1, fun D1 n1 => ?_⟩
  have s1 := same_upd (o := .lst (mts.map fun t => V.ref t.1)) n1
  have hD1 : upd H D1 (.lst (mts.map fun t => V.ref t.1)) D1 = some (.lst (mts.map fun t => V.ref t.1)) := upd_same
  generalize upd H D1 (.lst (mts.map fun t => V.ref t.1)) = H1 at s1 hD1 ⊢
  have hm1 := hm.keep s1
  refine ⟨_, rfl, rfl, made, dx, ml, mts, rfl, hm1, by omega, fun D3 vs H3 s3 n3 tvs hD3 => ?_⟩
  have vl : vs.length ≤ 50 := by
    have h1 := len_le_of_sub vs (ends (snds mts)) tvs.nd fun x hx => (tvs.mem x).mp hx
    have h2 := ends_len (snds mts)
    rw [List.length_map] at h2
    omega
  refine ⟨(by show 2 ≤ sizeLine; rw [sl]; decide), fun tp ntp => ?_⟩
  have s4 := same_upd (o := .tup [V.ref D1, V.ref D3]) ntp
  have htp : upd H3 tp (.tup [V.ref D1, V.ref D3]) tp = some (.tup [V.ref D1, V.ref D3]) := upd_same
  generalize upd H3 tp (.tup [V.ref D1, V.ref D3]) = H4 at s4 htp ⊢
  have s04 := same_trans s1 (same_trans s3 s4)
  have f1 : H D1 = none := n1
  have f3 : H D3 = none := s1.free n3
  refine ⟨tp, rfl, ⟨_, SqT.of htp⟩, ?_⟩
  refine for_tup (K := K) (a := tp) (xs := [V.ref D1, V.ref D3]) (fun i σ H' => (∃ o6 : Option V, σ = [some (.ref p), some (.ref W), some (.ref l), o3, o4, some (.ref made), o6, o7, o8, o9, o10, o11, o12]) ∧ Same H H' ∧ H' tp = some (.tup [V.ref D1, V.ref D3]) ∧ ∀ D ∈ [D1, D3], ∃ xs, H' D = some (.lst xs) ∧ xs.length ≤ 60 + i)
    ⟨⟨_, rfl⟩, s04, htp, fun D hD => ?_⟩ (fun i σ H' _ h => SqT.of h.2.2.1) ?_ ?_
  · simp only [List.mem_cons, List.not_mem_nil, or_false] at hD
    rcases hD with rfl | rfl
    · exact ⟨_, s4 _ _ (s3 _ _ hD1), by rw [List.length_map]; omega⟩
    · exact ⟨_, s4 _ _ hD3, by rw [List.length_map]; omega⟩
  · rintro i v σ H' hi ⟨⟨o6, rfl⟩, s5, htp5, hD⟩
    have vm := List.mem_of_getElem? hi
    have il : i < 2 := (List.getElem?_eq_some_iff.mp hi).1
    have : ∃ D, v = V.ref D ∧ D ∈ [D1, D3] ∧ H D = none := by
      simp only [List.mem_cons, List.not_mem_nil, or_false] at vm
      rcases vm with rfl | rfl
      · exact ⟨D1, rfl, by simp, f1⟩
      · exact ⟨D3, rfl, by simp, f3⟩
    obtain ⟨D, rfl, Dm, fD⟩ := this
    obtain ⟨xs, hx, xl⟩ := hD D Dm
    refine ⟨_, rfl, Or.inl ⟨rfl, xs, SqL.of hx⟩, D, xs, rfl, rfl, hx, ?_⟩
    refine ⟨_, rfl, Or.inl ⟨rfl, xs.reverse, SqL.of upd_same⟩, D, xs.reverse, _, rfl, rfl, upd_same, by rw [List.length_reverse]; omega, ?_⟩
    refine ⟨⟨_, rfl⟩, fun a o e => ?_, ?_, fun D' hD' => ?_⟩
    · rw [upd_ne (ne_of_none e fD), upd_ne (ne_of_none e fD)]
      exact s5 _ _ e
    · have ne : tp ≠ D := fun e => by
        rw [e, hx] at htp5
        cases htp5
      rw [upd_ne ne, upd_ne ne]
      exact htp5
    · by_cases e : D' = D
      · subst e
        exact ⟨_, upd_same, by rw [List.length_append, List.length_reverse]; simp only [List.length_cons, List.length_nil]; omega⟩
      · obtain ⟨ys, hy, yl⟩ := hD D' hD'
        exact ⟨ys, by rw [upd_ne e, upd_ne e]; exact hy, by omega⟩
  · rintro σ H5 ⟨⟨o6, rfl⟩, s5, _, _⟩
    have L5 := L.keep s5
    refine ⟨_, rfl, l, _, rfl, SqL.of L5.s.1, fun G nG => ?_⟩
    rw [← List.map_reverse]
    have s6 := same_upd (o := .lst (us.reverse.map fun t => V.ref t.1)) nG
    have hG : Sts (upd H5 G (.lst (us.reverse.map fun t => V.ref t.1))) G us.reverse := ⟨upd_same, fun t ht => s6 _ _ (L5.s.2 t (List.mem_reverse.mp ht))⟩
    generalize upd H5 G (.lst (us.reverse.map fun t => V.ref t.1)) = H6 at s6 hG ⊢
    have tr : us.reverse.Perm us := List.reverse_perm us
    have so2 : SOk (snds us.reverse) := so.perm (tr.map fun t => t.2)
    refine ⟨.ref G, rfl, G, us.reverse, rfl, hG, so2, fun tw dx' l' ts' H7 s7 _ _ htw pt' as' => ?_⟩
    have isT := isT_of htw so (pt'.trans tr) as'
    have L7 := L5.keep (same_trans s6 s7)
    refine ⟨_, rfl, p, W, ls, lg, lc, ln, ts, gs, cs, ns, rfl, L7.wo, fun qh H8 s8 nq isq => ⟨_, _, rfl, ?_⟩⟩
    have L8 := L7.keep s8
    have isT8 := isT.keep s8
    refine ⟨_, rfl, _, rfl, made, l, us, rfl, L8.t, L8.s, by omega, fun H9 s9 => ⟨_, rfl, ifF (by decide) ?_⟩⟩
    have L9 := L8.keep s9
    have isT9 := isT8.keep s9
    have isq9 := isq.keep s9
    have e1 : Oeq (.t (snds us)) (.t (snds us)) := List.Perm.refl _
    refine ⟨_, rfl, _, rfl, _, _, .t L9.t, .t isT9, .inl (fun z => nomatch z), fun k1 h1 => ?_⟩
    cases oeq_t e1 h1
    refine ⟨_, rfl, ifF (by decide) ?_⟩
    refine ⟨_, rfl, _, rfl, _, _, .t L9.t, .t isT9, .inl (fun z => nomatch z), fun k2 h2 => ?_⟩
    cases oeq_t e1 h2
    refine ⟨_, rfl, ifF (by decide) ?_⟩
    exact q _ _ _ _ L9 isT9 isq9
end
end K2
end
section
set_option Elab.async false
set_option linter.all false
set_option maxRecDepth 100000
set_option maxHeartbeats 4000000
namespace K2
open PySem PySem.Spec PyProof.Rows L2
theorem told_eq {zs ys hs gs : List Str} {mts us : List (Addr × S5)} (tz : Told zs (hs ++ ends (snds mts))) (pg : hs.Perm gs) (pt : (snds mts).Perm (snds us)) (ty : Told ys (gs ++ ends (snds us))) : zs = ys :=
  tz.uniq ty fun x => by
    rw [List.mem_append, List.mem_append, pg.mem_iff, ends_perm pt]
section
variable {P : Program} {w : World} {K : PySem.W.Frag} {mg : Str → Option Value} {base : Heap} {f : Addr} {cdv : Value} {A : Around} {outer : List Env} {s : Shared} {Hl : Hp} {E : XK} {CQ CT : Addr}
/-- statements 7 to 11 -/
def tTC (CQ CT : Addr) (u : TS) : TS := fun Z σ H => ∃ (H0 : Hp) (p W ls lg lc ln : Addr) (ts : List (Addr × S5)) (gs cs ns : List Str) (l made tw qh : Addr) (us : List (Addr × S5)) (n : Int) (o3 o4 o6 o9 o10 o11 o12 : Option V),
  σ = [some (.ref p), some (.ref W), some (.ref l), o3, o4, some (.ref made), o6, some (.ref tw), some (.ref qh), o9, o10, o11, o12] ∧ TLs CT H0 H p W ls lg lc ln ts gs cs ns l made us n ∧ IsT H CT tw (snds us) ∧ IsQ H CQ qh (snds ts) gs ∧
  ∀ o6 due ys H', TLs CT H0 H' p W ls lg lc ln ts gs cs ns l made us n → IsQ H' CQ qh (snds ts) gs → Ws H' due ys → Told ys (gs ++ ends (snds us)) → u Z [some (.ref p), some (.ref W), some (.ref l), o3, o4, some (.ref made), o6, some (.ref tw), some (.ref qh), some (.ref due), o10, o11, o12] H'
theorem tlC (Q : QE P w K mg base CQ CT) (GT : Fz P w K mg base "_law_turns_right" 8 ["_law_quarter_here", "_law_town", "_law_world_here", "_law_streets"] (spTurns CQ CT)) (T : Tx K mg) (hr8 : Room 8 (A.deeper (envOfC "_law_town_law" (defScope sTLaw) s.heap.objs.size f cdv))) {rest : List Stmt} {u : TS} (hu : PSs (TTL P w K mg base f cdv A outer s Hl E) rest u) :
    PSs (TTL P w K mg base f cdv A outer s Hl E) (tlS 7 :: tlS 8 :: tlS 9 :: tlS 10 :: tlS 11 :: rest) (tTC CQ CT u) := by
  have hr : Room 7 (A.deeper (envOfC "_law_town_law" (defScope sTLaw) s.heap.objs.size f cdv)) := hr8.mono (by decide)
  have gSo := T.fr "sorted" (by decide +kernel)
  have r1 : Room 1 (A.deeper (envOfC "_law_town_law" (defScope sTLaw) s.heap.objs.size f cdv)) := hr.mono (by decide)
  have r3 : Room 3 (A.deeper (envOfC "_law_town_law" (defScope sTLaw) s.heap.objs.size f cdv)) := hr.mono (by decide)
  have r6 : Room 6 (A.deeper (envOfC "_law_town_law" (defScope sTLaw) s.heap.objs.size f cdv)) := hr.mono (by decide)
  refine weak (pss_cons (ps_set (i := 9) scTLaw.nd rfl (Or.inl rfl) (pe_callB cr_sortedS (by rfl) gSo (by decide +kernel) (pa_cons (pe_op op_cat (pe_ix ix_list (pv 1) pe_int (fun _ _ => rfl))
        (pe_lc (own := [("_law_word_here", 11)]) (g := gName 11) (tt := tTest (tOp (rIn K true) (tVar 11) (tOp (rIxL K) (tVar 1) (tC (.int ((1 : Nat) : Int)))))) (te := tVar 11) rfl scTLaw.nd (pi_list (pe_fz Q.J.sp r1 (by rfl) (pa_cons (pv 2) pa_nil))) (blkOk_by (own := [("_law_word_here", 11)]) (N := NTL) (sc := defScope sTLaw) (by decide +kernel))
          (fun _ _ _ _ _ => pg_name (i := 11) scTLaw.nd rfl (Or.inl rfl)) (fun _ _ _ _ _ => pts_one (pt_cmpR op_notIn_seq (pv 11) (pe_ix ix_list (pv 1) pe_int (fun _ _ => rfl)) rfl)) (fun _ _ _ _ _ => pv 11))) pa_nil)))
    (pss_cons (ps_set (i := 6) scTLaw.nd rfl (Or.inl rfl) (pe_fzK Q.akK r3 (by rfl) (pk_cons (pv 5) (pk_cons (pv 8) pk_nil))))
    (pss_cons (ps_if (PW.pt (pw_or (pt_not (pt_val (pe_fz Q.J.ex r6 (by rfl) (pa_cons (pv 6) (pa_cons (pv 9) pa_nil))))) (pw_or1 (pt_not (pt_val (pe_fz Q.J.ex r6 (by rfl) (pa_cons (pe_fz Q.J.ak r3 (by rfl) (pa_cons (pv 8) (pa_cons (pv 7) pa_nil))) (pa_cons (pv 9) pa_nil))))))))
      (pss_one (ps_ret pe_bl)) pss_nil)
    (pss_cons (ps_expr (pe_bm PySem.F.plainAttrs_list PySem.F.slot_list_append PySem.F.type_list_append mt_append (pv 6) (pa_cons pe_str pa_nil)))
    (pss_cons (ps_if (pt_not (pt_val (pe_fz GT hr8 (by rfl) (pa_cons (pv 8) (pa_cons (pv 5) (pa_cons (pv 1) (pa_cons (pv 2) pa_nil))))))) (pss_one (ps_ret pe_bl)) pss_nil) hu))))) ?_
  rintro Z σ H ⟨H0, p, W, ls, lg, lc, ln, ts, gs, cs, ns, l, made, tw, qh, us, n, o3, o4, o6, o9, o10, o11, o12, rfl, L, isT, isq, q⟩
  have sl := sizeLine_eq
  have so := L.so
  have u10 := L.u10
  obtain ⟨gnd, gsub, gne, g5⟩ := L.wo.wo.gnd
  refine ⟨_, rfl, W, _, ((1 : Nat) : Int), _, rfl, rfl, SqL.of L.wo.at_, atI_nat rfl, ?_⟩
  refine ⟨_, rfl, l, us, rfl, L.s, fun t h => (so.ok t.2 (List.mem_map.mpr ⟨t, h, rfl⟩)).2.2.2.1, by omega, fun D5 vs H1 s1 n5 tus hD5 => ?_⟩
  have vl : vs.length ≤ 20 := by
    have h1 := len_le_of_sub vs (ends (snds us)) tus.nd fun x hx => (tus.mem x).mp hx
    have h2 := ends_len (snds us)
    rw [List.length_map] at h2
    omega
  have L1 := L.keep s1
  refine ⟨D5, rfl, ⟨_, SqL.of hD5⟩, fun D6 n6 => ?_⟩
  refine lc_notinE (K := K) (i := 11) (F := lg) (bs := gs) (ws := vs) (walk_strs (K := K) (a := D5) (ws := vs)) n6 (fun H' s => SqL.of (s _ _ hD5)) L1.wo.wo.g (by omega) (fun v => rfl) (fun v H' Q' s q' => ⟨_, rfl, W, _, ((1 : Nat) : Int), _, rfl, rfl, SqL.of (s _ _ L1.wo.at_), atI_nat rfl, q'⟩) (fun v => rfl) fun H2 s2 hD6 => ?_
  have fl := List.length_filter_le (fun x => decide (x ∉ gs)) vs
  have L2 := L1.keep s2
  refine ⟨lg, D6, _, _, rfl, rfl, L2.wo.wo.g, hD6, by rw [List.length_map, List.length_map]; omega, fun D7 n7 => ?_⟩
  rw [← List.map_append]
  have s3 := same_upd (o := .lst ((gs ++ vs.filter fun x => decide (x ∉ gs)).map V.str)) n7
  have hD7 : Ws (upd H2 D7 (.lst ((gs ++ vs.filter fun x => decide (x ∉ gs)).map V.str))) D7 (gs ++ vs.filter fun x => decide (x ∉ gs)) := upd_same
  generalize upd H2 D7 (.lst ((gs ++ vs.filter fun x => decide (x ∉ gs)).map V.str)) = H3 at s3 hD7 ⊢
  refine ⟨D7, _, rfl, SqL.of hD7, by rw [List.length_append]; omega, fun ys due pm sy n8 => ?_⟩
  have s4 := same_upd (o := .lst (ys.map V.str)) n8
  have hdue : Ws (upd H3 due (.lst (ys.map V.str))) due ys := upd_same
  generalize upd H3 due (.lst (ys.map V.str)) = H4 at s4 hdue ⊢
  have ty : Told ys (gs ++ ends (snds us)) := told_sorted pm sy (nodup_filter_app gnd tus.nd) fun x => by
    rw [List.mem_append, List.mem_append, List.mem_filter, tus.mem]
    by_cases hx : x ∈ gs <;> simp [hx]
  have yl : ys.length ≤ 1000 := by
    rw [pm.length_eq, List.length_append]
    omega
  have s04 := same_trans s1 (same_trans s2 (same_trans s3 s4))
  have L4 := L.keep s04
  have isT4 := isT.keep s04
  have isq4 := isq.keep s04
  obtain ⟨⟨dx, ql, qg, qts, hs, hq, qt, qa, pg, ag⟩, _, _⟩ := isq4
  obtain ⟨⟨dp, lp, mts, hm, pt, as⟩, _⟩ := L4.t
  obtain ⟨⟨dp2, lp2, mts2, hm2, pt2, as2⟩, _⟩ := isT4
  have gl := pg.length_eq
  have tl := pt.length_eq
  have tl2 := pt2.length_eq
  rw [List.length_map, List.length_map] at tl tl2
  refine ⟨_, rfl, _, rfl, rfl, qh, dx, ql, qg, qts, hs, made, dp, lp, mts, rfl, hq, by omega, hm, by omega, fun D8 zs H5 s5 n8 tz hD8 => ?_⟩
  cases told_eq tz pg pt ty
  refine ⟨_, rfl, _, rfl, _, _, _, rfl, dt_ws hD8, dt_ws (s5 _ _ hdue), Nat.le_trans (dep_strs _) (by decide), wid_strs yl, fun H6 s6 => ⟨_, rfl, ifF (by decide) ?_⟩⟩
  have s46 := same_trans s5 s6
  refine ⟨_, rfl, _, rfl, qh, dx, ql, qg, qts, hs, tw, dp2, lp2, mts2, rfl, hq.keep s46, by omega, hm2.keep s46, by omega, fun D9 zs2 H7 s7 n9 tz2 hD9 => ?_⟩
  cases told_eq tz2 pg pt2 ty
  have s47 := same_trans s46 s7
  refine ⟨_, rfl, _, _, _, rfl, dt_ws hD9, dt_ws (s47 _ _ hdue), Nat.le_trans (dep_strs _) (by decide), wid_strs yl, fun H8 s8 => ⟨_, rfl, ifF (by decide) ?_⟩⟩
  have s48 := same_trans s47 s8
  have hD88 : Ws H8 D8 ys := (same_trans s6 (same_trans s7 s8)) _ _ hD8
  refine ⟨_, rfl, Or.inl ⟨rfl, _, SqL.of hD88⟩, D8, _, _, rfl, rfl, hD88, by rw [List.length_map]; omega, ?_⟩
  have sk : ∀ o, Same H4 (upd H8 D8 o) := fun o a u e => by
    rw [upd_ne (ne_of_none e n8)]
    exact s48 _ _ e
  have k := sk (.lst (ys.map V.str ++ [V.str "zz"]))
  have L9 := L4.keep k
  have isq9 : IsQ H4 CQ qh (snds ts) gs := isq.keep s04
  have isq9 := isq9.keep k
  have hdue9 : Ws _ due ys := k _ _ hdue
  refine ⟨_, rfl, _, rfl, _, rfl, _, rfl, qh, made, W, l, ls, lg, lc, ln, snds ts, gs, snds us, ts, gs, cs, ns, us, rfl, isq9, by omega, L9.t, by rw [List.length_map]; omega, L9.wo.at_, L9.wo.wo, L9.s, so, fun H10 s10 => ⟨_, rfl, ifF (by decide) ?_⟩⟩
  exact q _ due ys H10 (L9.keep s10) (isq9.keep s10) (s10 _ _ hdue9) ty
end
end K2
end
section
set_option Elab.async false
set_option linter.all false
set_option maxRecDepth 100000
set_option maxHeartbeats 4000000
namespace K2
open PySem PySem.Spec PyProof.Rows L2
theorem no_ts {ss ss' : List S5} (h : ¬ ss'.Perm ss) : ¬ Oeq (.t ss) (.t ss') ∧ ¬ Oeq (.t ss') (.t ss) := ⟨fun z => h (List.Perm.symm z), fun z => h z⟩
section
variable {P : Program} {w : World} {K : PySem.W.Frag} {mg : Str → Option Value} {base : Heap} {f : Addr} {cdv : Value} {A : Around} {outer : List Env} {s : Shared} {Hl : Hp} {E : XK} {CQ CT : Addr}
/-- statement 12 to the end -/
def tTD (CQ CT : Addr) : TS := fun Z σ H => ∃ (H0 : Hp) (p W ls lg lc ln : Addr) (ts : List (Addr × S5)) (gs cs ns : List Str) (l made qh due : Addr) (us : List (Addr × S5)) (ys : List Str) (n : Int) (o3 o4 o6 o7 o10 o11 o12 : Option V),
  σ = [some (.ref p), some (.ref W), some (.ref l), o3, o4, some (.ref made), o6, o7, some (.ref qh), some (.ref due), o10, o11, o12] ∧ TLs CT H0 H p W ls lg lc ln ts gs cs ns l made us n ∧ n ≤ 650000 ∧ IsQ H CQ qh (snds ts) gs ∧ Ws H due ys ∧ Told ys (gs ++ ends (snds us)) ∧
  ∀ H', But p H0 H' → Pu H' p (n + 120) → Z.rt (.bl true) H'
theorem tlD (Q : QE P w K mg base CQ CT) (T : Tx K mg) (hr8 : Room 8 (A.deeper (envOfC "_law_town_law" (defScope sTLaw) s.heap.objs.size f cdv))) :
    PSs (TTL P w K mg base f cdv A outer s Hl E) [tlS 12, tlS 13, tlS 14, tlS 15] (tTD CQ CT) := by
  have hr : Room 7 (A.deeper (envOfC "_law_town_law" (defScope sTLaw) s.heap.objs.size f cdv)) := hr8.mono (by decide)
  have gLi := T.fr "list" (by decide +kernel)
  have r3 : Room 3 (A.deeper (envOfC "_law_town_law" (defScope sTLaw) s.heap.objs.size f cdv)) := hr.mono (by decide)
  have r4 : Room 4 (A.deeper (envOfC "_law_town_law" (defScope sTLaw) s.heap.objs.size f cdv)) := hr.mono (by decide)
  have r5 : Room 7 (A.deeper (envOfC "_law_town_law" (defScope sTLaw) s.heap.objs.size f cdv)) := hr.mono (by decide)
  have r6 : Room 6 (A.deeper (envOfC "_law_town_law" (defScope sTLaw) s.heap.objs.size f cdv)) := hr.mono (by decide)
  refine weak (pss_cons (ps_setLc (i := 10) (own := [("_law_some", 12)]) (g := gName 12) (tt := tYes) (te := tCall (spTown CT) [] E0 (tCons (tVar 12) tNil)) rfl scTLaw.nd rfl rfl (sw_true rfl rfl rfl (by decide +kernel)) (pi_list (pe_fz Q.ot r4 (by rfl) (pa_cons (pv 0) (pa_cons (pv 2) pa_nil)))) (blkOk_by (own := [("_law_some", 12)]) (N := NTL) (sc := defScope sTLaw) (by decide +kernel))
        (fun _ _ _ _ _ => pg_name (i := 12) scTLaw.nd rfl (Or.inl rfl)) (fun _ _ _ _ _ => pts_nil) (fun _ _ _ _ _ => pe_tw Q.mt r5 (by rfl) (pa_cons (pv 12) pa_nil)))
    (pss_cons (ps_set (i := 10) scTLaw.nd rfl (Or.inl rfl) (pe_op op_cat (pv 10) (pe_lst (pa_cons pe_non (pa_cons pe_int (pa_cons pe_bl (pa_cons pe_str (pa_cons (pe_lst pa_nil) (pa_cons (pe_tup pa_nil) (pa_cons pe_dnewK
      (pa_cons (pe_callTy call_list_of (by rfl) gLi (by decide +kernel) (pa_cons (pv 2) pa_nil))
      (pa_cons (pe_tup (pa_cons (pe_callTy call_list_of (by rfl) gLi (by decide +kernel) (pa_cons (pv 2) pa_nil)) pa_nil))
      (pa_cons (pe_qu Q.mq r5 (by rfl) (pa_cons (pe_callTy call_list_of (by rfl) gLi (by decide +kernel) (pa_cons (pv 2) pa_nil)) (pa_cons (pe_lst (pa_cons pe_str pa_nil)) pa_nil))) pa_nil)))))))))))))
    (pss_cons (ps_if (PW.pt (pw_or (pt_not (pt_val (pe_fz Q.ur hr (by rfl) (pa_cons (pv 5) (pa_cons (pv 10) pa_nil))))) (pw_or1 (pt_not (pt_val (pe_fz Q.J.ex r6 (by rfl) (pa_cons (pe_fz Q.J.ak r3 (by rfl) (pa_cons (pv 8) (pa_cons (pv 5) pa_nil))) (pa_cons (pv 9) pa_nil))))))))
      (pss_one (ps_ret pe_bl)) pss_nil)
    (pss_one (ps_ret (pe_and (pe_fz Q.tr hr (by rfl) (pa_cons (pv 5) (pa_cons (pv 2) pa_nil))) (pe_one (pe_fz Q.qr hr (by rfl) (pa_cons (pv 8) (pa_cons (pe_ix ix_list (pv 1) pe_int (fun _ _ => rfl)) (pa_cons (pe_ix ix_list (pv 1) pe_int (fun _ _ => rfl)) pa_nil)))))))))) ) ?_
  rintro Z σ H ⟨H0, p, W, ls, lg, lc, ln, ts, gs, cs, ns, l, made, qh, due, us, ys, n, o3, o4, o6, o7, o10, o11, o12, rfl, L, hn, isq, hdue, ty, q⟩
  have sl := sizeLine_eq
  have z0 : 0 ≤ sizeLine := by rw [sl]; decide
  have z1 : 1 ≤ sizeLine := by rw [sl]; decide
  have so := L.so
  have u10 := L.u10
  have wl2 := L.wo.wo.l2
  have wl3 := L.wo.wo.l3
  obtain ⟨gnd, gsub, gne, g5⟩ := L.wo.wo.gnd
  -- the others
  refine ⟨_, rfl, _, rfl, p, l, us, n, rfl, L.pu, by omega, L.s, pu_ne_sts L.pu L.s.1, so, by omega, fun D0 as H1 hp1 b1 fd al => ?_⟩
  have L1 := L.but b1 hp1
  have isq1 := isq.but L.pu b1
  have hdue1 : Ws H1 due ys := b1 _ _ (pu_ne_ws L.pu hdue) hdue
  refine ⟨D0, rfl, ⟨_, SqL.of fd.l⟩, fun D nD => ?_⟩
  refine lc_list (K := K) (a := D0) (xs := as.map fun a => V.ref a.1) (fun j H' => Same H1 H' ∧ ∃ xs, OsL CQ CT (.t (snds us)) H' D xs ∧ xs.length ≤ j)
    ⟨same_upd nD, [], OsL.new nD Os.nil, Nat.le_refl _⟩ (fun j H' _ h => SqL.of (h.1 _ _ fd.l)) ?_ ?_
  · rintro j x H' hj ⟨s2, xs, ox, xl⟩
    obtain ⟨u, hu', rfl⟩ := at_map hj
    have um := List.mem_of_getElem? hu'
    have jl := (List.getElem?_eq_some_iff.mp hu').1
    obtain ⟨f1, f2, f3, f4⟩ := (fd.keep s2).i u um
    refine ⟨rfl, _, rfl, u.1, u.2, rfl, f1, f2, fun qa dx l' ts' H3 s4 nq nl hq pt as' => ?_⟩
    have ox3 := ox.keep s4
    have ne : ∀ a, H' a = none → a ≠ D := fun a e z => by
      have e1 := ox.1
      rw [← z, e] at e1
      cases e1
    obtain ⟨n1, n2⟩ := no_ts f3
    refine ⟨xs, ox3.1, by omega, fun a o e => ?_, _, ox3.put (Os.one (.t (isT_of (hq.del ⟨_, ox3.1⟩ (ne _ nl)) f2 pt as')) n1 n2), by rw [List.length_append]; simp only [List.length_cons, List.length_nil]; omega⟩
    rw [upd_ne (ne_of_none e nD)]
    exact s4 _ _ (s2 _ _ e)
  · rintro G0 ⟨g0, xs, ox, xl⟩
    rw [List.length_map] at xl
    have M0 := L1.keep g0
    refine ⟨_, rfl, z0, fun a1 n1 => ?_⟩
    have s1 := same_upd (o := .lst []) n1
    have h1 : upd G0 a1 (.lst []) a1 = some (.lst []) := upd_same
    generalize upd G0 a1 (.lst []) = G1 at s1 h1 ⊢
    refine ⟨z0, fun a2 n2 => ?_⟩
    have s2 := same_upd (o := .tup []) n2
    have h2 : upd G1 a2 (.tup []) a2 = some (.tup []) := upd_same
    generalize upd G1 a2 (.tup []) = G2 at s2 h2 ⊢
    refine fun a3 n3 => ?_
    have s3 := same_upd (o := .dK []) n3
    have h3 : upd G2 a3 (.dK []) a3 = some (.dK []) := upd_same
    generalize upd G2 a3 (.dK []) = G3 at s3 h3 ⊢
    have M3 := M0.keep (same_trans s1 (same_trans s2 s3))
    refine ⟨_, rfl, l, _, rfl, Or.inl (SqL.of M3.s.1), fun a4 n4 => ?_⟩
    have s4 := same_upd (o := .lst (us.map fun t => V.ref t.1)) n4
    have h4 : upd G3 a4 (.lst (us.map fun t => V.ref t.1)) a4 = some (.lst (us.map fun t => V.ref t.1)) := upd_same
    generalize upd G3 a4 (.lst (us.map fun t => V.ref t.1)) = G4 at s4 h4 ⊢
    have M4 := M3.keep s4
    refine ⟨_, rfl, l, _, rfl, Or.inl (SqL.of M4.s.1), fun a5 n5 => ?_⟩
    have s5 := same_upd (o := .lst (us.map fun t => V.ref t.1)) n5
    generalize upd G4 a5 (.lst (us.map fun t => V.ref t.1)) = G5 at s5 ⊢
    refine ⟨z1, fun a6 n6 => ?_⟩
    have s6 := same_upd (o := .tup [V.ref a5]) n6
    have h6 : upd G5 a6 (.tup [V.ref a5]) a6 = some (.tup [V.ref a5]) := upd_same
    generalize upd G5 a6 (.tup [V.ref a5]) = G6 at s6 h6 ⊢
    have M6 := M4.keep (same_trans s5 s6)
    refine ⟨_, rfl, l, _, rfl, Or.inl (SqL.of M6.s.1), fun a7 n7 => ?_⟩
    have s7 := same_upd (o := .lst (us.map fun t => V.ref t.1)) n7
    have h7 : Sts (upd G6 a7 (.lst (us.map fun t => V.ref t.1))) a7 us := ⟨upd_same, fun t ht => s7 _ _ (M6.s.2 t ht)⟩
    generalize upd G6 a7 (.lst (us.map fun t => V.ref t.1)) = G7 at s7 h7 ⊢
    refine ⟨z1, fun a8 n8 => ?_⟩
    have s8 := same_upd (o := .lst [V.str "a"]) n8
    have h8 : Ws (upd G7 a8 (.lst [V.str "a"])) a8 ["a"] := upd_same
    generalize upd G7 a8 (.lst [V.str "a"]) = G8 at s8 h8 ⊢
    refine ⟨a7, a8, us, ["a"], rfl, h7.keep s8, so, h8, go_one wd_a, fun qa dx l' g' ts' gs' G9 s9 nq nl ng hq pt as' pg ag => ?_⟩
    have isqa := isQ_of hq so (go_one wd_a) pt as' pg ag
    refine ⟨by show 10 ≤ sizeLine; rw [sl]; decide, fun R nR => ?_⟩
    have s10 := same_upd (o := .lst [V.non, V.int 0, V.bl true, V.str "", V.ref a1, V.ref a2, V.ref a3, V.ref a4, V.ref a6, V.ref qa]) nR
    have hR : upd G9 R (.lst [V.non, V.int 0, V.bl true, V.str "", V.ref a1, V.ref a2, V.ref a3, V.ref a4, V.ref a6, V.ref qa]) R = some (.lst [V.non, V.int 0, V.bl true, V.str "", V.ref a1, V.ref a2, V.ref a3, V.ref a4, V.ref a6, V.ref qa]) := upd_same
    generalize upd G9 R (.lst [V.non, V.int 0, V.bl true, V.str "", V.ref a1, V.ref a2, V.ref a3, V.ref a4, V.ref a6, V.ref qa]) = G10 at s10 hR ⊢
    have t9 := same_trans s9 s10
    have t8 := same_trans s8 t9
    have t7 := same_trans s7 t8
    have t6 := same_trans s6 t7
    have t5 := same_trans s5 t6
    have t4 := same_trans s4 t5
    have t3 := same_trans s3 t4
    have t2 := same_trans s2 t3
    have t1 := same_trans s1 t2
    have ff : ∀ {x : V} {T : String}, KindV G10 x (.type T) → Os G10 CQ CT (.t (snds us)) [x] := fun k => Os.one (.f k) (fun z => z) (fun z => z)
    have oy : Os G10 CQ CT (.t (snds us)) [V.non, V.int 0, V.bl true, V.str "", V.ref a1, V.ref a2, V.ref a3, V.ref a4, V.ref a6, V.ref qa] :=
      (ff .non).two ((ff (.int 0)).two ((ff (.bl true)).two ((ff (.str "")).two ((ff (.lst (t2 _ _ h1))).two ((ff (.tup (t3 _ _ h2))).two ((ff (.dct (t4 _ _ h3))).two ((ff (.lst (t5 _ _ h4))).two ((ff (.tup (t7 _ _ h6))).two (Os.one (.q (isqa.keep s10)) (fun z => z) (fun z => z))))))))))
    have ox9 := ox.keep t1
    refine ⟨D, R, _, _, rfl, rfl, ox9.1, hR, by simp only [List.length_cons, List.length_nil]; omega, fun D' nD' => ?_⟩
    have s11 := same_upd (o := .lst (xs ++ [V.non, V.int 0, V.bl true, V.str "", V.ref a1, V.ref a2, V.ref a3, V.ref a4, V.ref a6, V.ref qa])) nD'
    have hD' : upd G10 D' (.lst (xs ++ [V.non, V.int 0, V.bl true, V.str "", V.ref a1, V.ref a2, V.ref a3, V.ref a4, V.ref a6, V.ref qa])) D' = some (.lst (xs ++ [V.non, V.int 0, V.bl true, V.str "", V.ref a1, V.ref a2, V.ref a3, V.ref a4, V.ref a6, V.ref qa])) := upd_same
    generalize upd G10 D' (.lst (xs ++ [V.non, V.int 0, V.bl true, V.str "", V.ref a1, V.ref a2, V.ref a3, V.ref a4, V.ref a6, V.ref qa])) = G11 at s11 hD' ⊢
    have t11 := same_trans t1 s11
    have M11 := M0.keep t11
    refine ⟨_, rfl, _, rfl, .ref made, .t (snds us), D', _, rfl, .t M11.t, (fun z => nomatch z), hD', (ox9.os.app oy).keep s11, fun G12 s12 => ⟨_, rfl, ifF (by decide) ?_⟩⟩
    have gg := same_trans g0 (same_trans t11 s12)
    have M12 := L1.keep gg
    have isq12 := isq1.keep gg
    have hdue12 : Ws G12 due ys := gg _ _ hdue1
    have isq12' := isq12
    obtain ⟨⟨dx3, ql, qg, qts, hs3, hq3, qt3, qa3, pg3, ag3⟩, _, _⟩ := isq12'
    obtain ⟨⟨dp, lp, mts, hm, pt3, as3⟩, _⟩ := M12.t
    have gl := pg3.length_eq
    have tl := pt3.length_eq
    rw [List.length_map, List.length_map] at tl
    have yl : ys.length ≤ 1000 := by
      have h1 := len_le_of_sub ys (gs ++ ends (snds us)) ty.nd fun x hx => (ty.mem x).mp hx
      have h2 := ends_len (snds us)
      rw [List.length_append] at h1
      rw [List.length_map] at h2
      omega
    refine ⟨_, rfl, _, rfl, qh, dx3, ql, qg, qts, hs3, made, dp, lp, mts, rfl, hq3, by omega, hm, by omega, fun D9 zs2 G13 s13 n13 tz2 hD9 => ?_⟩
    cases told_eq tz2 pg3 pt3 ty
    refine ⟨_, rfl, _, _, _, rfl, dt_ws hD9, dt_ws (s13 _ _ hdue12), Nat.le_trans (dep_strs _) (by decide), wid_strs yl, fun G14 s14 => ⟨_, rfl, ifF (by decide) ?_⟩⟩
    have M14 := M12.keep (same_trans s13 s14)
    have isq14 := isq12.keep (same_trans s13 s14)
    refine ⟨_, rfl, _, rfl, made, l, us, rfl, M14.t, M14.s, by omega, fun G15 s15 => ?_⟩
    have M15 := M14.keep s15
    refine ⟨true, rfl, ifT rfl ⟨_, rfl, _, rfl, W, _, ((0 : Nat) : Int), _, rfl, rfl, SqL.of M15.wo.at_, atI_nat rfl, _, rfl, W, _, ((1 : Nat) : Int), _, rfl, rfl, SqL.of M15.wo.at_, atI_nat rfl, ?_⟩⟩
    refine ⟨qh, ls, lg, ts, gs, rfl, isq14.keep s15, M15.wo.wo.s, M15.wo.wo.g, by omega, fun G16 s16 => ?_⟩
    exact q G16 (M15.bu.trans (Same.but s16)) (M15.pu.same s16)
end
section
variable {P : Program} {w : World} {K : PySem.W.Frag} {mg : Str → Option Value} {base : Heap} {CQ CT : Addr}
def spTLaw : Sp := fun vs H Q _ => ∃ (p W ls lg lc ln : Addr) (ts : List (Addr × S5)) (gs cs ns : List Str) (l : Addr) (us : List (Addr × S5)) (n : Int), vs = [.ref p, .ref W, .ref l] ∧ WoP H p W ls lg lc ln ts gs cs ns ∧ Pu H p n ∧ n ≤ 600000 ∧ Sts H l us ∧ SOk (snds us) ∧ us.length ≤ 10 ∧
  ∀ H', Pu H' p (n + 160) → But p H H' → Q (.bl true) H'
theorem ok_tLaw {f : Addr} {fd : FuncData} (F : FnP K "_law_town_law" sTLaw f fd) (Q : QE P w K mg base CQ CT) (GT : Fz P w K mg base "_law_turns_right" 8 ["_law_quarter_here", "_law_town", "_law_world_here", "_law_streets"] (spTurns CQ CT)) (T : Tx K mg) : FnOk P w K mg base CX0 9 f fd ["_law_purse_here", "_law_world_here", "_law_streets"] spTLaw := by
  refine F.ok scTLaw (fun vs H Q E h => ?_) (fun cdv A outer s H vs Qk E hr h => ?_)
  · obtain ⟨_, _, _, _, _, _, _, _, _, _, _, _, _, rfl, _⟩ := h
    rfl
  · obtain ⟨p, W, ls, lg, lc, ln, ts, gs, cs, ns, l, us, n, rfl, hW, hp, hn, hl, so, u10, z⟩ := h
    refine ⟨_, PSs.nox (tlA Q T hr (tlB Q T hr (tlC Q GT T hr (tlD Q T hr)))), ?_⟩
    refine ⟨p, W, ls, lg, lc, ln, ts, gs, cs, ns, l, us, n, _, _, _, _, _, _, _, _, _, _, rfl, hW, hp, hn, hl, so, u10, fun hd be made H1 L1 => ?_⟩
    refine ⟨H, p, W, ls, lg, lc, ln, ts, gs, cs, ns, l, made, us, _, _, _, _, _, _, _, _, _, _, rfl, L1, fun o6 tw qh H2 L2 isT isq => ?_⟩
    refine ⟨H, p, W, ls, lg, lc, ln, ts, gs, cs, ns, l, made, tw, qh, us, _, _, _, _, _, _, _, _, rfl, L2, isT, isq, fun o6 due ys H3 L3 isq hdue ty => ?_⟩
    refine ⟨H, p, W, ls, lg, lc, ln, ts, gs, cs, ns, l, made, qh, due, us, ys, _, _, _, _, _, _, _, _, rfl, L3, by omega, isq, hdue, ty, fun H4 b hp4 => ?_⟩
    exact z H4 (hp4.mono (by omega)) b
end
end K2
end
section
set_option Elab.async false
set_option linter.all false
set_option maxRecDepth 100000
set_option maxHeartbeats 4000000
namespace K2
open PySem PySem.Spec PyProof.Rows L2
abbrev NGr : List Str := ["_law_world_here", "_law_streets", "_law_gates", "_law_part", "_law_lent", "_law_doors", "_law_lanes", "_law_made", "_law_town", "_law_turn"]
theorem scGrown : FnScope NGr ["_law_world_here"] (defScope sGrown) := ⟨rfl, rfl, rfl, by decide +kernel, rfl, by decide +kernel, by decide +kernel⟩
def grS (j : Nat) : Stmt := (defBody sGrown).getD j (.Pass ⟨0, 0, 0, 0⟩)
def grA (j : Nat) : Stmt := (forBody (grS 1)).getD j (.Pass ⟨0, 0, 0, 0⟩)
def grB (j : Nat) : Stmt := (forBody (grS 2)).getD j (.Pass ⟨0, 0, 0, 0⟩)
theorem cut_mid (xs : List V) (i j : Nat) (h : j = i + 1) : cutV xs (some (i : Int)) (some (j : Int)) = (xs.drop i).take 1 := by
  subst h
  show (xs.drop (HT.sIx xs.length 0 (some (i : Int)))).take (HT.sIx xs.length xs.length (some ((i + 1 : Nat) : Int)) - HT.sIx xs.length 0 (some (i : Int))) = _
  rw [HT.sIx_nat, HT.sIx_nat]
  rcases Nat.lt_or_ge i xs.length with h | h
  · rw [Nat.min_eq_left (by omega), Nat.min_eq_left (by omega)]
    congr 1
    omega
  · rw [Nat.min_eq_right h, Nat.min_eq_right (by omega), List.drop_length, List.drop_of_length_le h]
    simp
theorem go_takeS {gs : List Str} (go : GOk gs) (k : Nat) : GOk (gs.take (k + 1)) :=
  ⟨fun x hx => go.wd x (List.mem_of_mem_take hx), (List.take_sublist _ _).nodup go.nd, fun e => by
    have := congrArg List.length e
    rw [List.length_take, List.length_nil] at this
    have := List.length_pos_iff.mpr go.ne
    omega, by
    rw [List.length_take]
    have := go.l
    omega⟩
section
variable {P : Program} {w : World} {K : PySem.W.Frag} {mg : Str → Option Value} {base : Heap} {f : Addr} {cdv : Value} {A : Around} {outer : List Env} {s : Shared} {Hl : Hp} {E : XK} {CQ CT : Addr}
abbrev TGr (P : Program) (w : World) (K : PySem.W.Frag) (mg : Str → Option Value) (base : Heap) (f : Addr) (cdv : Value) (A : Around) (outer : List Env) (s : Shared) (Hl : Hp) (E : XK) : Cx := (cxOf CX0 P w K mg base NGr "_law_grown_right" (defScope sGrown) f cdv A outer s Hl E).nox
/-- what is lent -/
def tGA (u : TS) : TS := fun Z σ H => ∃ (W ls lg lc ln : Addr) (ts : List (Addr × S5)) (gs cs ns : List Str) (o1 o2 o4 o5 o6 o7 o8 o9 : Option V) (pa : Addr) (vs : List (Addr × S5)),
  σ = [some (.ref W), o1, o2, some (.ref pa), o4, o5, o6, o7, o8, o9] ∧ H W = some (.lst [.ref ls, .ref lg, .ref lc, .ref ln]) ∧ Wo H ls lg lc ln ts gs cs ns ∧ Sts H pa vs ∧ SOk (snds vs) ∧ vs.length ≤ 14 ∧
  ∀ o4 o5 o6 o7 o8 H', Same H H' → u Z [some (.ref W), o1, o2, some (.ref pa), o4, o5, o6, o7, o8, o9] H'
theorem Wo.keep {H H' : Hp} {ls lg lc ln : Addr} {ts : List (Addr × S5)} {gs cs ns : List Str} (h : Wo H ls lg lc ln ts gs cs ns) (b : Same H H') : Wo H' ls lg lc ln ts gs cs ns := by
  obtain ⟨s, g, c, n, r1, r2, r3, r4, r5, r6, r7, r8, r9, r10⟩ := h
  exact ⟨s.keep b, b _ _ g, b _ _ c, b _ _ n, r1, r2, r3, r4, r5, r6, r7, r8, r9, r10⟩
theorem grBodyA (Q : QE P w K mg base CQ CT) (T : Tx K mg) (hr : Room 7 (A.deeper (envOfC "_law_grown_right" (defScope sGrown) s.heap.objs.size f cdv))) :
    PSs (TGr P w K mg base f cdv A outer s Hl E) [grA 0, grA 1, grA 2, grA 3, grA 4, grA 5, grA 6] (tGA (fun Z σ H => Z.nx σ H)) := by
  have gLi := T.fr "list" (by decide +kernel)
  have r5 : Room 7 (A.deeper (envOfC "_law_grown_right" (defScope sGrown) s.heap.objs.size f cdv)) := hr.mono (by decide)
  refine weak (pss_cons (ps_par (i := 4) (j := 5) rfl scGrown.nd rfl rfl (by decide) rfl rfl (pa_cons (pe_callTy call_list_of (by rfl) gLi (by decide +kernel) (pa_cons (pv 3) pa_nil)) (pa_cons (pe_callTy call_list_of (by rfl) gLi (by decide +kernel) (pa_cons (pe_ix ix_list (pv 0) pe_int (fun _ _ => rfl)) pa_nil)) pa_nil)) (by rfl))
    (pss_cons (ps_set (i := 6) scGrown.nd rfl (Or.inl rfl) (pe_callTy call_list_of (by rfl) gLi (by decide +kernel) (pa_cons (pe_slice sl_list (pv 3) po_none (po_some pe_int)) pa_nil)))
    (pss_cons (ps_par (i := 7) (j := 8) rfl scGrown.nd rfl rfl (by decide) rfl rfl (pa_cons (pe_qu Q.mq r5 (by rfl) (pa_cons (pv 4) (pa_cons (pv 5) pa_nil))) (pa_cons (pe_tw Q.mt r5 (by rfl) (pa_cons (pv 6) pa_nil)) pa_nil)) (by rfl))
    (pss_cons (ps_expr (pe_bm0 PySem.F.plainAttrs_list PySem.F.slot_list_clear PySem.F.type_list_clear mt_clear (pv 4)))
    (pss_cons (ps_expr (pe_bm0 PySem.F.plainAttrs_list PySem.F.slot_list_clear PySem.F.type_list_clear mt_clear (pv 6)))
    (pss_cons (ps_expr (pe_bm0 PySem.F.plainAttrs_list PySem.F.slot_list_clear PySem.F.type_list_clear mt_clear (pv 5)))
    (pss_one (ps_if (PW.pt (pw_or (pt_not (pt_val (pe_fz Q.qr hr (by rfl) (pa_cons (pv 7) (pa_cons (pe_callTy call_list_of (by rfl) gLi (by decide +kernel) (pa_cons (pv 3) pa_nil)) (pa_cons (pe_callTy call_list_of (by rfl) gLi (by decide +kernel) (pa_cons (pe_ix ix_list (pv 0) pe_int (fun _ _ => rfl)) pa_nil)) pa_nil))))))
        (pw_or1 (pt_not (pt_val (pe_fz Q.tr hr (by rfl) (pa_cons (pv 8) (pa_cons (pe_callTy call_list_of (by rfl) gLi (by decide +kernel) (pa_cons (pe_slice sl_list (pv 3) po_none (po_some pe_int)) pa_nil)) pa_nil))))))))
      (pss_one (ps_ret pe_bl)) pss_nil)))))))) ?_
  rintro Z σ H ⟨W, ls, lg, lc, ln, ts, gs, cs, ns, o1, o2, o4, o5, o6, o7, o8, o9, pa, vs, rfl, hW, wo, hp, so, v14, q⟩
  have sl := sizeLine_eq
  have go := wo.gok
  obtain ⟨gnd, gsub, gne, g5⟩ := wo.gnd
  refine ⟨_, rfl, pa, _, rfl, Or.inl (SqL.of hp.1), fun le nle => ?_⟩
  have s1 := same_upd (o := .lst (vs.map fun t => V.ref t.1)) nle
  have hle : Sts (upd H le (.lst (vs.map fun t => V.ref t.1))) le vs := ⟨upd_same, fun t ht => s1 _ _ (hp.2 t ht)⟩
  generalize upd H le (.lst (vs.map fun t => V.ref t.1)) = H1 at s1 hle ⊢
  refine ⟨_, rfl, W, _, ((1 : Nat) : Int), _, rfl, rfl, SqL.of (s1 _ _ hW), atI_nat rfl, lg, _, rfl, Or.inl (SqL.of (s1 _ _ wo.g)), fun dr ndr => ⟨_, _, rfl, ?_⟩⟩
  have s2 := same_upd (o := .lst (gs.map V.str)) ndr
  have hdr : Ws (upd H1 dr (.lst (gs.map V.str))) dr gs := upd_same
  generalize upd H1 dr (.lst (gs.map V.str)) = H2 at s2 hdr ⊢
  have hp2 := hp.keep (same_trans s1 s2)
  refine ⟨_, rfl, _, rfl, pa, _, rfl, SqL.of hp2.1, fun y1 ny1 => ?_⟩
  have e3 : (some (3 : Int)) = some ((3 : Nat) : Int) := rfl
  rw [e3, cut_take, ← List.map_take]
  have s3 := same_upd (o := .lst ((vs.take 3).map fun t => V.ref t.1)) ny1
  have hy1 : Sts (upd H2 y1 (.lst ((vs.take 3).map fun t => V.ref t.1))) y1 (vs.take 3) := Sts.take upd_same (hp2.keep s3)
  generalize upd H2 y1 (.lst ((vs.take 3).map fun t => V.ref t.1)) = H3 at s3 hy1 ⊢
  refine ⟨y1, _, rfl, Or.inl (SqL.of hy1.1), fun la nla => ?_⟩
  have s4 := same_upd (o := .lst ((vs.take 3).map fun t => V.ref t.1)) nla
  have hla : Sts (upd H3 la (.lst ((vs.take 3).map fun t => V.ref t.1))) la (vs.take 3) := ⟨upd_same, fun t ht => s4 _ _ (hy1.2 t ht)⟩
  generalize upd H3 la (.lst ((vs.take 3).map fun t => V.ref t.1)) = H4 at s4 hla ⊢
  have s34 := same_trans s3 s4
  have s24 := same_trans s2 s34
  have hle4 := hle.keep s24
  have hdr4 : Ws H4 dr gs := s34 _ _ hdr
  refine ⟨_, rfl, _, rfl, le, dr, vs, gs, rfl, hle4, so, hdr4, go, fun md dx l' g' ts' gs' H5 s5 nq nl ng hq pt as' pg ag => ?_⟩
  have so3 := so.take 3
  refine ⟨_, rfl, la, vs.take 3, rfl, hla.keep s5, so3, fun tw dy y' us' H6 s6 mq ml ht pu au => ⟨_, _, rfl, ?_⟩⟩
  have hq6 := hq.keep s6
  have s46 := same_trans s5 s6
  have hle6 := hle4.keep s46
  have hla6 := hla.keep s46
  have hdr6 : Ws H6 dr gs := s46 _ _ hdr4
  have neQ : ∀ {D : Addr} {o : HO}, H4 D = some o → l' ≠ D ∧ g' ≠ D := fun {D o} e => ⟨fun z => (by rw [← z, nl] at e; cases e), fun z => (by rw [← z, ng] at e; cases e)⟩
  have neT : ∀ {D : Addr} {o : HO}, H4 D = some o → y' ≠ D := fun {D o} e z => by
    have := s5 _ _ e
    rw [← z, ml] at this
    cases this
  -- cleared
  have nld : dr ≠ le := fun e => by
    have h1 := hle.1
    rw [← e, ndr] at h1
    cases h1
  have nla1 : la ≠ le := fun e => by
    have h1 := (same_trans s2 s3) _ _ hle.1
    rw [← e, nla] at h1
    cases h1
  have nld2 : la ≠ dr := fun e => by
    have h1 := s3 _ _ hdr
    rw [← e, nla] at h1
    cases h1
  refine ⟨_, rfl, Or.inl ⟨rfl, _, SqL.of hle6.1⟩, le, _, rfl, rfl, hle6.1, ?_⟩
  have q1 := (hq6.del ⟨_, hle6.1⟩ (neQ hle4.1).1 (neQ hle4.1).2).keep (del_put (o := .lst []))
  have t1 := (ht.del ⟨_, hle6.1⟩ (neT hle4.1)).keep (del_put (o := .lst []))
  have la1 : upd H6 le (.lst []) la = some (.lst ((vs.take 3).map fun t => V.ref t.1)) := by rw [upd_ne nla1]; exact hla6.1
  have dr1 : upd H6 le (.lst []) dr = some (.lst (gs.map V.str)) := by rw [upd_ne nld]; exact hdr6
  have k1 : Same H (upd H6 le (.lst [])) := fun a o e => by
    rw [upd_ne (ne_of_none e nle)]
    exact s46 _ _ (s24 _ _ (s1 _ _ e))
  generalize upd H6 le (.lst []) = K1 at q1 t1 la1 dr1 k1 ⊢
  refine ⟨_, rfl, Or.inl ⟨rfl, _, SqL.of la1⟩, la, _, rfl, rfl, la1, ?_⟩
  have q2 := (q1.del ⟨_, la1⟩ (neQ hla.1).1 (neQ hla.1).2).keep (del_put (o := .lst []))
  have t2 := (t1.del ⟨_, la1⟩ (neT hla.1)).keep (del_put (o := .lst []))
  have dr2 : upd K1 la (.lst []) dr = some (.lst (gs.map V.str)) := by rw [upd_ne (Ne.symm nld2)]; exact dr1
  have la0 : H la = none := (same_trans s1 (same_trans s2 s3)).free nla
  have k2 : Same H (upd K1 la (.lst [])) := fun a o e => by
    rw [upd_ne (ne_of_none e la0)]
    exact k1 _ _ e
  generalize upd K1 la (.lst []) = K2h at q2 t2 dr2 k2 ⊢
  refine ⟨_, rfl, Or.inl ⟨rfl, _, SqL.of dr2⟩, dr, _, rfl, rfl, dr2, ?_⟩
  have q3 := (q2.del ⟨_, dr2⟩ (neQ hdr4).1 (neQ hdr4).2).keep (del_put (o := .lst []))
  have t3 := (t2.del ⟨_, dr2⟩ (neT hdr4)).keep (del_put (o := .lst []))
  have dr0 : H dr = none := s1.free ndr
  have k3 : Same H (upd K2h dr (.lst [])) := fun a o e => by
    rw [upd_ne (ne_of_none e dr0)]
    exact k2 _ _ e
  generalize upd K2h dr (.lst []) = K3 at q3 t3 k3 ⊢
  have isq := isQ_of q3 so go pt as' pg ag
  have ist := isT_of t3 so3 pu au
  have hp3 := hp.keep k3
  have wo3 := wo.keep k3
  refine ⟨_, rfl, _, rfl, pa, _, rfl, Or.inl (SqL.of hp3.1), fun x1 nx1 => ?_⟩
  have r1 := same_upd (o := .lst (vs.map fun t => V.ref t.1)) nx1
  have hx1 : Sts (upd K3 x1 (.lst (vs.map fun t => V.ref t.1))) x1 vs := ⟨upd_same, fun t ht => r1 _ _ (hp3.2 t ht)⟩
  generalize upd K3 x1 (.lst (vs.map fun t => V.ref t.1)) = K4 at r1 hx1 ⊢
  refine ⟨_, rfl, W, _, ((1 : Nat) : Int), _, rfl, rfl, SqL.of (r1 _ _ (k3 _ _ hW)), atI_nat rfl, lg, _, rfl, Or.inl (SqL.of (r1 _ _ wo3.g)), fun x2 nx2 => ?_⟩
  have r2 := same_upd (o := .lst (gs.map V.str)) nx2
  have hx2 : Ws (upd K4 x2 (.lst (gs.map V.str))) x2 gs := upd_same
  generalize upd K4 x2 (.lst (gs.map V.str)) = K5 at r2 hx2 ⊢
  refine ⟨md, x1, x2, vs, gs, rfl, isq.keep (same_trans r1 r2), hx1.keep r2, hx2, by omega, fun K6 r3 => ⟨_, rfl, ifF (by decide) ?_⟩⟩
  have r03 := same_trans r1 (same_trans r2 r3)
  have hp6 := hp3.keep r03
  refine ⟨_, rfl, _, rfl, _, rfl, pa, _, rfl, SqL.of hp6.1, fun x3 nx3 => ?_⟩
  rw [e3, cut_take, ← List.map_take]
  have r4 := same_upd (o := .lst ((vs.take 3).map fun t => V.ref t.1)) nx3
  have hx3 : Sts (upd K6 x3 (.lst ((vs.take 3).map fun t => V.ref t.1))) x3 (vs.take 3) := Sts.take upd_same (hp6.keep r4)
  generalize upd K6 x3 (.lst ((vs.take 3).map fun t => V.ref t.1)) = K7 at r4 hx3 ⊢
  refine ⟨x3, _, rfl, Or.inl (SqL.of hx3.1), fun x4 nx4 => ?_⟩
  have r5' := same_upd (o := .lst ((vs.take 3).map fun t => V.ref t.1)) nx4
  have hx4 : Sts (upd K7 x4 (.lst ((vs.take 3).map fun t => V.ref t.1))) x4 (vs.take 3) := ⟨upd_same, fun t ht => r5' _ _ (hx3.2 t ht)⟩
  generalize upd K7 x4 (.lst ((vs.take 3).map fun t => V.ref t.1)) = K8 at r5' hx4 ⊢
  have r05 := same_trans r03 (same_trans r4 r5')
  refine ⟨tw, x4, vs.take 3, rfl, ist.keep r05, hx4, by rw [List.length_take]; omega, fun K9 r6 => ⟨_, rfl, ifF (by decide) ?_⟩⟩
  exact q _ _ _ _ _ K9 (same_trans k3 (same_trans r05 r6))
end
end K2
end
section
set_option Elab.async false
set_option linter.all false
set_option maxRecDepth 100000
set_option maxHeartbeats 4000000
namespace K2
open PySem PySem.Spec PyProof.Rows L2
section
variable {P : Program} {w : World} {K : PySem.W.Frag} {mg : Str → Option Value} {base : Heap} {f : Addr} {cdv : Value} {A : Around} {outer : List Env} {s : Shared} {Hl : Hp} {E : XK} {CQ CT : Addr}
/-- a list that grows -/
def tGB : TS := fun Z σ H => ∃ (W ls lg lc ln : Addr) (ts : List (Addr × S5)) (gs cs ns : List Str) (o3 o4 o5 o6 o7 o8 : Option V) (a1 a2 : Addr) (i : Nat) (H0 : Hp),
  σ = [some (.ref W), some (.ref a1), some (.ref a2), o3, o4, o5, o6, o7, o8, some (.int (i : Int))] ∧ H W = some (.lst [.ref ls, .ref lg, .ref lc, .ref ln]) ∧ Wo H ls lg lc ln ts gs cs ns ∧ Same H0 H ∧ H0 a1 = none ∧ H0 a2 = none ∧ a1 ≠ a2 ∧ ls ≠ a1 ∧ lg ≠ a1 ∧ W ≠ a1 ∧ Sts H a1 (ts.take i) ∧ Ws H a2 (gs.take (i + 1)) ∧ i < 4 ∧
  ∀ H', Same H0 H' → Sts H' a1 (ts.take (i + 1)) → Ws H' a2 (gs.take (i + 2)) → Z.nx [some (.ref W), some (.ref a1), some (.ref a2), o3, o4, o5, o6, o7, o8, some (.int (i : Int))] H'
theorem grBodyB (Q : QE P w K mg base CQ CT) (T : Tx K mg) (hr : Room 7 (A.deeper (envOfC "_law_grown_right" (defScope sGrown) s.heap.objs.size f cdv))) :
    PSs (TGr P w K mg base f cdv A outer s Hl E) [grB 0, grB 1, grB 2] tGB := by
  have gLi := T.fr "list" (by decide +kernel)
  have r5 : Room 7 (A.deeper (envOfC "_law_grown_right" (defScope sGrown) s.heap.objs.size f cdv)) := hr.mono (by decide)
  refine weak (pss_cons (ps_if (PW.pt (pw_or (pt_not (pt_val (pe_fz Q.qr hr (by rfl) (pa_cons (pe_qu Q.mq r5 (by rfl) (pa_cons (pv 1) (pa_cons (pv 2) pa_nil))) (pa_cons (pe_callTy call_list_of (by rfl) gLi (by decide +kernel) (pa_cons (pv 1) pa_nil)) (pa_cons (pe_callTy call_list_of (by rfl) gLi (by decide +kernel) (pa_cons (pv 2) pa_nil)) pa_nil))))))
        (pw_or1 (pt_not (pt_val (pe_fz Q.tr hr (by rfl) (pa_cons (pe_tw Q.mt r5 (by rfl) (pa_cons (pv 1) pa_nil)) (pa_cons (pe_callTy call_list_of (by rfl) gLi (by decide +kernel) (pa_cons (pv 1) pa_nil)) pa_nil))))))))
      (pss_one (ps_ret pe_bl)) pss_nil)
    (pss_cons (ps_expr (pe_bm PySem.F.plainAttrs_list PySem.F.slot_list_extend PySem.F.type_list_extend mt_extend (pv 1) (pa_cons (pe_slice sl_list (pe_ix ix_list (pv 0) pe_int (fun _ _ => rfl)) (po_some (pv 9)) (po_some (pe_op op_add (pv 9) pe_int))) pa_nil)))
    (pss_one (ps_expr (pe_bm PySem.F.plainAttrs_list PySem.F.slot_list_extend PySem.F.type_list_extend mt_extend (pv 2) (pa_cons (pe_slice sl_list (pe_ix ix_list (pv 0) pe_int (fun _ _ => rfl)) (po_some (pe_op op_add (pv 9) pe_int)) (po_some (pe_op op_add (pv 9) pe_int))) pa_nil)))))) ?_
  rintro Z σ H ⟨W, ls, lg, lc, ln, ts, gs, cs, ns, o3, o4, o5, o6, o7, o8, a1, a2, i, H0, rfl, hW, wo, s0, z1, z2, n12, nls, nlg, nW, h1, h2, i4, q⟩
  have sl := sizeLine_eq
  have wl2 := wo.l2
  have wl3 := wo.l3
  obtain ⟨gnd, gsub, gne, g5⟩ := wo.gnd
  have tl : (ts.take i).length ≤ 14 := by rw [List.length_take]; omega
  have gl : (gs.take (i + 1)).length ≤ 5 := by rw [List.length_take]; omega
  have so := wo.sok.take i
  have go := go_takeS wo.gok i
  refine ⟨_, rfl, _, rfl, a1, a2, ts.take i, gs.take (i + 1), rfl, h1, so, h2, go, fun md dx l' g' ts' gs' H1 s1 nq nl ng hq pt as' pg ag => ?_⟩
  have isq := isQ_of hq so go pt as' pg ag
  refine ⟨_, rfl, a1, _, rfl, Or.inl (SqL.of (s1 _ _ h1.1)), fun x1 nx1 => ?_⟩
  have s2 := same_upd (o := .lst ((ts.take i).map fun t => V.ref t.1)) nx1
  have hx1 : Sts (upd H1 x1 (.lst ((ts.take i).map fun t => V.ref t.1))) x1 (ts.take i) := ⟨upd_same, fun t ht => s2 _ _ (s1 _ _ (h1.2 t ht))⟩
  generalize upd H1 x1 (.lst ((ts.take i).map fun t => V.ref t.1)) = H2 at s2 hx1 ⊢
  have h22 : Ws H2 a2 (gs.take (i + 1)) := s2 _ _ (s1 _ _ h2)
  refine ⟨_, rfl, a2, _, rfl, Or.inl (SqL.of h22), fun x2 nx2 => ?_⟩
  have s3 := same_upd (o := .lst ((gs.take (i + 1)).map V.str)) nx2
  have hx2 : Ws (upd H2 x2 (.lst ((gs.take (i + 1)).map V.str))) x2 (gs.take (i + 1)) := upd_same
  generalize upd H2 x2 (.lst ((gs.take (i + 1)).map V.str)) = H3 at s3 hx2 ⊢
  refine ⟨md, x1, x2, ts.take i, gs.take (i + 1), rfl, isq.keep (same_trans s2 s3), hx1.keep s3, hx2, by omega, fun H4 s4 => ⟨_, rfl, ifF (by decide) ?_⟩⟩
  have s14 := same_trans s1 (same_trans s2 (same_trans s3 s4))
  have h14 := h1.keep s14
  refine ⟨_, rfl, a1, ts.take i, rfl, h14, so, fun tw dy y' us' H5 s5 mq ml ht pu au => ?_⟩
  have ist := isT_of ht so pu au
  refine ⟨_, rfl, a1, _, rfl, Or.inl (SqL.of (s5 _ _ h14.1)), fun x3 nx3 => ?_⟩
  have s6 := same_upd (o := .lst ((ts.take i).map fun t => V.ref t.1)) nx3
  have hx3 : Sts (upd H5 x3 (.lst ((ts.take i).map fun t => V.ref t.1))) x3 (ts.take i) := ⟨upd_same, fun t ht => s6 _ _ (s5 _ _ (h14.2 t ht))⟩
  generalize upd H5 x3 (.lst ((ts.take i).map fun t => V.ref t.1)) = H6 at s6 hx3 ⊢
  refine ⟨tw, x3, ts.take i, rfl, ist.keep s6, hx3, by omega, fun H7 s7 => ⟨_, rfl, ifF (by decide) ?_⟩⟩
  have s17 := same_trans s14 (same_trans s5 (same_trans s6 s7))
  have h17 := h1.keep s17
  have wo7 := wo.keep s17
  -- streets
  refine ⟨_, rfl, Or.inl ⟨rfl, _, SqL.of h17.1⟩, _, rfl, W, _, ((0 : Nat) : Int), _, rfl, rfl, SqL.of (s17 _ _ hW), atI_nat rfl, ?_⟩
  refine ⟨_, rfl, _, rfl, _, rfl, _, _, rfl, rfl, _, rfl, ls, _, rfl, SqL.of wo7.s.1, fun b1 nb1 => ?_⟩
  have ej : (some ((i : Int) + 1)) = some ((i + 1 : Nat) : Int) := rfl
  rw [ej, cut_mid _ i (i + 1) rfl, ← List.map_drop, ← List.map_take]
  have s8 := same_upd (o := .lst (((ts.drop i).take 1).map fun t => V.ref t.1)) nb1
  have hb1 : upd H7 b1 (.lst (((ts.drop i).take 1).map fun t => V.ref t.1)) b1 = some (.lst (((ts.drop i).take 1).map fun t => V.ref t.1)) := upd_same
  generalize upd H7 b1 (.lst (((ts.drop i).take 1).map fun t => V.ref t.1)) = H8 at s8 hb1 ⊢
  have et : ts.take i ++ (ts.drop i).take 1 = ts.take (i + 1) := (List.take_add).symm
  have ll : ((ts.drop i).take 1).length ≤ 1 := by rw [List.length_take]; omega
  refine ⟨a1, b1, _, _, rfl, rfl, s8 _ _ h17.1, hb1, by rw [List.length_map, List.length_map]; omega, ?_⟩
  rw [← List.map_append, et]
  have s18 := same_trans s17 s8
  have k1 : Same H0 (upd H8 a1 (.lst ((ts.take (i + 1)).map fun t => V.ref t.1))) := fun a o e => by
    rw [upd_ne (ne_of_none e z1)]
    exact s18 _ _ (s0 _ _ e)
  have w1 : upd H8 a1 (.lst ((ts.take (i + 1)).map fun t => V.ref t.1)) W = some (.lst [.ref ls, .ref lg, .ref lc, .ref ln]) := by rw [upd_ne nW]; exact s18 _ _ hW
  have g1 : Ws (upd H8 a1 (.lst ((ts.take (i + 1)).map fun t => V.ref t.1))) lg gs := by
    show upd H8 a1 _ lg = _
    rw [upd_ne nlg]
    exact s18 _ _ wo.g
  have c1 : Ws (upd H8 a1 (.lst ((ts.take (i + 1)).map fun t => V.ref t.1))) a2 (gs.take (i + 1)) := by
    show upd H8 a1 _ a2 = _
    rw [upd_ne (Ne.symm n12)]
    exact s18 _ _ h2
  have d1 : Sts (upd H8 a1 (.lst ((ts.take (i + 1)).map fun t => V.ref t.1))) a1 (ts.take (i + 1)) := ⟨upd_same, fun t ht => by
    have e := s18 _ _ (wo.s.2 t (List.mem_of_mem_take ht))
    rw [upd_ne (fun z => by rw [z, s18 _ _ h1.1] at e; cases e)]
    exact e⟩
  generalize upd H8 a1 (.lst ((ts.take (i + 1)).map fun t => V.ref t.1)) = H9 at k1 w1 g1 c1 d1 ⊢
  -- gates
  refine ⟨_, rfl, Or.inl ⟨rfl, _, SqL.of c1⟩, _, rfl, W, _, ((1 : Nat) : Int), _, rfl, rfl, SqL.of w1, atI_nat rfl, ?_⟩
  refine ⟨_, rfl, _, _, rfl, rfl, _, rfl, _, rfl, _, _, rfl, rfl, _, rfl, lg, _, rfl, SqL.of g1, fun b2 nb2 => ?_⟩
  have ek : (some ((i : Int) + 2)) = some ((i + 2 : Nat) : Int) := rfl
  rw [ej, ek, cut_mid _ (i + 1) (i + 2) rfl, ← List.map_drop, ← List.map_take]
  have s10 := same_upd (o := .lst (((gs.drop (i + 1)).take 1).map V.str)) nb2
  have hb2 : upd H9 b2 (.lst (((gs.drop (i + 1)).take 1).map V.str)) b2 = some (.lst (((gs.drop (i + 1)).take 1).map V.str)) := upd_same
  generalize upd H9 b2 (.lst (((gs.drop (i + 1)).take 1).map V.str)) = H10 at s10 hb2 ⊢
  have eg : gs.take (i + 1) ++ (gs.drop (i + 1)).take 1 = gs.take (i + 2) := (List.take_add).symm
  have l2 : ((gs.drop (i + 1)).take 1).length ≤ 1 := by rw [List.length_take]; omega
  refine ⟨a2, b2, _, _, rfl, rfl, s10 _ _ c1, hb2, by rw [List.length_map, List.length_map]; omega, ?_⟩
  rw [← List.map_append, eg]
  refine q _ (fun a o e => ?_) ⟨?_, fun t ht => ?_⟩ upd_same
  · rw [upd_ne (ne_of_none e z2)]
    exact s10 _ _ (k1 _ _ e)
  · rw [upd_ne n12]
    exact s10 _ _ d1.1
  · have e := s10 _ _ (d1.2 t ht)
    rw [upd_ne (fun z => by rw [z, s10 _ _ c1] at e; cases e)]
    exact e
end
end K2
end
section
set_option Elab.async false
set_option linter.all false
set_option maxRecDepth 100000
set_option maxHeartbeats 4000000
namespace K2
open PySem PySem.Spec PyProof.Rows L2
section
variable {P : Program} {w : World} {K : PySem.W.Frag} {mg : Str → Option Value} {base : Heap} {CQ CT : Addr}
def spGrown : Sp := fun vs H Q _ => ∃ (W ls lg lc ln : Addr) (ts : List (Addr × S5)) (gs cs ns : List Str), vs = [.ref W] ∧ H W = some (.lst [.ref ls, .ref lg, .ref lc, .ref ln]) ∧ Wo H ls lg lc ln ts gs cs ns ∧ ∀ H', Same H H' → Q (.bl true) H'
theorem ok_grown {f : Addr} {fd : FuncData} (F : FnP K "_law_grown_right" sGrown f fd) (Q : QE P w K mg base CQ CT) (T : Tx K mg) : FnOk P w K mg base CX0 8 f fd ["_law_world_here"] spGrown := by
  refine F.ok scGrown (fun vs H Q E h => ?_) (fun cdv A outer s H vs Qk E hr h => ?_)
  · obtain ⟨_, _, _, _, _, _, _, _, _, rfl, _⟩ := h
    rfl
  · obtain ⟨W, ls, lg, lc, ln, ts, gs, cs, ns, rfl, hW, wo, z⟩ := h
    have gR := T.fr "range" (by decide +kernel)
    have sl := sizeLine_eq
    refine ⟨_, PSs.nox (pss_cons (ps_par (i := 1) (j := 2) rfl scGrown.nd rfl rfl (by decide) rfl rfl (pa_cons (pe_lst pa_nil) (pa_cons (pe_lst (pa_cons (pe_ix ix_list (pe_ix ix_list (pv 0) pe_int (fun _ _ => rfl)) pe_int (fun _ _ => rfl)) pa_nil)) pa_nil)) (by rfl))
      (pss_cons (ps_for PassesOwn.never rfl (pi_tup (pe_tup (pa_cons (pe_ix ix_list (pv 0) pe_int (fun _ _ => rfl)) (pa_cons (pe_slice sl_list (pe_ix ix_list (pv 0) pe_int (fun _ _ => rfl)) po_none (po_some pe_int)) pa_nil)))) (pg_name (i := 3) scGrown.nd rfl (Or.inl rfl)) (grBodyA Q T hr))
      (pss_cons (ps_for PassesOwn.never rfl (pi_range1 rfl gR (pa_cons pe_int pa_nil)) (pg_name (i := 9) scGrown.nd rfl (Or.inl rfl)) (grBodyB Q T hr))
      (pss_one (ps_ret pe_bl))))), ?_⟩
    obtain ⟨gnd, gsub, gne, g5⟩ := wo.gnd
    have wl2 := wo.l2
    have wl3 := wo.l3
    obtain ⟨g0, hg0⟩ : ∃ g0, gs[0]? = some g0 := ⟨_, List.getElem?_eq_getElem (List.length_pos_iff.mpr gne)⟩
    refine ⟨by show 0 ≤ sizeLine; rw [sl]; decide, fun a1 n1 => ?_⟩
    have s1 := same_upd (o := .lst []) n1
    have h1 : upd H a1 (.lst []) a1 = some (.lst []) := upd_same
    generalize upd H a1 (.lst []) = H1 at s1 h1 ⊢
    refine ⟨_, rfl, W, _, ((1 : Nat) : Int), _, rfl, rfl, SqL.of (s1 _ _ hW), atI_nat rfl, lg, _, ((0 : Nat) : Int), _, rfl, rfl, SqL.of (s1 _ _ wo.g), atI_nat (v := V.str g0) (by rw [List.getElem?_map, hg0]; rfl), by show 1 ≤ sizeLine; rw [sl]; decide, fun a2 n2 => ⟨_, _, rfl, ?_⟩⟩
    have s2 := same_upd (o := .lst [V.str g0]) n2
    have e2 : gs.take (0 + 1) = [g0] := by
      cases gs with
      | nil => cases hg0
      | cons x xs =>
        simp only [List.getElem?_cons_zero, Option.some.injEq] at hg0
        rw [hg0]
        rfl
    have h2 : Ws (upd H1 a2 (.lst [V.str g0])) a2 (gs.take (0 + 1)) := by
      rw [e2]
      exact upd_same
    have n21 : a1 ≠ a2 := fun e => by
      rw [← e, h1] at n2
      cases n2
    generalize upd H1 a2 (.lst [V.str g0]) = H2 at s2 h2 ⊢
    have s02 := same_trans s1 s2
    have a10 : H a1 = none := n1
    have a20 : H a2 = none := s1.free n2
    -- parts
    refine ⟨_, rfl, W, _, ((0 : Nat) : Int), _, rfl, rfl, SqL.of (s02 _ _ hW), atI_nat rfl, _, rfl, W, _, ((0 : Nat) : Int), _, rfl, rfl, SqL.of (s02 _ _ hW), atI_nat rfl, _, rfl, ls, _, rfl, SqL.of (s02 _ _ wo.s.1), fun S nS => ?_⟩
    have e1 : (some (2 : Int)) = some ((2 : Nat) : Int) := rfl
    rw [e1, cut_take, ← List.map_take]
    have s3 := same_upd (o := .lst ((ts.take 2).map fun t => V.ref t.1)) nS
    have hS : Sts (upd H2 S (.lst ((ts.take 2).map fun t => V.ref t.1))) S (ts.take 2) := Sts.take upd_same (wo.s.keep (same_trans s02 s3))
    generalize upd H2 S (.lst ((ts.take 2).map fun t => V.ref t.1)) = H3 at s3 hS ⊢
    refine ⟨by show 2 ≤ sizeLine; rw [sl]; decide, fun tp ntp => ?_⟩
    have s4 := same_upd (o := .tup [V.ref ls, V.ref S]) ntp
    have htp : upd H3 tp (.tup [V.ref ls, V.ref S]) tp = some (.tup [V.ref ls, V.ref S]) := upd_same
    generalize upd H3 tp (.tup [V.ref ls, V.ref S]) = H4 at s4 htp ⊢
    have hS4 := hS.keep s4
    have s04 := same_trans s02 (same_trans s3 s4)
    have h14 : Sts H4 a1 (ts.take 0) := ⟨s4 _ _ (s3 _ _ (s2 _ _ h1)), fun t ht => by simp at ht⟩
    have h24 : Ws H4 a2 (gs.take (0 + 1)) := s4 _ _ (s3 _ _ h2)
    refine ⟨tp, rfl, ⟨_, SqT.of htp⟩, ?_⟩
    refine for_tup (K := K) (a := tp) (xs := [V.ref ls, V.ref S]) (fun i σ H' => (∃ o3 o4 o5 o6 o7 o8 o9 : Option V, σ = [some (.ref W), some (.ref a1), some (.ref a2), o3, o4, o5, o6, o7, o8, o9]) ∧ Same H4 H')
      ⟨⟨_, _, _, _, _, _, _, rfl⟩, fun _ _ e => e⟩ (fun i σ H' _ h => SqT.of (h.2 _ _ htp)) ?_ ?_
    · rintro i x σ H' hi ⟨⟨o3, o4, o5, o6, o7, o8, o9, rfl⟩, u1⟩
      have u0 := same_trans s04 u1
      have xm := List.mem_of_getElem? hi
      have : ∃ pa vs, x = V.ref pa ∧ Sts H' pa vs ∧ SOk (snds vs) ∧ vs.length ≤ 14 := by
        simp only [List.mem_cons, List.not_mem_nil, or_false] at xm
        rcases xm with rfl | rfl
        · exact ⟨ls, ts, rfl, wo.s.keep u0, wo.sok, by omega⟩
        · exact ⟨S, ts.take 2, rfl, hS4.keep u1, wo.sok.take 2, by rw [List.length_take]; omega⟩
      obtain ⟨pa, vs, rfl, g1, g2, g3⟩ := this
      refine ⟨W, ls, lg, lc, ln, ts, gs, cs, ns, _, _, _, _, _, _, _, _, pa, vs, rfl, u0 _ _ hW, wo.keep u0, g1, g2, g3, fun o4 o5 o6 o7 o8 H5 u2 => ?_⟩
      exact ⟨⟨_, _, _, _, _, _, _, rfl⟩, same_trans u1 u2⟩
    · rintro σ H5 ⟨⟨o3, o4, o5, o6, o7, o8, o9, rfl⟩, u1⟩
      refine ⟨_, rfl, by decide, by decide, ?_⟩
      refine for_range (lo := 0) (n := 4) (fun i σ H' => (∃ o3 o4 o5 o6 o7 o8 o9 : Option V, σ = [some (.ref W), some (.ref a1), some (.ref a2), o3, o4, o5, o6, o7, o8, o9]) ∧ Same H H' ∧ Sts H' a1 (ts.take i) ∧ Ws H' a2 (gs.take (i + 1)))
        ⟨⟨_, _, _, _, _, _, _, rfl⟩, same_trans s04 u1, h14.keep u1, u1 _ _ h24⟩ ?_ ?_
      · rintro i σ H' hi ⟨⟨o3, o4, o5, o6, o7, o8, o9, rfl⟩, u2, k1, k2⟩
        rw [Int.zero_add]
        refine ⟨W, ls, lg, lc, ln, ts, gs, cs, ns, _, _, _, _, _, _, a1, a2, i, H, rfl, u2 _ _ hW, wo.keep u2, u2, a10, a20, n21, ne_of_none wo.s.1 a10, ne_of_none wo.g a10, ne_of_none hW a10, k1, k2, hi, fun H6 u3 k3 k4 => ?_⟩
        exact ⟨⟨_, _, _, _, _, _, _, rfl⟩, u3, k3, k4⟩
      · rintro σ H' ⟨⟨o3, o4, o5, o6, o7, o8, o9, rfl⟩, u2, _, _⟩
        exact z H' u2
end
end K2
end
section
set_option Elab.async false
set_option linter.all false
set_option maxRecDepth 100000
set_option maxHeartbeats 4000000
namespace K2
open PySem PySem.Spec PyProof.Rows L2
abbrev NLaw : List Str := ["_law_script", "_law_purse_here", "_law_gates", "_law_world_here", "_law_town", "_law_lone"]
theorem scLaw : FnScope NLaw ["_law_script"] (defScope sLaw) := ⟨rfl, rfl, rfl, by decide +kernel, rfl, by decide +kernel, by decide +kernel⟩
def lwS (j : Nat) : Stmt := (defBody sLaw).getD j (.Pass ⟨0, 0, 0, 0⟩)
def lwB (j : Nat) : Stmt := (forBody (lwS 0)).getD j (.Pass ⟨0, 0, 0, 0⟩)
/-- all that law calls -/
structure LawE (P : Program) (w : World) (K : PySem.W.Frag) (mg : Str → Option Value) (base : Heap) (CQ CT : Addr) : Prop where
  T : Tx K mg
  Q : QE P w K mg base CQ CT
  pu : Fz P w K mg base "_law_purses" 2 ["_law_script", "_law_few"] (spPurses K)
  dr : DrawZ P w K mg base
  wo : Fz P w K mg base "_law_world" 6 ["_law_purse_here", "_law_gates", "_law_inner", "_law_most"] spWorld
  tw : Fz P w K mg base "_law_town_world" 6 ["_law_purse_here", "_law_world_here", "_law_own", "_law_most"] spTownWorld
  ql : Fz P w K mg base "_law_quarter_law" 9 ["_law_purse_here", "_law_world_here"] spQLaw
  tl : Fz P w K mg base "_law_town_law" 9 ["_law_purse_here", "_law_world_here", "_law_streets"] spTLaw
  gr : Fz P w K mg base "_law_grown_right" 9 ["_law_world_here"] spGrown
section
variable {P : Program} {w : World} {K : PySem.W.Frag} {mg : Str → Option Value} {base : Heap} {f : Addr} {cdv : Value} {A : Around} {outer : List Env} {s : Shared} {Hl : Hp} {E : XK} {CQ CT : Addr}
abbrev TLw (P : Program) (w : World) (K : PySem.W.Frag) (mg : Str → Option Value) (base : Heap) (f : Addr) (cdv : Value) (A : Around) (outer : List Env) (s : Shared) (Hl : Hp) (E : XK) : Cx := (cxOf CX0 P w K mg base NLaw "law" (defScope sLaw) f cdv A outer s Hl E).nox
/-- one purse -/
def tLB : TS := fun Z σ H => ∃ (o0 o2 o3 o4 o5 : Option V) (p : Addr), σ = [o0, some (.ref p), o2, o3, o4, o5] ∧ Pu H p 0 ∧ ∀ o2 o3 o4 H', But p H H' → Z.nx [o0, some (.ref p), o2, o3, o4, o5] H'
theorem lwBody (L : LawE P w K mg base CQ CT) (hr : Room 9 (A.deeper (envOfC "law" (defScope sLaw) s.heap.objs.size f cdv))) :
    PSs (TLw P w K mg base f cdv A outer s Hl E) [lwB 0, lwB 1, lwB 2, lwB 3] tLB := by
  have gMa := L.T.fr "max" (by decide +kernel)
  have gL := L.T.fr "len" (by decide +kernel)
  have r2 : Room 2 (A.deeper (envOfC "law" (defScope sLaw) s.heap.objs.size f cdv)) := hr.mono (by decide)
  have r6 : Room 6 (A.deeper (envOfC "law" (defScope sLaw) s.heap.objs.size f cdv)) := hr.mono (by decide)
  refine weak (pss_cons (ps_set (i := 2) scLaw.nd rfl (Or.inl rfl) (pe_op op_add pe_int (pe_fz L.dr r2 (by rfl) (pa_cons (pv 1) (pa_cons pe_int pa_nil)))))
    (pss_cons (ps_set (i := 3) scLaw.nd rfl (Or.inl rfl) (pe_fz L.wo r6 (by rfl) (pa_cons (pv 1) (pa_cons (pv 2) (pa_cons (pe_fz L.dr r2 (by rfl) (pa_cons (pv 1) (pa_cons (pe_op op_sub pe_int (pv 2)) pa_nil))) (pa_cons (pe_fz L.dr r2 (by rfl) (pa_cons (pv 1) (pa_cons pe_int pa_nil))) pa_nil))))))
    (pss_cons (ps_set (i := 4) scLaw.nd rfl (Or.inl rfl) (pe_fz L.tw r6 (by rfl) (pa_cons (pv 1) (pa_cons (pv 3) (pa_cons (pe_callB (call_max2 rfl) (by rfl) gMa (by decide +kernel) (pa_cons pe_int (pa_cons (pe_op op_sub pe_int (pe_callB call_len_seq (by rfl) gL PySem.boot_len (pa_cons (pe_ix ix_list (pv 3) pe_int (fun _ _ => rfl)) pa_nil))) pa_nil))) (pa_cons pe_int pa_nil))))))
    (pss_one (ps_if (PW.pt (pw_or (pt_not (pt_val (pe_fz L.ql hr (by rfl) (pa_cons (pv 1) (pa_cons (pv 3) pa_nil))))) (pw_or (pt_not (pt_val (pe_fz L.tl hr (by rfl) (pa_cons (pv 1) (pa_cons (pv 3) (pa_cons (pv 4) pa_nil)))))) (pw_or1 (pt_not (pt_val (pe_fz L.gr hr (by rfl) (pa_cons (pv 3) pa_nil)))))))) (pss_one (ps_ret pe_bl)) pss_nil))))) ?_
  rintro Z σ H ⟨o0, o2, o3, o4, o5, p, rfl, ⟨xs, hx, hu⟩, q⟩
  have b0 : ∀ {H : Hp} {o : HO}, But p H (upd H p o) := fun {H o} a u ne e => by
    rw [upd_ne ne]
    exact e
  refine ⟨_, rfl, p, 5, 0, xs, rfl, hx, hu, by decide, by decide, by decide, fun r1 ys1 r10 r15 hu1 => ⟨_, _, rfl, rfl, ?_⟩⟩
  have b1 : But p H (upd H p (.lst ys1)) := b0
  have p1 : upd H p (.lst ys1) p = some (.lst ys1) := upd_same
  generalize upd H p (.lst ys1) = H1 at b1 p1 ⊢
  refine ⟨_, rfl, _, rfl, _, rfl, _, rfl, _, _, rfl, rfl, p, _, _, ys1, rfl, p1, hu1, by decide, by omega, by omega, fun r2 ys2 r20 r25 hu2 => ?_⟩
  have b2 : But p H1 (upd H1 p (.lst ys2)) := b0
  have p2 : upd H1 p (.lst ys2) p = some (.lst ys2) := upd_same
  generalize upd H1 p (.lst ys2) = H2 at b2 p2 ⊢
  refine ⟨_, rfl, p, 15, _, ys2, rfl, p2, hu2, by decide, by decide, by decide, fun r3 ys3 r30 r35 hu3 => ?_⟩
  have b3 : But p H2 (upd H2 p (.lst ys3)) := b0
  have p3 : upd H2 p (.lst ys3) p = some (.lst ys3) := upd_same
  generalize upd H2 p (.lst ys3) = H3 at b3 p3 ⊢
  have hp3 : Pu H3 p (0 + 1 + 1 + 1) := ⟨ys3, p3, hu3⟩
  refine ⟨p, _, _, _, _, rfl, hp3, by decide, by omega, by omega, by omega, by omega, by omega, by omega, fun W ls lg lc ln ts gs cs ns H4 hp4 b4 nW hW wo nw e1 e2 e3 => ?_⟩
  obtain ⟨m1, m2, m3, m4, m5⟩ := nw
  have nep : ∀ {a : Addr}, H3 a = none → a ≠ p := fun {a} e z => by
    rw [z, p3] at e
    cases e
  have wop : WoP H4 p W ls lg lc ln ts gs cs ns := ⟨hW, wo, nep nW, nep m1, nep m2, nep m3, nep m4⟩
  obtain ⟨gnd, gsub, gne, g5⟩ := wo.gnd
  refine ⟨_, rfl, _, rfl, _, rfl, W, _, ((1 : Nat) : Int), _, rfl, rfl, SqL.of hW, atI_nat rfl, lg, _, rfl, Or.inl (SqL.of wo.g), _, _, rfl, rfl, _, _, rfl, ?_⟩
  have ow : ∃ k : Int, (if (6 - (((gs.map V.str).length : Nat) : Int)) > 0 then (6 - (((gs.map V.str).length : Nat) : Int)) else 0) = k ∧ 0 ≤ k ∧ k ≤ 6 := by
    refine ⟨_, rfl, ?_⟩
    split <;> omega
  obtain ⟨k, ek, k0, k6⟩ := ow
  rw [ek]
  refine ⟨p, W, ls, lg, lc, ln, ts, gs, cs, ns, k, 10, _, rfl, wop, hp4, by decide, k0, k6, by decide, by decide, fun D us H5 hp5 b5 nD hD so u10 => ?_⟩
  have wop5 := wop.but b5 hp4.lst
  refine ⟨_, rfl, _, rfl, p, W, ls, lg, lc, ln, ts, gs, cs, ns, _, rfl, wop5, hp5, by decide, fun H6 hp6 b6 => ⟨_, rfl, ifF (by decide) ?_⟩⟩
  have wop6 := wop5.but b6 hp5.lst
  have hD6 := hD.but b6 (pu_ne_sts hp5 hD.1) hp5.lst
  refine ⟨_, rfl, _, rfl, _, rfl, p, W, ls, lg, lc, ln, ts, gs, cs, ns, D, us, _, rfl, wop6, hp6, by decide, hD6, so, u10, fun H7 hp7 b7 => ⟨_, rfl, ifF (by decide) ?_⟩⟩
  have wop7 := wop6.but b7 hp6.lst
  refine ⟨_, rfl, W, ls, lg, lc, ln, ts, gs, cs, ns, rfl, wop7.at_, wop7.wo, fun H8 s8 => ⟨_, rfl, ifF (by decide) ?_⟩⟩
  exact q _ _ _ H8 ((((((b1.trans b2).trans b3).trans b4).trans b5).trans b6).trans (b7.trans (Same.but s8)))
end
section
variable {P : Program} {w : World} {K : PySem.W.Frag} {mg : Str → Option Value} {base : Heap} {CQ CT : Addr}
def spLaw (K : PySem.W.Frag) : Sp := fun vs H Q _ => ∃ (a : Addr) (ns : List Int), vs = [.ref a] ∧ SqL K H a (ns.map V.int) ∧ ∀ H', Q (.bl true) H'
/-- at the head of the turn i -/
def Pv (D : Addr) (ps : List Addr) (i : Nat) : L2.St → Hp → Prop := fun σ H => (∃ (o0 o1 o2 o3 o4 o5 : Option V), σ = [o0, o1, o2, o3, o4, o5]) ∧ H D = some (.lst (ps.map V.ref)) ∧
  ∀ j p, i ≤ j → ps[j]? = some p → Pu H p 0
theorem ok_law {f : Addr} {fd : FuncData} (F : FnP K "law" sLaw f fd) (L : LawE P w K mg base CQ CT) : FnOk P w K mg base CX0 10 f fd ["_law_script"] (spLaw K) := by
  refine F.ok scLaw (fun vs H Q E h => ?_) (fun cdv A outer s H vs Q E hr h => ?_)
  · obtain ⟨_, _, rfl, _⟩ := h
    rfl
  · obtain ⟨a, ns, rfl, hS, q⟩ := h
    have sl := sizeLine_eq
    have z0 : 0 ≤ sizeLine := by rw [sl]; decide
    have z1 : 1 ≤ sizeLine := by rw [sl]; decide
    have r1 : Room 1 (A.deeper (envOfC "law" (defScope sLaw) s.heap.objs.size f cdv)) := hr.mono (by decide)
    have r2 : Room 2 (A.deeper (envOfC "law" (defScope sLaw) s.heap.objs.size f cdv)) := hr.mono (by decide)
    have r5 : Room 7 (A.deeper (envOfC "law" (defScope sLaw) s.heap.objs.size f cdv)) := hr.mono (by decide)
    refine ⟨_, PSs.nox (pss_cons (ps_for PassesOwn.never rfl (pi_list (pe_fz L.pu r2 (by rfl) (pa_cons (pv 0) (pa_cons pe_int pa_nil)))) (pg_name (i := 1) scLaw.nd rfl (Or.inl rfl)) (lwBody L hr))
      (pss_cons (ps_set (i := 5) scLaw.nd rfl (Or.inl rfl) (pe_qu L.Q.mq r5 (by rfl) (pa_cons (pe_lst pa_nil) (pa_cons (pe_lst (pa_cons pe_str pa_nil)) pa_nil))))
      (pss_one (ps_ret (pe_and (pe_cmpR (op_obEq L.Q.Z r1) (pv 5) (pe_qu L.Q.mq r5 (by rfl) (pa_cons (pe_lst pa_nil) (pa_cons (pe_lst (pa_cons pe_str pa_nil)) pa_nil))) (nomark _))
        (pe_and (pe_cmpR (op_eqD hr.units) (pe_mz L.Q.J.ms.qs (pv 5) r1) (pe_lst pa_nil) (nomark _))
        (pe_and (pe_cmpR (op_obEq L.Q.Z r1) (pe_tw L.Q.mt r5 (by rfl) (pa_cons (pe_lst pa_nil) pa_nil)) (pe_tw L.Q.mt r5 (by rfl) (pa_cons (pe_lst pa_nil) pa_nil)) (nomark _))
        (pe_and (pe_cmpR (op_eqD hr.units) (pe_fz L.Q.J.pl r2 (by rfl) (pa_cons (pe_tw L.Q.mt r5 (by rfl) (pa_cons (pe_lst pa_nil) pa_nil)) pa_nil)) (pe_lst pa_nil) (nomark _))
        (pe_one (pe_cmpR (op_obNe L.Q.Z r2) (pv 5) (pe_tw L.Q.mt r5 (by rfl) (pa_cons (pe_lst pa_nil) pa_nil)) (nomark _))))))))))), ?_⟩
    refine ⟨_, rfl, a, ns, rfl, hS, fun D ps H1 hl nD hP => ⟨D, rfl, ⟨_, SqL.of hP.2.1⟩, ?_⟩⟩
    refine for_list (K := K) (a := D) (xs := ps.map V.ref) (Pv D ps) ⟨⟨_, _, _, _, _, _, rfl⟩, hP.2.1, fun j p _ e => ?_⟩ (fun i σ H' _ h => SqL.of h.2.1) (fun i x σ H' hx h => ?_) ?_
    · obtain ⟨_, _, xs, e2, e3⟩ := hP.2.2.2 p (List.mem_of_getElem? e)
      exact ⟨xs, e2, e3⟩
    · obtain ⟨p, hi, rfl⟩ := at_map hx
      obtain ⟨⟨o0, o1, o2, o3, o4, o5, rfl⟩, hD, hp⟩ := h
      have npD : p ≠ D := (hP.2.2.2 p (List.mem_of_getElem? hi)).2.1
      refine ⟨_, _, _, _, _, p, rfl, hp i p (Nat.le_refl _) hi, fun o2 o3 o4 H2 b => ?_⟩
      refine ⟨⟨_, _, _, _, _, _, rfl⟩, b _ _ (Ne.symm npD) hD, fun j r hj hr' => ?_⟩
      obtain ⟨ys, hy, hv⟩ := hp j r (by omega) hr'
      refine ⟨ys, b _ _ (fun y => ?_) hy, hv⟩
      rw [y] at hr'
      have lt := (List.getElem?_eq_some_iff.mp hi).1
      have := (List.getElem?_inj lt hP.2.2.1).mp (hi.trans hr'.symm)
      omega
    · rintro σ H2 ⟨⟨o0, o1, o2, o3, o4, o5, rfl⟩, _, _⟩
      refine ⟨z0, fun a1 n1 => ?_⟩
      have s1 := same_upd (o := .lst []) n1
      have h1 : Sts (upd H2 a1 (.lst [])) a1 [] := ⟨upd_same, fun t h => by simp at h⟩
      generalize upd H2 a1 (.lst []) = H3 at s1 h1 ⊢
      refine ⟨z1, fun a2 n2 => ?_⟩
      have s2 := same_upd (o := .lst [V.str "a"]) n2
      have h2 : Ws (upd H3 a2 (.lst [V.str "a"])) a2 ["a"] := upd_same
      generalize upd H3 a2 (.lst [V.str "a"]) = H4 at s2 h2 ⊢
      refine ⟨a1, a2, [], ["a"], rfl, h1.keep s2, sok_nil, h2, go_one wd_a, fun q1 dx1 l1 g1 ts1 gs1 H5 s3 _ _ _ hq1 pt1 as1 pg1 ag1 => ?_⟩
      have isq1 := isQ_of (ts := []) hq1 sok_nil (go_one wd_a) pt1 as1 pg1 ag1
      -- one more
      refine ⟨_, rfl, z0, fun a3 n3 => ?_⟩
      have s4 := same_upd (o := .lst []) n3
      have h3 : Sts (upd H5 a3 (.lst [])) a3 [] := ⟨upd_same, fun t h => by simp at h⟩
      generalize upd H5 a3 (.lst []) = H6 at s4 h3 ⊢
      refine ⟨z1, fun a4 n4 => ?_⟩
      have s5 := same_upd (o := .lst [V.str "a"]) n4
      have h4 : Ws (upd H6 a4 (.lst [V.str "a"])) a4 ["a"] := upd_same
      generalize upd H6 a4 (.lst [V.str "a"]) = H7 at s5 h4 ⊢
      refine ⟨a3, a4, [], ["a"], rfl, h3.keep s5, sok_nil, h4, go_one wd_a, fun q2 dx2 l2 g2 ts2 gs2 H8 s6 _ _ _ hq2 pt2 as2 pg2 ag2 => ?_⟩
      have isq2 := isQ_of (ts := []) hq2 sok_nil (go_one wd_a) pt2 as2 pg2 ag2
      have s46 := same_trans s4 (same_trans s5 s6)
      have e1 : Oeq (.q (snds []) ["a"]) (.q (snds []) ["a"]) := ⟨List.Perm.refl _, List.Perm.refl _⟩
      refine ⟨_, _, .q (isq1.keep s46), .q isq2, .inl (fun z => nomatch z), fun k1 h1 => ?_⟩
      cases oeq_t e1 h1
      refine ⟨_, rfl, ifT (by decide) ?_⟩
      -- its streets
      have hq8 := hq1.keep s46
      have lt := pt1.length_eq
      have ets : ts1 = [] := List.eq_nil_of_length_eq_zero lt
      subst ets
      refine ⟨_, rfl, q1, dx1, _, rfl, hq8.at_, rfl, q1, dx1, l1, _, _, rfl, hq8.at_, rfl, hq8.s.1, fun D1 m1 => ?_⟩
      have s7 := same_upd (o := .lst (([] : List (Addr × S5)).map fun t => V.ref t.1)) m1
      have hD1 : Ws (upd H8 D1 (.lst (([] : List (Addr × S5)).map fun t => V.ref t.1))) D1 [] := upd_same
      generalize upd H8 D1 (.lst (([] : List (Addr × S5)).map fun t => V.ref t.1)) = H9 at s7 hD1 ⊢
      refine ⟨z0, fun a5 n5 => ?_⟩
      have s8 := same_upd (o := .lst []) n5
      have h5 : Ws (upd H9 a5 (.lst [])) a5 [] := upd_same
      generalize upd H9 a5 (.lst []) = H10 at s8 h5 ⊢
      have nl : ∀ x ∈ ([] : List Str), Wd x := fun x hx => by simp at hx
      refine ⟨_, _, dp_ws (s8 _ _ hD1), dp_ws h5, strs_shaped nl, strs_shaped nl, ?_⟩
      rw [eqv_strs, decide_eq_true rfl]
      refine ⟨_, rfl, ifT (by decide) ?_⟩
      -- towns
      refine ⟨z0, fun b1 c1 => ?_⟩
      have u1 := same_upd (o := .lst []) c1
      have k1 : Sts (upd H10 b1 (.lst [])) b1 [] := ⟨upd_same, fun t h => by simp at h⟩
      generalize upd H10 b1 (.lst []) = G1 at u1 k1 ⊢
      refine ⟨b1, [], rfl, k1, sok_nil, fun w1 dy1 y1 us1 G2 u2 _ _ hw1 pu1 au1 => ?_⟩
      have ist1 := isT_of (ts := []) hw1 sok_nil pu1 au1
      refine ⟨z0, fun b2 c2 => ?_⟩
      have u3 := same_upd (o := .lst []) c2
      have k2 : Sts (upd G2 b2 (.lst [])) b2 [] := ⟨upd_same, fun t h => by simp at h⟩
      generalize upd G2 b2 (.lst []) = G3 at u3 k2 ⊢
      refine ⟨b2, [], rfl, k2, sok_nil, fun w2 dy2 y2 us2 G4 u4 _ _ hw2 pu2 au2 => ?_⟩
      have ist2 := isT_of (ts := []) hw2 sok_nil pu2 au2
      have e2 : Oeq (.t (snds [])) (.t (snds [])) := List.Perm.refl _
      refine ⟨_, _, .t (ist1.keep (same_trans u3 u4)), .t ist2, .inl (fun z => nomatch z), fun k2 h2 => ?_⟩
      cases oeq_t e2 h2
      refine ⟨_, rfl, ifT (by decide) ?_⟩
      -- places
      refine ⟨z0, fun b3 c3 => ?_⟩
      have u5 := same_upd (o := .lst []) c3
      have k3 : Sts (upd G4 b3 (.lst [])) b3 [] := ⟨upd_same, fun t h => by simp at h⟩
      generalize upd G4 b3 (.lst []) = G5 at u5 k3 ⊢
      refine ⟨b3, [], rfl, k3, sok_nil, fun w3 dy3 y3 us3 G6 u6 _ _ hw3 pu3 au3 => ?_⟩
      have lu := pu3.length_eq
      have eus : us3 = [] := List.eq_nil_of_length_eq_zero lu
      subst eus
      refine ⟨w3, dy3, y3, [], rfl, hw3, by decide, fun D3 vs G7 u7 _ tv hD3 => ?_⟩
      have ev : vs = [] := by
        cases vs with
        | nil => rfl
        | cons v vs =>
          have := (tv.mem v).mp List.mem_cons_self
          simp [ends] at this
      subst ev
      refine ⟨z0, fun b4 c4 => ?_⟩
      have u8 := same_upd (o := .lst []) c4
      have k4 : Ws (upd G7 b4 (.lst [])) b4 [] := upd_same
      generalize upd G7 b4 (.lst []) = G8 at u8 k4 ⊢
      refine ⟨_, _, dp_ws (u8 _ _ hD3), dp_ws k4, strs_shaped nl, strs_shaped nl, ?_⟩
      rw [eqv_strs, decide_eq_true rfl]
      refine ⟨_, rfl, ifT (by decide) ?_⟩
      -- another kind
      have u18 := same_trans u1 (same_trans u2 (same_trans u3 (same_trans u4 (same_trans u5 (same_trans u6 (same_trans u7 u8))))))
      have isq9 := (isq1.keep (same_trans s46 (same_trans s7 s8))).keep u18
      refine ⟨_, rfl, z0, fun b5 c5 => ?_⟩
      have u9 := same_upd (o := .lst []) c5
      have k5 : Sts (upd G8 b5 (.lst [])) b5 [] := ⟨upd_same, fun t h => by simp at h⟩
      generalize upd G8 b5 (.lst []) = G9 at u9 k5 ⊢
      refine ⟨b5, [], rfl, k5, sok_nil, fun w4 dy4 y4 us4 G10 u10 _ _ hw4 pu4 au4 => ?_⟩
      have ist4 := isT_of (ts := []) hw4 sok_nil pu4 au4
      refine ⟨_, _, .q (isq9.keep (same_trans u9 u10)), .t ist4, .inl (fun z => nomatch z), fun k3 h3 => ?_⟩
      have ek : k3 = false := by
        cases k3 with
        | false => rfl
        | true => exact (h3.mp rfl).elim
      subst ek
      exact q _
end
end K2
end
section
set_option Elab.async false
set_option linter.all false
set_option maxRecDepth 100000
set_option maxHeartbeats 4000000
namespace K2
open PySem PySem.Spec PyProof.Rows L2
/-! ### what the written part must say -/
def qA (K : PySem.W.Frag) : Addr := He.ga K "Quarter"
def tA (K : PySem.W.Frag) : Addr := He.ga K "Town"
def gloB (K : PySem.W.Frag) (x : Str) : Bool := He.eqO (PySem.W.nsIn K mainGlobals x) (some (some (.ref (He.ga K x))))
def metB (K : PySem.W.Frag) (C : Addr) (m : Str) : Bool := He.eqO (PySem.W.findIn K (.ref C) m) (some (some (.ref (He.ma K C m)))) && (PySem.W.isFn K (.ref (He.ma K C m)) && PySem.W.keepIn K (.ref (He.ma K C m)))
theorem metB_ok {K : PySem.W.Frag} {C : Addr} {m : Str} (h : metB K C m = true) : Meth K C m (He.ma K C m) := by
  obtain ⟨h1, h⟩ := He.ba h
  obtain ⟨h2, h3⟩ := He.ba h
  exact ⟨He.eqO_ok h1, h2, h3⟩
def clsB (K : PySem.W.Frag) (C : Addr) : Bool := PySem.W.plainGet K C Str.empty && (PySem.W.hasDictIn K C && (PySem.W.plainOver K C && He.eqO (PySem.W.findIn K (.ref C) "__setattr__") (some (some (.builtin "object.__setattr__")))))
def mkB (K : PySem.W.Frag) (C : Addr) : Bool := PySem.W.makesIn K C && (metB K C "__init__" && PySem.W.keepIn K (.ref C))
def subB (K : PySem.W.Frag) (C : Addr) (T : String) (b : Bool) : Bool := decide (PySem.W.subIn K (.ref C) (.type T) = some b)
def owB (K : PySem.W.Frag) (C : Addr) : Bool := metB K C "__eq__" && (He.eqO (PySem.W.findIn K (.ref C) "__ne__") (some (some (.builtin "object.__ne__"))) && (subB K C "object" true &&
  (subB K C "NoneType" false && (subB K C "int" false && (subB K C "bool" false && (subB K C "str" false && (subB K C "list" false && (subB K C "tuple" false && subB K C "dict" false))))))))
def oneB (K : PySem.W.Frag) (C : Addr) : Bool := clsB K C && (mkB K C && (owB K C && (He.eqO (PySem.W.findIn K (.ref C) "_streets") (some none) && (He.eqO (PySem.W.findIn K (.ref C) "_gates") (some none) &&
  (He.eqO (PySem.W.findIn K (.ref C) "__class__") (some (some (.builtin "object.__class__"))) && (He.eqO (PySem.W.specialIn K (.builtin "object.__class__") "__get__") (some (some (.builtin "getset_descriptor.__get__"))) &&
  (decide (PySem.W.takesIn K (.builtin "object.__class__") = some true) && (decide (PySem.W.mroIn K C (.type "object") = some true) && (decide (PySem.W.kitOne K (.ref C) (.ref C) = some true) &&
  kinds.all fun T => decide (PySem.W.kitOne K (.type T) (.ref C) = some false) && PySem.W.notFirst K C (.type T))))))))))
theorem oneB_ok {K : PySem.W.Frag} {C : Addr} (h : oneB K C = true) : ClsF K C (He.ma K C "__init__") (He.ma K C "__eq__") := by
  obtain ⟨h1, h⟩ := He.ba h
  obtain ⟨h2, h⟩ := He.ba h
  obtain ⟨h3, h⟩ := He.ba h
  obtain ⟨h4, h⟩ := He.ba h
  obtain ⟨h5, h⟩ := He.ba h
  obtain ⟨h6, h⟩ := He.ba h
  obtain ⟨h7, h⟩ := He.ba h
  obtain ⟨h8, h⟩ := He.ba h
  obtain ⟨h9, h⟩ := He.ba h
  obtain ⟨h10, h11⟩ := He.ba h
  obtain ⟨c1, c⟩ := He.ba h1
  obtain ⟨c2, c⟩ := He.ba c
  obtain ⟨c3, c4⟩ := He.ba c
  obtain ⟨m1, m⟩ := He.ba h2
  obtain ⟨m2, m3⟩ := He.ba m
  have mi := metB_ok m2
  obtain ⟨o1, o⟩ := He.ba h3
  obtain ⟨o2, o⟩ := He.ba o
  obtain ⟨o3, o⟩ := He.ba o
  obtain ⟨o4, o⟩ := He.ba o
  obtain ⟨o5, o⟩ := He.ba o
  obtain ⟨o6, o⟩ := He.ba o
  obtain ⟨o7, o⟩ := He.ba o
  obtain ⟨o8, o⟩ := He.ba o
  obtain ⟨o9, o10⟩ := He.ba o
  have me := metB_ok o1
  refine ⟨⟨c1, c2, c3, He.eqO_ok c4⟩, ⟨m1, mi.at_, mi.fn, m3⟩, ⟨me.at_, me.fn, He.eqO_ok o2, of_decide_eq_true o3, of_decide_eq_true o4, of_decide_eq_true o5, of_decide_eq_true o6, of_decide_eq_true o7, of_decide_eq_true o8, of_decide_eq_true o9, of_decide_eq_true o10⟩,
    He.eqO_ok h4, He.eqO_ok h5, He.eqO_ok h6, He.eqO_ok h7, of_decide_eq_true h8, of_decide_eq_true h9, of_decide_eq_true h10, fun T hT => ?_⟩
  obtain ⟨k1, k2⟩ := He.ba (List.all_eq_true.mp h11 T hT)
  exact ⟨of_decide_eq_true k1, k2⟩
def klzB (K : PySem.W.Frag) : Bool := oneB K (qA K) && (oneB K (tA K) && (decide (PySem.W.kitOne K (.ref (tA K)) (.ref (qA K)) = some false) && (decide (PySem.W.kitOne K (.ref (qA K)) (.ref (tA K)) = some false) &&
  (PySem.W.notFirst K (qA K) (.ref (tA K)) && (PySem.W.notFirst K (tA K) (.ref (qA K)) && (gloB K "Quarter" && (gloB K "Town" && (metB K (qA K) "streets" && (metB K (qA K) "gates" && metB K (tA K) "streets")))))))))
def defs1 : List Str := ["is_count", "is_word", "is_street", "check_streets", "check_gates", "check_quarter", "check_town", "ends_of", "crossings_of", "street_of", "places_of", "asked_of", "_law_purse", "_law_mixed", "_law_draw", "_law_purses", "_law_one_of", "_law_shuffled", "_law_exact", "_law_word"]
def defs2 : List Str := ["_law_words", "_law_width", "_law_length", "_law_pair", "_law_shape", "_law_streets_of", "_law_world", "_law_quarter", "_law_town_world", "_law_ends", "_law_spots", "_law_quarter_right", "_law_town_right", "_law_others", "_law_unlike_right", "_law_quarter_law", "_law_turns_right", "_law_town_law", "_law_grown_right", "law", "is_whole", "are_streets", "are_gates"]
def defs : List Str := defs1 ++ defs2
def chk (K : PySem.W.Frag) : Bool := klzB K && ((K.lookup sysModules).isSome && ((frees.all fun x => He.eqO (PySem.W.nsIn K mainGlobals x) (some none)) && defs.all fun x => gloB K x))
/-! ### the head -/
def dM (C m : Str) (q : Str) (st : Stmt) : He.DefD := ⟨(C, some m), m, q, defArgs st, defBody st, defScope st, [], []⟩
def dF (x : Str) (st : Stmt) : He.DefD := ⟨(x, none), x, x, defArgs st, defBody st, defScope st, [], []⟩
def sts : List Stmt := [sCount, sIsWord, sIsStreet, sChkStreets, sChkGates, sChkQuarter, sChkTown, sEndsOf, sCrossings, sStreetOf, sPlacesOf, sAskedOf, sPurse, sMixed, sDraw, sPurses, sOneOf, sShuffled, sExact, sWord, sWords, sWidth, sLength, sPair, sShape, sStreetsOf, sWorld, sQuarter, sTownWorld, sEnds, sSpots, sQRight, sTRight, sOthers, sUnlike, sQLaw, sTurns, sTLaw, sGrown, sLaw, sWhole, sAreStreets, sAreGates]
def fn : List He.DefD := (defs.zip sts).map (fun p => dF p.1 p.2) ++ [dM "Quarter" "__init__" "Quarter.__init__" sQInit, dM "Quarter" "streets" "Quarter.streets" sQStreets, dM "Quarter" "gates" "Quarter.gates" sQGates, dM "Quarter" "__eq__" "Quarter.__eq__" sQEq, dM "Town" "__init__" "Town.__init__" sTInit, dM "Town" "streets" "Town.streets" sTStreets, dM "Town" "__eq__" "Town.__eq__" sTEq]
abbrev Al : Type := Bool × List He.FnW
def obsK (K : PySem.W.Frag) : Al := (chk K && fn.all fun d => d.ok K, fn.map fun d => He.fnW K d.at_)
def valK : Al := (true, fn.map He.DefD.val)
def Says (K : PySem.W.Frag) : Prop := obsK K = valK
def obsN (g : Addr → Option Obj) : Al := obsK (He.frG g (sysModules :: He.asD g 5))
abbrev hk : PySem.W.Hook where
  α := Al
  obs := fun s => obsN s.heap.get?
  val := fun _ => valK
  says := fun _ h => ∃ K : PySem.W.Frag, K.In h ∧ Says K
  of := fun _ _ e => ⟨_, He.frG_in, e⟩
  keeps := fun _ _ _ ⟨K, hK, c⟩ k => ⟨K, PySem.W.Frag.In.keeps hK k, c⟩
def ob (s : PySem.W.SharedT) : Al := obsN (HandSHeadRun.getT s)
theorem ob_eq (s : PySem.W.SharedT) : ob s = hk.obs s.abs := by
  have e : HandSHeadRun.getT s = s.abs.heap.get? := funext (HandSHeadRun.getT_eq s)
  show obsN (HandSHeadRun.getT s) = obsN s.abs.heap.get?
  rw [e]
section
variable {K : PySem.W.Frag}
theorem Says.chk (c : Says K) : chk K = true := (He.ba (show (K2.chk K && fn.all fun d => d.ok K) = true from congrArg (fun z : Al => z.1) c)).1
theorem Says.def_ (c : Says K) (i : Nat) {d : He.DefD} (h : fn[i]? = some d := by rfl) : ∃ fd, FunD K d.name d.qual d.params d.body d.scope (d.dvs K) (d.kws K) (He.fAd K d.at_) fd := by
  have c2 := (He.ba (show (K2.chk K && fn.all fun d => d.ok K) = true from congrArg (fun z : Al => z.1) c)).2
  have e : fn.map (fun d => He.fnW K d.at_) = fn.map He.DefD.val := congrArg (fun z : Al => z.2) c
  have e2 : (fn.map fun d => He.fnW K d.at_)[i]? = (fn.map He.DefD.val)[i]? := by rw [e]
  rw [List.getElem?_map, List.getElem?_map, h] at e2
  exact He.DefD.funD (Option.some.inj e2) (List.all_eq_true.mp c2 d (List.mem_of_getElem? h))
theorem tx_of {h : Heap} {mg : Str → Option Value} (X : K.In h) (G : h.Ns mainGlobals mg) (c : chk K = true) :
    Tx K mg ∧ (∀ x ∈ defs, mg x = some (.ref (He.ga K x))) ∧ Klz K mg (qA K) (tA K) (He.ma K (qA K) "__init__") (He.ma K (tA K) "__init__") (He.ma K (qA K) "__eq__") (He.ma K (tA K) "__eq__") (He.ma K (qA K) "streets") (He.ma K (tA K) "streets") (He.ma K (qA K) "gates") := by
  obtain ⟨c1, c⟩ := He.ba c
  obtain ⟨c2, c⟩ := He.ba c
  obtain ⟨c3, c4⟩ := He.ba c
  obtain ⟨k1, k⟩ := He.ba c1
  obtain ⟨k2, k⟩ := He.ba k
  obtain ⟨k3, k⟩ := He.ba k
  obtain ⟨k4, k⟩ := He.ba k
  obtain ⟨k5, k⟩ := He.ba k
  obtain ⟨k6, k⟩ := He.ba k
  obtain ⟨k7, k⟩ := He.ba k
  obtain ⟨k8, k⟩ := He.ba k
  obtain ⟨k9, k⟩ := He.ba k
  obtain ⟨k10, k11⟩ := He.ba k
  refine ⟨⟨fun x hx => PySem.W.mg_none_of X G (He.eqO_ok (List.all_eq_true.mp c3 x hx))⟩, fun x hx => PySem.W.mg_of X G (He.eqO_ok (List.all_eq_true.mp c4 x hx)), ?_⟩
  exact ⟨oneB_ok k1, oneB_ok k2, of_decide_eq_true k3, of_decide_eq_true k4, k5, k6, PySem.W.mg_of X G (He.eqO_ok k7), PySem.W.mg_of X G (He.eqO_ok k8), metB_ok k9, metB_ok k10, metB_ok k11⟩
end
end K2
end
section
set_option Elab.async false
set_option linter.all false
set_option maxRecDepth 100000
set_option maxHeartbeats 4000000
namespace K2
open PySem PySem.Spec PyProof.Rows L2
section
variable {P : Program} {w : World} {K : PySem.W.Frag} {mg : Str → Option Value} {base : Heap}
theorem fz_of {x : Str} {st : Stmt} {ps : List Str} {k : Nat} {sp : Sp} {fd : FuncData} (F : FnP K x st (He.ga K x) fd) (ok : FnOk P w K mg base CX0 k (He.ga K x) fd ps sp) (hm : mg x = some (.ref (He.ga K x)))
    (h : ∀ (kV doc pm : Value) (an : Option Addr) (cdv ct : Value) (us : List Value), us.length = ps.length → bindArgs (PySem.W.fnOf x x (defArgs st) (defBody st) (defScope st) .none kV doc pm an cdv ct) ⟨us, []⟩ = pure (ps.zip us)) : Fz P w K mg base x k ps sp :=
  ⟨_, _, ok, hm, F.kp, F.bindsN h⟩
theorem mz_of {C : Addr} {m q : Str} {st : Stmt} {k : Nat} {sp : Sp} {fd : FuncData} (c : Cls K C) (M : Meth K C m (He.ma K C m)) (F : FnM K m q st (He.ma K C m) fd) (ok : FnOk P w K mg base CX0 k (He.ma K C m) fd ["self"] sp)
    (h : ∀ (kV doc pm : Value) (an : Option Addr) (cdv ct : Value) (us : List Value), us.length = 1 → bindArgs (PySem.W.fnOf m q (defArgs st) (defBody st) (defScope st) .none kV doc pm an cdv ct) ⟨us, []⟩ = pure ((["self"] : List Str).zip us)) : Mz P w K mg base C m k sp :=
  ⟨c, _, _, M, ok, F.bindsN h⟩
theorem env_of (c : Says K) {h : Heap} (X : K.In h) (G : h.Ns mainGlobals mg) : LawE P w K mg base (qA K) (tA K) := by
  obtain ⟨T, gl, Z⟩ := tx_of X G c.chk
  have g : ∀ {x : Str}, x ∈ defs → mg x = some (.ref (He.ga K x)) := fun h => gl _ h
  obtain ⟨f0, F0⟩ := c.def_ 0 (d := dF "is_count" sCount)
  obtain ⟨f1, F1⟩ := c.def_ 1 (d := dF "is_word" sIsWord)
  obtain ⟨f2, F2⟩ := c.def_ 2 (d := dF "is_street" sIsStreet)
  obtain ⟨f3, F3⟩ := c.def_ 3 (d := dF "check_streets" sChkStreets)
  obtain ⟨f4, F4⟩ := c.def_ 4 (d := dF "check_gates" sChkGates)
  obtain ⟨f5, F5⟩ := c.def_ 5 (d := dF "check_quarter" sChkQuarter)
  obtain ⟨f6, F6⟩ := c.def_ 6 (d := dF "check_town" sChkTown)
  obtain ⟨f7, F7⟩ := c.def_ 7 (d := dF "ends_of" sEndsOf)
  obtain ⟨f8, F8⟩ := c.def_ 8 (d := dF "crossings_of" sCrossings)
  obtain ⟨f9, F9⟩ := c.def_ 9 (d := dF "street_of" sStreetOf)
  obtain ⟨f10, F10⟩ := c.def_ 10 (d := dF "places_of" sPlacesOf)
  obtain ⟨f11, F11⟩ := c.def_ 11 (d := dF "asked_of" sAskedOf)
  obtain ⟨f12, F12⟩ := c.def_ 12 (d := dF "_law_purse" sPurse)
  obtain ⟨f13, F13⟩ := c.def_ 13 (d := dF "_law_mixed" sMixed)
  obtain ⟨f14, F14⟩ := c.def_ 14 (d := dF "_law_draw" sDraw)
  obtain ⟨f15, F15⟩ := c.def_ 15 (d := dF "_law_purses" sPurses)
  obtain ⟨f16, F16⟩ := c.def_ 16 (d := dF "_law_one_of" sOneOf)
  obtain ⟨f17, F17⟩ := c.def_ 17 (d := dF "_law_shuffled" sShuffled)
  obtain ⟨f18, F18⟩ := c.def_ 18 (d := dF "_law_exact" sExact)
  obtain ⟨f19, F19⟩ := c.def_ 19 (d := dF "_law_word" sWord)
  obtain ⟨f20, F20⟩ := c.def_ 20 (d := dF "_law_words" sWords)
  obtain ⟨f21, F21⟩ := c.def_ 21 (d := dF "_law_width" sWidth)
  obtain ⟨f22, F22⟩ := c.def_ 22 (d := dF "_law_length" sLength)
  obtain ⟨f23, F23⟩ := c.def_ 23 (d := dF "_law_pair" sPair)
  obtain ⟨f24, F24⟩ := c.def_ 24 (d := dF "_law_shape" sShape)
  obtain ⟨f25, F25⟩ := c.def_ 25 (d := dF "_law_streets_of" sStreetsOf)
  obtain ⟨f26, F26⟩ := c.def_ 26 (d := dF "_law_world" sWorld)
  obtain ⟨f27, F27⟩ := c.def_ 27 (d := dF "_law_quarter" sQuarter)
  obtain ⟨f28, F28⟩ := c.def_ 28 (d := dF "_law_town_world" sTownWorld)
  obtain ⟨f29, F29⟩ := c.def_ 29 (d := dF "_law_ends" sEnds)
  obtain ⟨f30, F30⟩ := c.def_ 30 (d := dF "_law_spots" sSpots)
  obtain ⟨f31, F31⟩ := c.def_ 31 (d := dF "_law_quarter_right" sQRight)
  obtain ⟨f32, F32⟩ := c.def_ 32 (d := dF "_law_town_right" sTRight)
  obtain ⟨f33, F33⟩ := c.def_ 33 (d := dF "_law_others" sOthers)
  obtain ⟨f34, F34⟩ := c.def_ 34 (d := dF "_law_unlike_right" sUnlike)
  obtain ⟨f35, F35⟩ := c.def_ 35 (d := dF "_law_quarter_law" sQLaw)
  obtain ⟨f36, F36⟩ := c.def_ 36 (d := dF "_law_turns_right" sTurns)
  obtain ⟨f37, F37⟩ := c.def_ 37 (d := dF "_law_town_law" sTLaw)
  obtain ⟨f38, F38⟩ := c.def_ 38 (d := dF "_law_grown_right" sGrown)
  obtain ⟨f40, F40⟩ := c.def_ 40 (d := dF "is_whole" sWhole)
  obtain ⟨f41, F41⟩ := c.def_ 41 (d := dF "are_streets" sAreStreets)
  obtain ⟨f42, F42⟩ := c.def_ 42 (d := dF "are_gates" sAreGates)
  obtain ⟨m0, M0⟩ := c.def_ 43 (d := dM "Quarter" "__init__" "Quarter.__init__" sQInit)
  obtain ⟨m1, M1⟩ := c.def_ 44 (d := dM "Quarter" "streets" "Quarter.streets" sQStreets)
  obtain ⟨m2, M2⟩ := c.def_ 45 (d := dM "Quarter" "gates" "Quarter.gates" sQGates)
  obtain ⟨m3, M3⟩ := c.def_ 46 (d := dM "Quarter" "__eq__" "Quarter.__eq__" sQEq)
  obtain ⟨m4, M4⟩ := c.def_ 47 (d := dM "Town" "__init__" "Town.__init__" sTInit)
  obtain ⟨m5, M5⟩ := c.def_ 48 (d := dM "Town" "streets" "Town.streets" sTStreets)
  obtain ⟨m6, M6⟩ := c.def_ 49 (d := dM "Town" "__eq__" "Town.__eq__" sTEq)
  have F0 : FnP K "is_count" sCount (He.ga K "is_count") f0 := F0
  have F1 : FnP K "is_word" sIsWord (He.ga K "is_word") f1 := F1
  have F2 : FnP K "is_street" sIsStreet (He.ga K "is_street") f2 := F2
  have F3 : FnP K "check_streets" sChkStreets (He.ga K "check_streets") f3 := F3
  have F4 : FnP K "check_gates" sChkGates (He.ga K "check_gates") f4 := F4
  have F5 : FnP K "check_quarter" sChkQuarter (He.ga K "check_quarter") f5 := F5
  have F6 : FnP K "check_town" sChkTown (He.ga K "check_town") f6 := F6
  have F7 : FnP K "ends_of" sEndsOf (He.ga K "ends_of") f7 := F7
  have F8 : FnP K "crossings_of" sCrossings (He.ga K "crossings_of") f8 := F8
  have F9 : FnP K "street_of" sStreetOf (He.ga K "street_of") f9 := F9
  have F10 : FnP K "places_of" sPlacesOf (He.ga K "places_of") f10 := F10
  have F11 : FnP K "asked_of" sAskedOf (He.ga K "asked_of") f11 := F11
  have F12 : FnP K "_law_purse" sPurse (He.ga K "_law_purse") f12 := F12
  have F13 : FnP K "_law_mixed" sMixed (He.ga K "_law_mixed") f13 := F13
  have F14 : FnP K "_law_draw" sDraw (He.ga K "_law_draw") f14 := F14
  have F15 : FnP K "_law_purses" sPurses (He.ga K "_law_purses") f15 := F15
  have F16 : FnP K "_law_one_of" sOneOf (He.ga K "_law_one_of") f16 := F16
  have F17 : FnP K "_law_shuffled" sShuffled (He.ga K "_law_shuffled") f17 := F17
  have F18 : FnP K "_law_exact" sExact (He.ga K "_law_exact") f18 := F18
  have F19 : FnP K "_law_word" sWord (He.ga K "_law_word") f19 := F19
  have F20 : FnP K "_law_words" sWords (He.ga K "_law_words") f20 := F20
  have F21 : FnP K "_law_width" sWidth (He.ga K "_law_width") f21 := F21
  have F22 : FnP K "_law_length" sLength (He.ga K "_law_length") f22 := F22
  have F23 : FnP K "_law_pair" sPair (He.ga K "_law_pair") f23 := F23
  have F24 : FnP K "_law_shape" sShape (He.ga K "_law_shape") f24 := F24
  have F25 : FnP K "_law_streets_of" sStreetsOf (He.ga K "_law_streets_of") f25 := F25
  have F26 : FnP K "_law_world" sWorld (He.ga K "_law_world") f26 := F26
  have F27 : FnP K "_law_quarter" sQuarter (He.ga K "_law_quarter") f27 := F27
  have F28 : FnP K "_law_town_world" sTownWorld (He.ga K "_law_town_world") f28 := F28
  have F29 : FnP K "_law_ends" sEnds (He.ga K "_law_ends") f29 := F29
  have F30 : FnP K "_law_spots" sSpots (He.ga K "_law_spots") f30 := F30
  have F31 : FnP K "_law_quarter_right" sQRight (He.ga K "_law_quarter_right") f31 := F31
  have F32 : FnP K "_law_town_right" sTRight (He.ga K "_law_town_right") f32 := F32
  have F33 : FnP K "_law_others" sOthers (He.ga K "_law_others") f33 := F33
  have F34 : FnP K "_law_unlike_right" sUnlike (He.ga K "_law_unlike_right") f34 := F34
  have F35 : FnP K "_law_quarter_law" sQLaw (He.ga K "_law_quarter_law") f35 := F35
  have F36 : FnP K "_law_turns_right" sTurns (He.ga K "_law_turns_right") f36 := F36
  have F37 : FnP K "_law_town_law" sTLaw (He.ga K "_law_town_law") f37 := F37
  have F38 : FnP K "_law_grown_right" sGrown (He.ga K "_law_grown_right") f38 := F38
  have F40 : FnP K "is_whole" sWhole (He.ga K "is_whole") f40 := F40
  have F41 : FnP K "are_streets" sAreStreets (He.ga K "are_streets") f41 := F41
  have F42 : FnP K "are_gates" sAreGates (He.ga K "are_gates") f42 := F42
  have M0 : FnM K "__init__" "Quarter.__init__" sQInit (He.ma K (qA K) "__init__") m0 := M0
  have M1 : FnM K "streets" "Quarter.streets" sQStreets (He.ma K (qA K) "streets") m1 := M1
  have M2 : FnM K "gates" "Quarter.gates" sQGates (He.ma K (qA K) "gates") m2 := M2
  have M3 : FnM K "__eq__" "Quarter.__eq__" sQEq (He.ma K (qA K) "__eq__") m3 := M3
  have M4 : FnM K "__init__" "Town.__init__" sTInit (He.ma K (tA K) "__init__") m4 := M4
  have M5 : FnM K "streets" "Town.streets" sTStreets (He.ma K (tA K) "streets") m5 := M5
  have M6 : FnM K "__eq__" "Town.__eq__" sTEq (He.ma K (tA K) "__eq__") m6 := M6
  -- the purse
  have GD : FnOk P w K mg base CX0 2 (He.ga K "_law_draw") f14 ["_law_purse_here", "_law_many"] spDraw := ok_draw F14 F13 (g (by decide +kernel)) T
  have ZD : DrawZ P w K mg base := fz_of F14 GD (g (by decide +kernel)) fun _ _ _ _ _ _ us hl => match us, hl with | [_, _], _ => rfl
  have ZPu : Fz P w K mg base "_law_purses" 2 ["_law_script", "_law_few"] (spPurses K) := fz_of F15 (ok_purses F15 F12 (g (by decide +kernel)) T) (g (by decide +kernel)) fun _ _ _ _ _ _ us hl => match us, hl with | [_, _], _ => rfl
  have ZO : OneZ P w K mg base := fz_of F16 (ok_oneOf F16 GD F14 (g (by decide +kernel)) T) (g (by decide +kernel)) fun _ _ _ _ _ _ us hl => match us, hl with | [_, _], _ => rfl
  have ZSh : Fz P w K mg base "_law_shuffled" 3 ["_law_purse_here", "_law_some"] spShuffled := fz_of F17 (ok_shuffled F17 ZD T) (g (by decide +kernel)) fun _ _ _ _ _ _ us hl => match us, hl with | [_, _], _ => rfl
  have bE : Binds K f18 ["_law_one", "_law_other"] [] := F18.bindsN fun _ _ _ _ _ _ us hl => match us, hl with | [_, _], _ => rfl
  have ZE : Fz P w K mg base "_law_exact" 6 ["_law_one", "_law_other"] (spExact 5) := ⟨_, _, ok_exact F18 (g (by decide +kernel)) F18.kp bE T 5, g (by decide +kernel), F18.kp, bE⟩
  have ZW : WordZ P w K mg base := fz_of F19 (ok_word F19 GD F14 (g (by decide +kernel)) T) (g (by decide +kernel)) fun _ _ _ _ _ _ us hl => match us, hl with | [_], _ => rfl
  have ZWs : Fz P w K mg base "_law_words" 4 ["_law_purse_here", "_law_many"] spWords := fz_of F20 (ok_words F20 ZD ZW T) (g (by decide +kernel)) fun _ _ _ _ _ _ us hl => match us, hl with | [_, _], _ => rfl
  have ZWi : WidthZ P w K mg base := fz_of F21 (ok_width F21 ZO) (g (by decide +kernel)) fun _ _ _ _ _ _ us hl => match us, hl with | [_], _ => rfl
  have ZLe : LengthZ P w K mg base := fz_of F22 (ok_length F22 ZO) (g (by decide +kernel)) fun _ _ _ _ _ _ us hl => match us, hl with | [_], _ => rfl
  have ZPa : PairZ P w K mg base := fz_of F23 (ok_pair F23 ZO) (g (by decide +kernel)) fun _ _ _ _ _ _ us hl => match us, hl with | [_, _], _ => rfl
  have ZSp : Fz P w K mg base "_law_shape" 3 ["_law_purse_here", "_law_gates", "_law_inner"] spShape := fz_of F24 (ok_shape F24 ZD T) (g (by decide +kernel)) fun _ _ _ _ _ _ us hl => match us, hl with | [_, _, _], _ => rfl
  have ZSt : Fz P w K mg base "_law_streets_of" 5 ["_law_purse_here", "_law_crossings", "_law_names", "_law_pairs", "_law_many"] spStreetsOf := fz_of F25 (ok_streetsOf F25 ZD ZO ZPa ZWi ZLe T) (g (by decide +kernel)) fun _ _ _ _ _ _ us hl => match us, hl with | [_, _, _, _, _], _ => rfl
  have ZWo : Fz P w K mg base "_law_world" 6 ["_law_purse_here", "_law_gates", "_law_inner", "_law_most"] spWorld := fz_of F26 (ok_world F26 ZD ZWs ZSh ZSp ZSt T) (g (by decide +kernel)) fun _ _ _ _ _ _ us hl => match us, hl with | [_, _, _, _], _ => rfl
  have ZTw : Fz P w K mg base "_law_town_world" 6 ["_law_purse_here", "_law_world_here", "_law_own", "_law_most"] spTownWorld := fz_of F28 (ok_townWorld F28 ZD ZWs ZSh ZSt T) (g (by decide +kernel)) fun _ _ _ _ _ _ us hl => match us, hl with | [_, _, _, _], _ => rfl
  -- the program
  have ZWh : Fz P w K mg base "is_whole" 1 ["value"] spIsWhole := fz_of F40 (ok_isWhole F40 T) (g (by decide +kernel)) fun _ _ _ _ _ _ us hl => match us, hl with | [_], _ => rfl
  have ZC : Fz P w K mg base "is_count" 2 ["value"] spIsCount := fz_of F0 (ok_isCount F0 ZWh T) (g (by decide +kernel)) fun _ _ _ _ _ _ us hl => match us, hl with | [_], _ => rfl
  have ZIw : Fz P w K mg base "is_word" 1 ["value"] spIsWord := fz_of F1 (ok_isWord F1 T) (g (by decide +kernel)) fun _ _ _ _ _ _ us hl => match us, hl with | [_], _ => rfl
  have ZIs : Fz P w K mg base "is_street" 3 ["value"] spIsStreet := fz_of F2 (ok_isStreet F2 ZC ZIw T) (g (by decide +kernel)) fun _ _ _ _ _ _ us hl => match us, hl with | [_], _ => rfl
  have ZAs : Fz P w K mg base "are_streets" 4 ["value"] (spAreStreets K) := fz_of F41 (ok_areStreets F41 ZIs T) (g (by decide +kernel)) fun _ _ _ _ _ _ us hl => match us, hl with | [_], _ => rfl
  have ZCs : Fz P w K mg base "check_streets" 5 ["value"] (spChkStreets K) := fz_of F3 (ok_chkStreets F3 ZAs T) (g (by decide +kernel)) fun _ _ _ _ _ _ us hl => match us, hl with | [_], _ => rfl
  have ZAg : Fz P w K mg base "are_gates" 2 ["value"] spAreGates := fz_of F42 (ok_areGates F42 ZIw T) (g (by decide +kernel)) fun _ _ _ _ _ _ us hl => match us, hl with | [_], _ => rfl
  have ZCg : Fz P w K mg base "check_gates" 3 ["value"] spChkGates := fz_of F4 (ok_chkGates F4 ZAg T) (g (by decide +kernel)) fun _ _ _ _ _ _ us hl => match us, hl with | [_], _ => rfl
  have MQ : MkQ P w K mg base (qA K) := mkQ_of M0 Z.q.mkr Z.mQ (ok_qInit M0 Z.q ZCs ZCg T)
  have MT : MkT P w K mg base (tA K) := mkT_of M4 Z.t.mkr Z.mT (ok_tInit M4 Z.t ZCs T)
  have QS : Mz P w K mg base (qA K) "streets" 1 (spFld (qA K) "_streets") := mz_of Z.q.cl Z.qs M1 (ok_qStreets M1 Z.q T) fun _ _ _ _ _ _ us hl => match us, hl with | [_], _ => rfl
  have QG : Mz P w K mg base (qA K) "gates" 1 (spFld (qA K) "_gates") := mz_of Z.q.cl Z.qg M2 (ok_qGates M2 Z.q T) fun _ _ _ _ _ _ us hl => match us, hl with | [_], _ => rfl
  have TS : Mz P w K mg base (tA K) "streets" 1 (spFld (tA K) "_streets") := mz_of Z.t.cl Z.ts M5 (ok_tStreets M5 Z.t T) fun _ _ _ _ _ _ us hl => match us, hl with | [_], _ => rfl
  have EZ : EqZ P w K mg base (qA K) (tA K) := ⟨_, _, _, _, _, _, _, _, _, Z, ok_qEq M3 Z T, FunD.bindsN M3 fun _ _ _ _ _ _ us hl => match us, hl with | [_, _], _ => rfl, ok_tEq M6 Z T, FunD.bindsN M6 fun _ _ _ _ _ _ us hl => match us, hl with | [_, _], _ => rfl⟩
  have ms : Ms P w K mg base (qA K) (tA K) := ⟨QS, QG, TS, fz_of F5 (ok_chkQ F5 Z.q Z.mQ T) (g (by decide +kernel)) fun _ _ _ _ _ _ us hl => match us, hl with | [_], _ => rfl, fz_of F6 (ok_chkT F6 Z.t Z.mT T) (g (by decide +kernel)) fun _ _ _ _ _ _ us hl => match us, hl with | [_], _ => rfl,
    fz_of F7 (ok_endsOf F7 T) (g (by decide +kernel)) fun _ _ _ _ _ _ us hl => match us, hl with | [_], _ => rfl⟩
  have oC := ok_cross F8 ms T
  have oP := ok_places F10 ms T
  have ZPl : Fz P w K mg base "places_of" 2 ["town"] (spPlaces (tA K)) := fz_of F10 oP (g (by decide +kernel)) fun _ _ _ _ _ _ us hl => match us, hl with | [_], _ => rfl
  have oA := ok_asked F11 ms ZPl T
  have J : Jd P w K mg base (qA K) (tA K) := ⟨ms, ZE, fz_of F29 (ok_endsL F29 T) (g (by decide +kernel)) fun _ _ _ _ _ _ us hl => match us, hl with | [_, _], _ => rfl, fz_of F30 (ok_spots F30 T) (g (by decide +kernel)) fun _ _ _ _ _ _ us hl => match us, hl with | [_], _ => rfl,
    fz_of F8 oC (g (by decide +kernel)) fun _ _ _ _ _ _ us hl => match us, hl with | [_], _ => rfl, fz_of F9 (ok_streetOf F9 ms T) (g (by decide +kernel)) fun _ _ _ _ _ _ us hl => match us, hl with | [_, _], _ => rfl, ZPl, fz_of F11 oA (g (by decide +kernel)) fun _ _ _ _ _ _ us hl => match us, hl with | [_, _], _ => rfl⟩
  -- the laws
  have Q : QE P w K mg base (qA K) (tA K) := ⟨J, MQ, MT, EZ, ZSh, fz_of F33 (ok_others F33 ZSh T) (g (by decide +kernel)) fun _ _ _ _ _ _ us hl => match us, hl with | [_, _], _ => rfl,
    fz_of F31 (ok_qRight F31 J T) (g (by decide +kernel)) fun _ _ _ _ _ _ us hl => match us, hl with | [_, _, _], _ => rfl, fz_of F32 (ok_tRight F32 J T) (g (by decide +kernel)) fun _ _ _ _ _ _ us hl => match us, hl with | [_, _], _ => rfl,
    fz_of F34 (ok_unlike F34 J EZ T) (g (by decide +kernel)) fun _ _ _ _ _ _ us hl => match us, hl with | [_, _], _ => rfl, fz_of F27 (ok_lQuarter F27 MQ T) (g (by decide +kernel)) fun _ _ _ _ _ _ us hl => match us, hl with | [_], _ => rfl,
    ⟨_, _, oC, g (by decide +kernel), F8.kp, kbN (n := 0) (ks := ["quarter"]) F8 (fun us ws => us ++ ws.reverse) (fun r1 r2 => r1.append r2.reverse) (fun _ _ _ _ _ _ us ws h1 h2 => match us, ws, h1, h2 with | [], [_], _, _ => rfl)⟩,
    ⟨_, _, oP, g (by decide +kernel), F10.kp, kbN (n := 0) (ks := ["town"]) F10 (fun us ws => us ++ ws.reverse) (fun r1 r2 => r1.append r2.reverse) (fun _ _ _ _ _ _ us ws h1 h2 => match us, ws, h1, h2 with | [], [_], _, _ => rfl)⟩,
    ⟨_, _, oA, g (by decide +kernel), F11.kp, kbN (n := 0) (ks := ["town", "quarter"]) F11 (fun us ws => us ++ ws.reverse) (fun r1 r2 => r1.append r2.reverse) (fun _ _ _ _ _ _ us ws h1 h2 => match us, ws, h1, h2 with | [], [_, _], _, _ => rfl)⟩⟩
  have ZTu : Fz P w K mg base "_law_turns_right" 8 ["_law_quarter_here", "_law_town", "_law_world_here", "_law_streets"] (spTurns (qA K) (tA K)) := fz_of F36 (ok_turns F36 Q T) (g (by decide +kernel)) fun _ _ _ _ _ _ us hl => match us, hl with | [_, _, _, _], _ => rfl
  exact ⟨T, Q, ZPu, ZD, ZWo, ZTw, fz_of F35 ((ok_qLaw F35 Q T).mono (k := 9) (by decide)) (g (by decide +kernel)) fun _ _ _ _ _ _ us hl => match us, hl with | [_, _], _ => rfl,
    fz_of F37 (ok_tLaw F37 Q ZTu T) (g (by decide +kernel)) fun _ _ _ _ _ _ us hl => match us, hl with | [_, _, _], _ => rfl, fz_of F38 ((ok_grown F38 Q T).mono (k := 9) (by decide)) (g (by decide +kernel)) fun _ _ _ _ _ _ us hl => match us, hl with | [_], _ => rfl⟩
theorem facts {h : Heap} {f : Addr} (X : K.In h) (G : h.Ns mainGlobals mg) (hfa : mg ("law" : Str) = some (.ref f)) (c : Says K) :
    ∃ fd : FuncData, (∀ (s : Shared) (v : Value), BindsTo s fd ⟨[v], []⟩ [("_law_script", v)]) ∧ ∀ base : Heap, FnOk P w K mg base CX0 10 f fd ["_law_script"] (spLaw K) := by
  obtain ⟨T, gl, Z⟩ := tx_of X G c.chk
  obtain ⟨fd, F⟩ := c.def_ 39 (d := dF "law" sLaw)
  have F : FnP K "law" sLaw (He.ga K "law") fd := F
  have e := hfa.symm.trans (gl "law" (by decide +kernel))
  cases e
  have b := FunD.bindsA (ps := ["_law_script"]) F fun _ _ _ _ _ _ us hl => match us, hl with | [_], _ => rfl
  exact ⟨fd, fun s v => b s [v] rfl, fun base => ok_law F (env_of c X G)⟩
end
end K2
end
section
set_option Elab.async false
set_option linter.all false
set_option maxRecDepth 100000
set_option maxHeartbeats 0
namespace K2
open PySem PySem.W PySem.Calls PyProof.Rows
abbrev R : OpenRow := OpenLaw.row PySem.Challenge.rw_gatequarters_k02_quarters_and_towns_kept
def n1 : List PySem.Str := ["GateError", "InvalidStreets", "InvalidGates", "InvalidQuarter", "InvalidTown", "InvalidName", "is_whole", "is_count", "is_word", "is_street", "are_streets", "check_streets", "are_gates", "check_gates", "Quarter", "Town", "check_quarter", "check_town", "ends_of", "crossings_of", "street_of", "places_of", "asked_of"]
def n2 : List PySem.Str := ["_law_purse", "_law_mixed", "_law_draw", "_law_purses", "_law_one_of", "_law_shuffled", "_law_exact", "_law_word", "_law_words", "_law_width", "_law_length", "_law_pair", "_law_shape", "_law_streets_of", "_law_world", "_law_quarter", "_law_town_world", "_law_ends", "_law_spots"]
def n3 : List PySem.Str := ["_law_quarter_right", "_law_town_right", "_law_others", "_law_unlike_right", "_law_quarter_law", "_law_turns_right", "_law_town_law", "_law_grown_right"]
def names : List PySem.Str := n1 ++ n2 ++ n3
abbrev qv : Program := view R.prog [54]
theorem run (w : World) : HandSHeadRun.RunEq R qv hk ob 12000 names w := by
  intro os
  kernel_rfl
end K2
end
section
open PySem PySem.W PySem.Calls PyProof.Rows
set_option Elab.async false
set_option linter.all false
set_option maxRecDepth 100000
set_option maxHeartbeats 0
theorem PySem.Challenge.cw_gatequarters_k02_quarters_and_towns_kept_holds : PySem.Challenge.rw_gatequarters_k02_quarters_and_towns_kept.Holds := by
  w_on; o_law
  refine HandSHeadRun.head_any (r := OpenLaw.row PySem.Challenge.rw_gatequarters_k02_quarters_and_towns_kept) (q := view (OpenLaw.row PySem.Challenge.rw_gatequarters_k02_quarters_and_towns_kept).prog [54]) (H := K2.hk) (ob := K2.ob) (M := 12000) (loose := K2.names) (d := HandSHeadRun.topDef (OpenLaw.row PySem.Challenge.rw_gatequarters_k02_quarters_and_towns_kept).prog 54) (kwd := []) K2.ob_eq
    (by kernel_rfl) (fun s => by kernel_rfl) K2.run (by kernel_rfl) (by kernel_rfl) (by kernel_rfl) (by rfl) (by first | assumption | decide +kernel) (by decide +kernel) ⟨rfl, rfl, rfl, rfl, rfl, by decide +kernel⟩ ?hw ?hc
  case hw => w_witness2
  case hc =>
    refine L2.walk_ofE (l := PySem.Challenge.rw_gatequarters_k02_quarters_and_towns_kept) (n := 63) (k := 10) (CX := L2.CX0) (x := "_law_script") rfl (by decide) (by kernel_rfl) ⟨rfl, by decide, by decide⟩ ?F (fun _ _ _ _ h => h)
    intro w mg fa h Y G hmg0
    obtain ⟨K, KX, c⟩ := Y
    have hmg : mg ("law" : PySem.Str) = some (.ref fa) := by
      have e : (HandSHeadRun.topDef (OpenLaw.row PySem.Challenge.rw_gatequarters_k02_quarters_and_towns_kept).prog 54).name = ("law" : PySem.Str) := by kernel_rfl
      rw [← e]
      exact hmg0
    obtain ⟨fd, hb, hF⟩ := K2.facts (P := (PySem.Challenge.rw_gatequarters_k02_quarters_and_towns_kept).prog) (w := w) KX G hmg c
    exact ⟨K, fd, K2.spLaw K, KX, hb, fun H a ns hl _ hS => ⟨a, ns, rfl, hS, fun _ => rfl⟩, fun base _ _ => hF base⟩
end
