import PyProof.Rows.All
import Wide.All
import OpenK.AllK
import Wide.FinOn
import HandS.ForMost
import HandS.Set
import HandS.SetBool
import HandS.SortRule
import HandS.SetFor
import HandS.SortInts
import HandS.Flow
import HandS.Style
import HandS.More
import HandS.MakeKw
import HandS.MakeKwOnly
import HandS.WideBits
import HandS.Defaults
import HandS.TupAny
import HandS.Codes
import HandS.IsInst
import PyProof.ListStr
import HandS.Conv
import HandS.Walk
import HandS.Zip
import PyProof.InstNe
import HandS.OwnEq
import HandS.Dict
import HandS.Deep
import HandS.RevTup
import HandS.Rev
import HandS.ForExc
import HandS.ExcInit
import HandS.ExcIs
import HandS.ExcField
import HandS.TryMany
import PyProof.EqKinds
import PyProof.EqAt
import KE.KStateDown
import HandS.Head0
import HandS.Head1
import HandS.Head2
import HandS.HeadEnd
import HandS.HeadHook1
import HandS.HeadHook2
import PySem.Challenge.RW_gatequarters_k04_whole_changes
section
set_option Elab.async false
set_option linter.all false
set_option maxRecDepth 100000
set_option maxHeartbeats 4000000
/-! sorted(l) of tuples whose first item is a text, no text twice. -/
namespace SrtX
open PySem PyProof.Rows Srt
open SrtO hiding Str
abbrev ltS (x y : Str) : Bool := decide (x.cps.toList < y.cps.toList)
theorem swo_str : Swo ltS := by
  refine ⟨fun x y h => ?_, fun x y z h1 h2 => ?_⟩
  · have a := of_decide_eq_true h
    exact decide_eq_false (fun b => List.lt_irrefl _ (List.lt_trans a b))
  · have a := List.not_lt.mp (of_decide_eq_false h1)
    have b := List.not_lt.mp (of_decide_eq_false h2)
    exact decide_eq_false (List.not_lt.mpr (List.le_trans a b))
theorem swo_by {α : Type} (k : α → Str) : Swo fun v u => ltS (k v) (k u) := ⟨fun x y => swo_str.asym (k x) (k y), fun x y z => swo_str.tr (k x) (k y) (k z)⟩
section
variable {prog : Program} {w : World} {A : Around} {E : Value → Shared → Prop} {s : Shared}
/-- v is a tuple whose first item is the text x -/
def IsTx (h : Heap) (v : Value) (x : Str) : Prop := ∃ a o t r n, v = .ref a ∧ h.get? a = some o ∧ o.cls = .type "tuple" ∧ o.data = .seq (.str x t :: r).toArray n
theorem IsTx.keeps {h h' : Heap} {v : Value} {x : Str} (p : IsTx h v x) (k : ∀ b o, h.get? b = some o → o.cls = .type "tuple" → h'.get? b = some o) : IsTx h' v x := by
  obtain ⟨a, o, t, r, n, e, ho, hc, hd⟩ := p
  exact ⟨a, o, t, r, n, e, k _ _ ho hc, hc, hd⟩
theorem kat_self {b fin : Bool} {Q : Bool → Shared → Prop} (h : Q fin s) : ∀ (l : List Value) (i : Nat), PySem.W.KatLex prog w A b fin Q (l.zip l) i s
  | [], _ => PySem.W.kat_nil h
  | v :: l, i => PySem.W.kat_cons (SeqAt.EqAt.same v prog w _ _ (PySem.W.kat_yes (kat_self h l (i + 1))))
theorem tx_cmp {vs : List Value} {k : Value → Str} (hp : ∀ v ∈ vs, IsTx s.heap v (k v)) (hu : ∀ v ∈ vs, ∀ u ∈ vs, k v = k u → v = u) : Cmp prog w A s (tuples' true) (fun p => p.1 ∈ vs) (lt2 fun v u => ltS (k v) (k u)) := by
  intro p q hm hm'
  show wpAny (model prog w) A (keyLt' (tuples' true) p.1 q.1) (fun r s' => s' = s ∧ r = ltS (k p.1) (k q.1)) (fun _ _ => False) s
  have h1 := hp _ hm
  have h2 := hp _ hm'
  by_cases e : k p.1 = k q.1
  · have ev := hu _ hm _ hm' e
    rw [← ev]
    obtain ⟨a, o, t, r, n, e1, ho, hc, hd⟩ := h1
    rw [e1]
    refine PySem.W.kat_lt ho hd ho hd (kat_self ⟨rfl, ?_⟩ _ 0)
    rw [decide_eq_false (Nat.lt_irrefl _)]
    exact (decide_eq_false (List.lt_irrefl _)).symm
  · generalize k p.1 = x at h1 e ⊢
    generalize k q.1 = y at h2 e ⊢
    obtain ⟨a, o, t, r, n, e1, ho, hc, hd⟩ := h1
    obtain ⟨a', o', t', r', n', e2, ho', hc', hd'⟩ := h2
    rw [e1, e2]
    refine PySem.W.kat_lt ho hd ho' hd' ?_
    show PySem.W.KatLex prog w A true _ _ ((Value.str x t, Value.str y t') :: r.zip r') 0 s
    refine PySem.W.kat_cons (SeqAt.EqAt.str_str x t y t' prog w _ _ ?_)
    refine PySem.W.kat_go (fun e3 => absurd (by simpa using e3) e) (fun e3 => ?_)
    exact PySem.W.kat_no (oneLt_str ⟨rfl, rfl⟩)
theorem firstsX_of {h : Heap} : ∀ {vs : List Value}, (∀ v ∈ vs, ∃ x, IsTx h v x) → ∃ fs : List Value, PySem.W.KatTups h vs fs ∧ fs.length = vs.length ∧ ∀ f ∈ fs, ∃ x t, f = Value.str x t
  | [], _ => ⟨[], PySem.W.KatTups.nil, rfl, fun _ hm => by simp at hm⟩
  | v :: vs, hp => by
    obtain ⟨fs, h1, h2, h3⟩ := firstsX_of (vs := vs) fun v' hm => hp v' (List.mem_cons_of_mem _ hm)
    obtain ⟨x, a, o, t, r, n, e, ho, hc, hd⟩ := hp v (List.mem_cons_self ..)
    subst e
    refine ⟨.str x t :: fs, PySem.W.KatTups.cons ho hc hd rfl h1, by rw [List.length_cons, List.length_cons, h2], fun f hm => ?_⟩
    rcases List.mem_cons.mp hm with rfl | hm
    · exact ⟨x, t, rfl⟩
    · exact h3 f hm
theorem tx_sortableO {a : Addr} {vs : List Value} {k : Value → Str} (h0 : 0 < vs.length) (hp : ∀ v ∈ vs, IsTx s.heap v (k v)) (hu : ∀ v ∈ vs, ∀ u ∈ vs, k v = k u → v = u) (ha : ∀ o, s.heap.get? a = some o → o.cls ≠ .type "tuple") : SortableO prog w A s a vs fun v u => ltS (k v) (k u) := by
  intro h' keep
  have hp' : ∀ v ∈ vs, IsTx h' v (k v) := fun v hm => (hp v hm).keeps fun b o e c => keep b o (fun z => by subst z; exact ha o e c) e
  obtain ⟨fs, h1, h2, h3⟩ := firstsX_of fun v hm => ⟨_, hp' v hm⟩
  refine ⟨tuples' true, fun Q E hq => ?_, tx_cmp hp' hu⟩
  refine PySem.W.kat_kind (T := .type "str") h1 (by omega) (fun f hm => ?_) (by rfl) ?_
  · obtain ⟨x, t, rfl⟩ := h3 f hm
    exact PySem.W.Looks.now
  · have e : (Value.type "str" != Value.type "tuple") = true := by first | decide +kernel | rfl | decide
    rw [e]
    exact hq
theorem sorted_txO {l : Addr} {vs : List Value} {k : Value → Str} {Q : Value → Shared → Prop} (hl : s.heap.IsList l vs.toArray) (hz : vs.length ≤ sizeLine) (hp : ∀ v ∈ vs, IsTx s.heap v (k v)) (hu : ∀ v ∈ vs, ∀ u ∈ vs, k v = k u → v = u)
    (h : ∀ (h' : Heap) (d : Addr) (out : List Value), Srtd (fun v u => ltS (k v) (k u)) out → Stb (fun v u => ltS (k v) (k u)) out vs → (∀ b o, s.heap.get? b = some o → h'.get? b = some o) → s.heap.objs.size ≤ d → (∃ n, h'.get? d = some (seqObj "list" out.toArray n)) → Q (.ref d) { s with heap := h' }) :
    wpAny (model prog w) A (call (.builtin "sorted") [.ref l]) Q E s := by
  refine sorted_ord (swo_by k) hl hz (fun h2 h₁ a ha kk => ?_) fun out hs hb => ?_
  · refine tx_sortableO (s := { s with heap := h₁ }) (by omega) (fun v hm => (hp v hm).keeps fun b o e _ => (kk b o e).2) hu fun o e => ?_
    have e' : some o = some (seqObj "list" vs.toArray 0) := e.symm.trans ha
    cases e'
    intro c
    exact absurd (Value.type.inj c) (by decide)
  · exact h _ _ out hs hb (fun b o e => sortedAll_old e) (Nat.le_succ _) (sortedAll_at s.heap vs out.toArray)
end
end SrtX
namespace L2
open PySem PySem.Spec PyProof.Rows
/-- sorted(xs), xs a list of tuples with a text first, no such text twice: a new list, ascending by these texts -/
def rSortedTx (K : PySem.W.Frag) : List V → Hp → VK → Prop := fun vs H Q => ∃ (a : Addr) (xs : List V) (k : V → Str), vs = [V.ref a] ∧ SqL K H a xs ∧ (∀ x ∈ xs, ∃ t r, x = V.ref t ∧ SqT K H t (V.str (k x) :: r)) ∧ (∀ x ∈ xs, ∀ y ∈ xs, k x = k y → x = y) ∧
  ∀ ys p, ys.Perm xs → ys.Pairwise (fun x y => SrtX.ltS (k y) (k x) = false) → H p = none → Q (.ref p) (upd H p (.lst ys))
section
variable {X : Cx}
theorem cr_sortedTx : CallR X (.builtin "sorted") (rSortedTx X.K) := by
  intro pins s σ H vs us Q I r h
  obtain ⟨a, xs, k, rfl, hs, hx, hu, q⟩ := h
  obtain ⟨its, rv, hl, hz⟩ := I.list hs
  obtain ⟨u, rfl, ru⟩ := vals1 r
  obtain rfl : u = Value.ref a := ru
  obtain ⟨e1, e2⟩ := refs_back rv fun x m => by
    obtain ⟨t, _, e, _⟩ := hx x m
    exact ⟨t, e⟩
  refine SrtX.sorted_txO (k := fun u => k (backV u)) hl.isList (by rw [← rv.length]; exact hz) (fun v hv => ?_) (fun v hv u hu2 e => ?_) fun h' d out h1 h2 kp hd hn => ?_
  · obtain ⟨t, rfl⟩ := e2 v hv
    have hm : V.ref t ∈ xs := by rw [e1]; exact List.mem_map.mpr ⟨_, hv, rfl⟩
    obtain ⟨t', r', e, ht⟩ := hx _ hm
    cases e
    obtain ⟨its2, r2, ⟨o, ho, hc, n, hd⟩, _⟩ := I.tuple ht
    cases r2 with
    | cons h1 h2 =>
      obtain ⟨tk, rfl⟩ := h1
      exact ⟨t, o, tk, _, n, rfl, ho, hc, hd⟩
  · obtain ⟨t, rfl⟩ := e2 v hv
    obtain ⟨t', rfl⟩ := e2 u hu2
    have hm : V.ref t ∈ xs := by rw [e1]; exact List.mem_map.mpr ⟨_, hv, rfl⟩
    have hm' : V.ref t' ∈ xs := by rw [e1]; exact List.mem_map.mpr ⟨_, hu2, rfl⟩
    cases hu _ hm _ hm' e
    rfl
  · have h3 : ∀ u ∈ out, ∃ a, u = Value.ref a := fun u hu => e2 u (h2.perm.mem_iff.mp hu)
    obtain ⟨n, hn⟩ := hn
    have hb : SrtO.Stb (fun x y => SrtX.ltS (k x) (k y)) (out.map backV) xs := by
      rw [e1]
      exact SrtO.Stb.map (SrtX.swo_by k) backV h2
    refine ⟨.ref d, upd H d (.lst (out.map backV)), I.laid (t' := s.toks) kp hd ⟨?_, out, n, vals_back h3, hn⟩, rfl, q _ d hb.perm (SrtO.srtd_map h1) (I.hok.fresh hd)⟩
    rw [hb.len]
    exact hz
end
end L2
end
section
set_option Elab.async false
set_option linter.all false
set_option maxRecDepth 100000
set_option maxHeartbeats 4000000
/-! Sets of texts, told by the list of their members (up to order). -/
namespace TxSet
open PySem PySem.Spec PyProof.Rows L2
def keyT (e : Int × Value) : Str := match e.2 with
  | .str k _ => k
  | _ => ⟨#[]⟩
def GoodT (w : World) (e : Int × Value) : Prop := ∃ k t, e = (hashStr w k, Value.str k t)
/-- at a stands a set whose members are L, none twice, in some order -/
def SetT (w : World) (h : Heap) (a : Addr) (L : List Str) : Prop := ∃ o es ep t, h.get? a = some o ∧ o.ExactSet ∧ o.data = .set es ep t ∧ (∀ e ∈ es.toList, GoodT w e) ∧ (es.toList.map keyT).Perm L ∧ L.Nodup ∧
  es.size < scanBound ∧ t.fits es.size = true ∧ Ris t.place.toList ∧ (w.params.followText "set-order" = true ∨ t.led = true)
section
variable {P : Program} {w : World} {h h' : Heap} {a : Addr} {L L' : List Str}
theorem SetT.at (R : SetT w h a L) (k : ∀ o, h.get? a = some o → h'.get? a = some o) : SetT w h' a L := by
  obtain ⟨o, es, ep, t, ho, r⟩ := R
  exact ⟨o, es, ep, t, k o ho, r⟩
theorem SetT.perm (R : SetT w h a L) (p : L.Perm L') : SetT w h a L' := by
  obtain ⟨o, es, ep, t, ho, hx, hd, g, m, nd, r⟩ := R
  exact ⟨o, es, ep, t, ho, hx, hd, g, m.trans p, p.nodup_iff.mp nd, r⟩
theorem elems_good {l : List (Int × Value)} (g : ∀ e ∈ l, GoodT w e) : ElemsOf (strKind P w) l := fun e he => by
  obtain ⟨k, t, rfl⟩ := g e he
  exact ⟨⟨k, strKind_is P w k t, rfl⟩, rfl⟩
theorem is_key {e : Int × Value} (g : GoodT w e) (k : Str) : (strKind P w).is k e.2 = true ↔ keyT e = k := by
  obtain ⟨c, t, rfl⟩ := g
  refine ⟨fun q => ?_, fun q => by rw [← q]; exact strKind_is P w c t⟩
  have q' : Value.isStrOf k (Value.str c t) = true := q
  obtain ⟨u, e⟩ := Value.isStrOf_shape q'
  exact (Value.str.inj e).1
theorem found_iff {l : List (Int × Value)} (g : ∀ e ∈ l, GoodT w e) (k : Str) : (∃ e ∈ l, (strKind P w).is k e.2 = true) ↔ k ∈ l.map keyT := by
  rw [List.mem_map]
  exact ⟨fun ⟨e, he, q⟩ => ⟨e, he, (is_key (g e he) k).1 q⟩, fun ⟨e, he, q⟩ => ⟨e, he, (is_key (g e he) k).2 q⟩⟩
theorem SetT.size_eq (R : SetT w h a L) : ∃ o es ep t, h.get? a = some o ∧ o.ExactSet ∧ o.data = .set es ep t ∧ es.size = L.length ∧ t.fits es.size = true := by
  obtain ⟨o, es, ep, t, ho, hx, hd, g, m, nd, hb, hf, _⟩ := R
  exact ⟨o, es, ep, t, ho, hx, hd, by rw [← Array.length_toList, ← m.length_eq, List.length_map], hf⟩
end
section
variable {P : Program} {w : World} {A : Around} {E : Value → Shared → Prop} {s : Shared} {a : Addr} {L : List Str}
theorem put_at {h : Heap} {o : Obj} {es es' : Array (Int × Value)} {ep : Nat} {t t' : SetTable} (ho : h.get? a = some o) (hd : o.data = .set es ep t) : (h.update a (Obj.putSet es' t')).get? a = some { o with data := .set es' (ep + 1) t' } := by
  have e := putSet_of es' t' hd
  have q := Heap.get?_update_self (Obj.putSet es' t') ho (by rw [e]; rfl)
  rw [e] at q
  exact q
/-- what a set's add does behind the search: the table is stored, laid anew where it is too full -/
theorem store_then {g : Bool → Sem Unit} (hg : ∀ (b : Bool) (s₁ : Shared) (Q' : Unit → Shared → Prop), Q' () s₁ → wpAny (model P w) A (g b) Q' E s₁) {o : Obj} {es es1 : Array (Int × Value)} {ep : Nat} {t t2 : SetTable} {wd : Bool} {L' : List Str} {R : Option Bool → Shared → Prop}
    (ho : s.heap.get? a = some o) (hex : o.ExactSet) (hd : o.data = .set es ep t) (hs : (∀ e ∈ es1.toList, GoodT w e) ∧ (es1.toList.map keyT).Perm L' ∧ L'.Nodup ∧ es1.size < scanBound)
    (ht : t2.fits es1.size = true ∧ Ris t2.place.toList ∧ (w.params.followText "set-order" = true ∨ t2.led = true)) (hR : ∀ h', Heap.SameBut a s.heap h' → SetT w h' a L' → R (some true) { s with heap := h' }) :
    wpAny (model P w) A (do
        storeSet a es1 t2
        if (!wd && t2.tooFull) = true then do
            g (relayAll t2 es1 (SetTable.grown es1.size)).2.2
            storeSet a (relayAll t2 es1 (SetTable.grown es1.size)).1 (relayAll t2 es1 (SetTable.grown es1.size)).2.1
            pure (some true)
          else pure (some true)) R E s := by
  obtain ⟨g1, m1, nd, b1⟩ := hs
  obtain ⟨f1, r1, l1⟩ := ht
  refine wpAny_bind (wpAny_storeSet_of ho hd ?_ (fits_of_scanBound b1))
  have o1 := put_at (es' := es1) (t' := t2) ho hd
  have k1 := Heap.SameBut.update s.heap a (Obj.putSet es1 t2)
  split
  · have p3 := relayAll_perm t2 es1 (SetTable.grown es1.size)
    have f3 := relayAll_fits t2 es1 (SetTable.grown es1.size)
    have r3 := relayAll_ris t2 es1 (SetTable.grown es1.size)
    have l3 := relayAll_led t2 es1 (SetTable.grown es1.size)
    generalize relayAll t2 es1 (SetTable.grown es1.size) = Z at p3 f3 r3 l3 ⊢
    have b3 : Z.1.size < scanBound := by rw [← Array.length_toList, p3.length_eq, Array.length_toList]; exact b1
    refine wpAny_bind (hg _ _ _ (wpAny_bind (wpAny_storeSet_of o1 rfl ?_ (fits_of_scanBound b3))))
    exact wpAny_pure (hR _ (k1.trans (Heap.SameBut.update _ a _)) ⟨_, Z.1, _, Z.2.1, put_at (es' := Z.1) (t' := Z.2.1) o1 rfl, hex, rfl, fun e he => g1 e (p3.mem_iff.mp he), (p3.map keyT).trans m1, nd, b3, f3, r3, l1.imp id fun z => l3.trans z⟩)
  · exact wpAny_pure (hR _ k1 ⟨_, es1, _, t2, o1, hex, rfl, g1, m1, nd, b1, f1, r1, l1⟩)
theorem add_hashed {k : Str} {tk : Tok} {Q : Bool → Shared → Prop} (R : SetT w s.heap a L) (room : L.length + 1 < scanBound)
    (hQ : ∀ h' b, Heap.SameBut a s.heap h' → SetT w h' a (if k ∈ L then L else k :: L) → Q b { s with heap := h' }) : wpAny (model P w) A (setAddHashed a (.str k tk) ((strKind P w).hash k)) Q E s := by
  have R0 := R
  obtain ⟨o, es, ep, t, ho, hex, hd, g, m, nd, hb, hf, hr, hl⟩ := R
  have hel : ElemsOf (strKind P w) es.toList := elems_good g
  have hsc : (Value.str k tk).scannable = true := rfl
  unfold setAddHashed setAddHashedIn
  refine wpAny_holding (wpAny_bind (wpAny_setState_of ho hd hf ?_))
  dsimp only
  rw [byScan_of hsc hb hel]
  simp only [↓reduceIte]
  unfold setAddByScan
  refine wpAny_bind ?_
  refine wpAny_bind (wpAny_rule ?_)
  refine wpAny_bind (wpAny_setScan_of (strKind_is P w k tk) ho hd hf hel ?_)
  cases hfi : List.findIdx? (fun e => (strKind P w).is k e.2) es.toList with
  | some j =>
    dsimp only
    obtain ⟨hj, pj, _⟩ := List.findIdx?_eq_some_iff_getElem.mp hfi
    have hk : k ∈ L := m.mem_iff.mp ((found_iff g k).1 ⟨_, List.getElem_mem hj, pj⟩)
    refine wpAny_pure (wpAny_pure (hQ s.heap _ (Heap.SameBut.refl a s.heap) ?_))
    rw [if_pos hk]
    exact R0
  | none =>
    dsimp only
    have hk : k ∉ L := fun z => by
      obtain ⟨e, he, q⟩ := (found_iff (P := P) g k).2 (m.mem_iff.mpr z)
      exact absurd q (by rw [List.findIdx?_eq_none_iff.mp hfi e he]; exact Bool.false_ne_true)
    rw [if_neg hk] at hQ
    have give : ∀ (b : Bool) {s₁ : Shared} {Q' : Unit → Shared → Prop}, Q' () s₁ → wpAny (model P w) A (match b with | true => rule "set.scan.the-table-gave-way" | false => pure ()) Q' E s₁ := fun b s₁ Q' q => match b with
      | true => wpAny_rule q
      | false => wpAny_pure q
    have p1 := layNew_perm t es ((strKind P w).hash k) (.str k tk)
    have f1 := layNew_fits t es ((strKind P w).hash k) (.str k tk)
    have r1 := layNew_ris t es ((strKind P w).hash k) (.str k tk) hr
    have l1 := layNew_led t es ((strKind P w).hash k) (.str k tk)
    generalize layNew t es ((strKind P w).hash k) (.str k tk) = Z at p1 f1 r1 l1 ⊢
    obtain ⟨es1, t1, wd, gv⟩ := Z
    dsimp only at p1 f1 r1 l1 ⊢
    rw [Array.toList_push] at p1
    have hs : (∀ e ∈ es1.toList, GoodT w e) ∧ (es1.toList.map keyT).Perm (k :: L) ∧ (k :: L).Nodup ∧ es1.size < scanBound := by
      refine ⟨fun e he => ?_, ?_, List.nodup_cons.mpr ⟨hk, nd⟩, ?_⟩
      · rcases List.mem_append.mp (p1.mem_iff.mp he) with z | z
        · exact g e z
        · exact ⟨k, tk, List.mem_singleton.mp z⟩
      · refine (p1.map keyT).trans ?_
        rw [List.map_append]
        exact (List.perm_append_singleton _ _).trans (m.cons _)
      · rw [← Array.length_toList, p1.length_eq, List.length_append, ← List.length_map (f := keyT), m.length_eq]
        exact room
    have ld : w.params.followText "set-order" = true ∨ t1.led = true := hl.imp id fun z => by rw [l1]; exact z
    refine wpAny_bind (give _ ?_)
    split
    · refine wpAny_bind ?_
      rw [hashByValue_scannable 8 hsc]
      refine wpAny_pure (store_then (fun b s₁ Q' q => give b q) ho hex hd hs ⟨?_, ?_, ?_⟩ fun h' sb r => ?_)
      · first | (split <;> first | exact f1 | exact SetTable.fits_plain_off f1) | exact f1
      · first | (split <;> exact r1) | exact r1
      · first | (split <;> exact ld) | exact ld
      · dsimp only
        exact wpAny_pure (hQ h' _ sb r)
    · refine wpAny_bind (wpAny_pure ?_)
      simp only [↓reduceIte]
      refine store_then (fun b s₁ Q' q => give b q) ho hex hd hs ⟨f1, r1, ld⟩ fun h' sb r => ?_
      dsimp only
      exact wpAny_pure (hQ h' _ sb r)
/-- a.add(k) -/
theorem add_ok {k : Str} {tk : Tok} {Q : Value → Shared → Prop} (R : SetT w s.heap a L) (room : L.length + 1 < scanBound)
    (hQ : ∀ h', Heap.SameBut a s.heap h' → SetT w h' a (if k ∈ L then L else k :: L) → Q .none { s with heap := h', toks := s.toks + 1 }) : wpAny (model P w) A (call (.builtin "set.add") [.ref a, .str k tk]) Q E s := by
  have hT : s.TypeIs (.ref a) "set" := by
    obtain ⟨o, es, ep, t, ho, hex, _⟩ := R
    exact ⟨o, ho, hex.1⟩
  refine wpAny_call_entry F.slot_set_add hT F.entry_set_add ?_ (F.args_set_add_2 _ _)
  unfold Builtin.«set.add» Builtin.Frozenset.oneOther
  simp only [List.isEmpty_nil, bind_assoc]
  unfold Builtin.Frozenset.addrOf setAdd
  refine wpAny_bind (wpAny_pure ?_)
  try dsimp only
  refine wpAny_bind (wpAny_pure ?_)
  try dsimp only
  refine wpAny_bind (wpAny_holding (wpAny_bind ((strKind P w).pyHash (strKind_is P w k tk) ?_)))
  refine add_hashed (s := { s with toks := s.toks + 1 }) R room fun h' b sb r => ?_
  show wpAny _ _ (ret Value.none) _ _ _
  exact wpAny_pure ⟨_, rfl, hQ h' sb r⟩
theorem fresh_set {h : Heap} (w : World) : SetT w (h.push { cls := .type "set", dict := none, data := .set #[] 0 (.fresh 0 0 (!w.params.followText "set-order")) }) h.objs.size [] := by
  refine ⟨_, #[], 0, _, Heap.get?_push_size _ rfl, ⟨rfl, rfl, rfl⟩, rfl, fun e he => by simp at he, List.Perm.refl _, List.nodup_nil, by decide, by rfl, List.Pairwise.nil, ?_⟩
  cases e : w.params.followText "set-order" with
  | true => exact Or.inl rfl
  | false => exact Or.inr rfl
end
end TxSet
end
section
set_option Elab.async false
set_option linter.all false
set_option maxRecDepth 100000
set_option maxHeartbeats 4000000
namespace TxSet
open PySem PySem.Spec PyProof.Rows L2
/-- one member more -/
def addL (L : List Str) (k : Str) : List Str := if k ∈ L then L else k :: L
theorem addL_mem {L : List Str} {k j : Str} : j ∈ addL L k ↔ j ∈ L ∨ j = k := by
  unfold addL
  split
  · rename_i h
    exact ⟨Or.inl, fun z => z.elim id fun e => by rw [e]; exact h⟩
  · rw [List.mem_cons]
    exact Or.comm
theorem addL_len (L : List Str) (k : Str) : (addL L k).length ≤ L.length + 1 := by
  unfold addL
  split <;> simp
theorem fold_mem {j : Str} : ∀ {ks L : List Str}, j ∈ ks.foldl addL L ↔ j ∈ L ∨ j ∈ ks
  | [], L => by simp
  | k :: ks, L => by
    rw [List.foldl_cons, fold_mem, addL_mem, List.mem_cons, or_assoc]
theorem fold_fresh : ∀ {ks L : List Str}, (ks ++ L).Nodup → (ks.foldl addL L).length = ks.length + L.length
  | [], L, _ => by simp
  | k :: ks, L, h => by
    rw [List.cons_append, List.nodup_cons] at h
    have hk : k ∉ L := fun z => h.1 (List.mem_append_right _ z)
    have e : addL L k = k :: L := if_neg hk
    rw [List.foldl_cons, e, fold_fresh]
    · simp only [List.length_cons]
      omega
    · refine (List.perm_middle.nodup_iff).mpr ?_
      exact List.nodup_cons.mpr h
section
variable {P : Program} {w : World} {A : Around} {E : Value → Shared → Prop} {s : Shared} {a : Addr} {L : List Str}
/-- set.update's own loop over texts -/
theorem update_txt {I S : Addr} {fp wr : List Addr} {G : Array GenState → Array GenState → Prop} {n : Nat} {Pv : Nat → Value → Prop} {St : Nat → Shared → Prop} {R : Result → Shared → Prop} {ks : List Str}
    (W : WalksS P w A.in1 I fp wr G n Pv St) (hSf : S ∉ fp) (hn : n = ks.length) (hb : n + 1 < scanBound) (hval : ∀ i v, Pv i v → ∃ k t, ks[i]? = some k ∧ v = .str k t) :
    ∀ (m i : Nat) (L : List Str) (s : Shared), n - i = m → i ≤ n → L.length ≤ i → St i s → SetT w s.heap S L → (∀ s', Moved (S :: wr) G s s' → SetT w s'.heap S ((ks.drop i).foldl addL L) → R (.ok (.ret .none)) s') →
      codeAny (model P w) A (.builtin "set.update.loop" ⟨[.ref S, .ref I], []⟩) R s := by
  have nw : S ∉ wr := fun h => hSf (W.sub _ h)
  have up : ∀ b ∈ wr, b ∈ S :: wr := fun b hb => List.mem_cons_of_mem _ hb
  intro m
  induction m with
  | zero =>
    intro i L s hm hi hl hst hS hR
    have ei : i = n := by omega
    refine codeAny_builtin F.entry_set_update_loop ?_
    rw [Around.under_plainId F.plain_set_update_loop _]
    show wpAny _ A.in1 (pyNext (.ref I) >>= _) _ _ s
    rw [ei] at hst hR
    refine wpAny_bind (W.done s _ _ hst fun s' mv => ?_)
    show wpAny _ A.in1 (ret Value.none) _ _ s'
    refine wpAny_pure (hR s' (mv.mono up) ?_)
    rw [List.drop_of_length_le (by omega)]
    exact hS.at fun o e => mv.heap S o nw e
  | succ m ih =>
    intro i L s hm hi hl hst hS hR
    have lt : i < n := by omega
    refine codeAny_builtin F.entry_set_update_loop ?_
    rw [Around.under_plainId F.plain_set_update_loop _]
    show wpAny _ A.in1 (pyNext (.ref I) >>= _) _ _ s
    refine wpAny_bind (W.item i s _ _ lt hst fun v s' hP hst' mv => ?_)
    obtain ⟨k, t, hk, rfl⟩ := hval i v hP
    have hS' : SetT w s'.heap S L := hS.at fun o e => mv.heap S o nw e
    show wpAny _ A.in1 (holding [Value.str k t] (setAdd S (.str k t)) >>= _) _ _ s'
    unfold setAdd
    refine wpAny_bind (wpAny_holding (wpAny_holding (wpAny_bind ((strKind P w).pyHash (strKind_is P w k t) ?_))))
    refine add_hashed (s := { s' with toks := s'.toks + 1 }) hS' (by omega) fun h' b sb h2 => ?_
    have e : ks.drop i = k :: ks.drop (i + 1) := by
      obtain ⟨h1, h3⟩ := List.getElem?_eq_some_iff.mp hk
      rw [← h3]
      exact List.drop_eq_getElem_cons h1
    rw [e, List.foldl_cons] at hR
    have oth : ∀ b o, b ≠ S → s'.heap.get? b = some o → h'.get? b = some o := fun b o hb e => (sb.2 b hb).trans e
    refine wpAny_pure ⟨plainId_quiet F.plain_set_update_loop _, ih (i + 1) (addL L k) _ (by omega) lt (by have := addL_len L k; omega) (W.frame _ s' _ _ hst' (Nat.le_succ _) fun b hb o e => oth b o (fun z => hSf (by rw [← z]; exact hb)) e) h2 fun s2 m2 z => hR s2 ?_ z⟩
    exact Moved.trans W.gtrans ((mv.mono up).then_heap (Nat.le_succ _) fun b o hb e => oth b o (fun z => hb (by rw [z]; exact List.mem_cons_self)) e) m2
abbrev freshO (w : World) : Obj := { cls := .type "set", dict := none, data := .set #[] 0 (.fresh 0 0 (!w.params.followText "set-order")) }
/-- set(xs), a list of texts -/
theorem call_set_txt {l : Addr} {items : Array Value} {ks : List Str} {Q : Value → Shared → Prop} (hh : A.handled = none) (hl : s.heap.IsList l items) (hz : items.size = ks.length) (hit : ∀ (i : Nat) (v : Value), items[i]? = some v → ∃ k t, ks[i]? = some k ∧ v = Value.str k t) (hb : ks.length + 1 < scanBound)
    (h : ∀ (h' : Heap) (tk : Nat), SetT w h' s.heap.objs.size (ks.foldl addL []) → (∀ b o, s.heap.get? b = some o → h'.get? b = some o) → Q (.ref s.heap.objs.size) { s with heap := h', toks := tk }) : wpAny (model P w) A (call (.type "set") [.ref l]) Q E s := by
  obtain ⟨c, tl, hmro⟩ := F.called_set.mro
  have hmade := F.called_set.made
  have hsub := F.called_set.sub
  refine wpAny_call (codeAny_of_tree ?_)
  show wpAny _ _ (callAny (.type "set") _) _ _ _
  refine wpAny_pure ⟨Code.quiet_builtin _ (by decide +kernel), codeAny_builtin F.entry_type_call ?_⟩
  rw [Around.under_plain (weight_type_call_type "set" [.ref l] []) rfl]
  have h1 := F.called_set.notType
  have h2 := F.called_set.canCreate
  have hct := F.typeCall_set_1 (.ref l)
  repeat (any_goals (first | assumption | wp_step))
  refine codeAny_mono (code_set_led1 (.ref l) (E := E) (Q₁ := fun obj s₁ => obj = .ref s.heap.objs.size ∧ s₁ = { s with heap := s.heap.push (freshO w) }) ⟨rfl, rfl⟩) fun r s₁ hr => ?_
  rcases r with e | (obj | _ | _ | _) <;> first | exact hr | exact hr.elim | skip
  obtain ⟨rfl, rfl⟩ := hr
  have hS : (s.heap.push (freshO w)).get? s.heap.objs.size = some (freshO w) := Heap.get?_push_size _ rfl
  have hT : Shared.TypeIs { s with heap := s.heap.push (freshO w) } (.ref s.heap.objs.size) "set" := ⟨_, hS, rfl⟩
  have hli := F.called_set.init.lookup
  have hbi := F.called_set.init.bind (.ref s.heap.objs.size)
  repeat (any_goals (first | assumption | wp_step))
  refine codeAny_mono (codeAny_call_builtin (R := wants (fun r s₂ => r = .none ∧ ∃ h' tk, s₂ = { s with heap := h', toks := tk } ∧ SetT w h' s.heap.objs.size (ks.foldl addL []) ∧ (∀ b o, s.heap.get? b = some o → h'.get? b = some o)) E) F.called_set.init.plain F.entry_set_init (check_set_init_1 hT ?_)) fun r₂ s₂ hr₂ => ?_
  · obtain ⟨ol, hol, hcl, nl, hdl⟩ := hl
    obtain ⟨ocls, odict, odata, oslots⟩ := ol
    simp only at hcl hdl
    subst hcl hdl
    have hol' : (s.heap.push (freshO w)).get? l = some { cls := .type "list", dict := odict, data := .seq items nl, slots := oslots } := Heap.get?_push_of_some _ hol
    have hsls := F.sub_list_set
    have hslf := F.sub_list_frozenset
    have hne : (Value.type "list" == Value.type "dict") = false := by decide
    have hl1 : (s.heap.push (freshO w)).IsList l items := ⟨_, hol', rfl, nl, rfl⟩
    unfold Builtin.«set.__init__» noKeywords Builtin.Frozenset.updateFrom
    generalize hPI : pyIter = PI
    wp_walk
    subst hPI
    refine wpAny_pyIter_list hl1 (wpAny_bind (wpAny_runValue ?_))
    have hh3 : A.in1.in1.in1.handled = none := by simp [hh]
    have hz1 : (s.heap.push (freshO w)).objs.size = s.heap.objs.size + 1 := Heap.size_push ..
    have ll : l < s.heap.objs.size := Heap.lt_size hol
    have hneI : l ≠ (s.heap.push (freshO w)).objs.size := fun z => Nat.ne_of_lt (Nat.lt_succ_of_lt ll) (z.trans hz1)
    have hSf : s.heap.objs.size ∉ [(s.heap.push (freshO w)).objs.size, l] := fun z => by
      rcases List.mem_cons.mp z with z | z
      · exact Nat.ne_of_lt (Nat.lt_succ_self _) (z.trans hz1)
      · exact Nat.ne_of_gt ll (List.mem_singleton.mp z)
    refine update_txt ((Walks.list hh3 _ l hneI items).toS) hSf hz (by omega) hit (items.size - 0) 0 [] _ (by omega) (Nat.zero_le _) (Nat.le_refl _) ⟨⟨_, Heap.get?_push_size _ rfl, rfl, rfl⟩, (hl1.push _)⟩ ?hS0 ?hR
    case hS0 => exact (fresh_set w).at fun o e => Heap.get?_push_of_some _ e
    case hR =>
      intro s' mv z
      obtain ⟨h', g2, d', tk', os'⟩ := s'
      obtain rfl : g2 = s.gens := mv.gens
      obtain rfl : d' = s.drawn := mv.drawn
      obtain rfl : os' = s.os := mv.os
      show wpAny _ _ _ _ _ _
      refine wpAny_pure ?_
      show wpAny _ _ (ret Value.none) _ _ _
      refine wpAny_pure ⟨rfl, h', tk', rfl, z, fun b o e => ?_⟩
      have lb := Heap.lt_size e
      refine mv.heap b o (fun z => ?_) (Heap.get?_push_of_some _ (Heap.get?_push_of_some _ e))
      rcases List.mem_cons.mp z with z | z
      · exact Nat.ne_of_lt lb z
      · exact Nat.ne_of_lt (Nat.lt_succ_of_lt lb) ((List.mem_singleton.mp z).trans hz1)
  · rcases r₂ with e | (r | _ | _ | _) <;> first | exact hr₂ | exact hr₂.elim | skip
    obtain ⟨rfl, h', tk, rfl, z, k⟩ := hr₂
    repeat (any_goals (first | assumption | wp_step))
    exact h _ _ z k
end
end TxSet
namespace SrtX
open PySem PyProof.Rows Srt
open SrtO hiding Str
section
variable {prog : Program} {w : World} {A : Around} {E : Value → Shared → Prop} {s : Shared}
abbrev tx (v : Value) : Str := TxSet.keyT (0, v)
theorem txt_cmp {vs : List Value} (hI : ∀ v ∈ vs, ∃ k t, v = Value.str k t) : Cmp prog w A s oneType' (fun p => p.1 ∈ vs) (lt2 fun v u => ltS (tx v) (tx u)) := by
  intro p q hm hm'
  obtain ⟨a, t, e⟩ := hI _ hm
  obtain ⟨b, u, e'⟩ := hI _ hm'
  show wpAny (model prog w) A (keyLt' oneType' p.1 q.1) (fun r s' => s' = s ∧ r = ltS (tx p.1) (tx q.1)) (fun _ _ => False) s
  rw [e, e', keyLt'_oneType]
  exact oneLt_str ⟨rfl, rfl⟩
theorem strs_of : ∀ {vs : List Value}, (∀ v ∈ vs, ∃ k t, v = Value.str k t) → StrsAre vs (vs.map tx)
  | [], _ => .nil
  | v :: vs, h => by
    obtain ⟨k, t, e⟩ := h v List.mem_cons_self
    subst e
    exact .cons k t (strs_of fun u hu => h u (List.mem_cons_of_mem _ hu))
theorem txt_sortable {a : Addr} {vs : List Value} (hI : ∀ v ∈ vs, ∃ k t, v = Value.str k t) (h2 : 2 ≤ vs.length) : SortableO prog w A s a vs fun v u => ltS (tx v) (tx u) := by
  intro h' _
  refine ⟨oneType', fun Q E hq => ?_, txt_cmp hI⟩
  match vs, hI, h2 with
  | v1 :: v2 :: rest, hI, _ =>
    rw [keyKind_strs (strs_of hI)]
    exact wpAny_pure hq
  | [], _, h => exact absurd h (by decide)
  | [v], _, h => exact absurd h (by simp)
end
end SrtX
end
section
set_option Elab.async false
set_option linter.all false
set_option maxRecDepth 100000
set_option maxHeartbeats 4000000
namespace TxSet
open PySem PySem.Spec PyProof.Rows L2
theorem fits_scan {n : Nat} (h : n < scanBound) : n ≤ sizeLine := fits_of_scanBound h
end TxSet
namespace SrtX
open PySem PyProof.Rows Srt
open SrtO hiding Str
/-- ascending texts -/
abbrev Asc (l : List Str) : Prop := l.Pairwise fun x y => ltS y x = false
section
variable {P : Program} {w : World} {A : Around} {E : Value → Shared → Prop} {s : Shared} {a : Addr} {L : List Str}
/-- sorted(s) of a set of texts -/
theorem sorted_set_txt {Q : Value → Shared → Prop} (R : TxSet.SetT w s.heap a L) (hh : A.handled = none)
    (hQ : ∀ s' p (out : List Value) (c : Nat), (∀ b o, s.heap.get? b = some o → s'.heap.get? b = some o) → s'.gens = s.gens → s'.os = s.os → s.heap.objs.size ≤ p → s'.heap.get? p = some (seqObj "list" out.toArray c) →
      (∀ v ∈ out, ∃ k t, v = Value.str k t) → (out.map tx).Perm L → Asc (out.map tx) → Q (.ref p) s') : wpAny (model P w) A (call (.builtin "sorted") [.ref a]) Q E s := by
  obtain ⟨o, es, ep, t, ho, hex, hd, g, m, nd, hb, hf, hr, hl⟩ := R
  refine Calls.call_function_entry kind_sorted plain_sorted entry_sorted (args_sorted1 _) ?_
  unfold Builtin.«sorted»
  refine wpAny_bind (m := checkCount "sorted" 1 1 _) (wpAny_pure (wpAny_bind (L2.collect_set (A := A.in1) hh ⟨o, ho, hex.1, hd⟩ hf hb hr hl fun s1 vs k1 hz g1 o1 pm => ?_)))
  have hlen : vs.length ≤ sizeLine := by
    rw [pm.length_eq, List.length_map, Array.length_toList]
    exact TxSet.fits_scan hb
  have hI : ∀ v ∈ vs, ∃ k t, v = Value.str k t := fun v hv => by
    obtain ⟨e, he, q⟩ := List.mem_map.mp (pm.mem_iff.mp hv)
    obtain ⟨k, t, rfl⟩ := g e he
    exact ⟨k, t, q.symm⟩
  have pk : (vs.map tx).Perm L := by
    have q := pm.map tx
    rw [List.map_map] at q
    exact q.trans m
  refine wpAny_bind (wpAny_newList ?_ hlen)
  have hoL : (s1.heap.push (seqObj "list" vs.toArray 0)).get? s1.heap.objs.size = some (seqObj "list" vs.toArray 0) := Heap.get?_push_size _ rfl
  refine wpAny_bind (wpAny_holding (wpAny_call_entry slot_list_sort ⟨_, hoL, rfl⟩ entry_list_sort (list_sort_ord (swo_by tx) hoL hlen (fun h2 => txt_sortable hI h2) fun out hs hbt => ⟨_, rfl, ?_⟩) (args_list_sort _)))
  obtain ⟨c, hc⟩ := sortedHeap_at (vs := vs) (out := out.toArray) hoL
  refine wpAny_pure ⟨_, rfl, hQ _ s1.heap.objs.size out c (fun b u e => ?_) g1 o1 hz hc (fun v hv => hI v (hbt.perm.mem_iff.mp hv)) ((hbt.perm.map tx).trans pk) (SrtO.srtd_map hs)⟩
  have q := k1 b u e
  have lt := Heap.lt_size q
  show (sortedHeap (s1.heap.push (seqObj "list" vs.toArray 0)) s1.heap.objs.size vs out.toArray).get? b = some u
  rw [sortedHeap_old (Nat.ne_of_lt lt) (by rw [size_push']; exact Nat.lt_succ_of_lt lt)]
  exact Heap.get?_push_of_some _ q
end
end SrtX
namespace L2
open PySem PySem.Spec PyProof.Rows
/-- the set at a has the members L -/
def SetX (w : World) (a : Addr) (L : List Str) : HO := .ext fun h => TxSet.SetT w h a L
theorem setX_new {w : World} {P : Program} {H : Hp} {h : Heap} {a : Addr} {L : List Str} (R : TxSet.SetT w h a L) : ObjOk P w H h a (SetX w a L) := by
  have ⟨o, _, _, _, ho, _⟩ := R
  exact ⟨R, ⟨o, ho⟩, fun h1 h2 p k => TxSet.SetT.at p k⟩
section
variable {X : Cx}
theorem setX_get {pins : List (Addr × Obj)} {σ : St} {H : Hp} {s : Shared} {a : Addr} {L : List Str} (I : Inv X pins σ H s) (ha : H a = some (SetX X.w a L)) : TxSet.SetT X.w s.heap a L := (I.hok a _ ha).1
/-- set(xs), a list of texts -/
def rSetX (K : PySem.W.Frag) (w : World) : List V → Hp → VK → Prop := fun vs H Q => ∃ (a : Addr) (ks : List Str), vs = [.ref a] ∧ SqL K H a (ks.map V.str) ∧ ks.length + 1 < scanBound ∧ ∀ p, H p = none → Q (.ref p) (upd H p (SetX w p (ks.foldl TxSet.addL [])))
theorem cr_setX (hc : X.calm = true) : CallR X (.type "set") (rSetX X.K X.w) := by
  intro pins s σ H vs us Q I r h
  obtain ⟨a, ks, rfl, hs, hb, q⟩ := h
  obtain ⟨its, rv, hl, hz⟩ := I.list hs
  rw [Vals.ref1 r]
  refine TxSet.call_set_txt (ks := ks) (I.ok.hd hc) hl.isList (by rw [List.size_toArray, ← rv.length, List.length_map]) (fun i v e => ?_) hb fun h' tk z k => ?_
  · rw [List.getElem?_toArray] at e
    cases e2 : ks[i]? with
    | none =>
      have e3 := rv.none_of (i := i) (by rw [List.getElem?_map, e2]; rfl)
      rw [e] at e3
      cases e3
    | some k =>
      obtain ⟨u, hu, ru⟩ := rv.get (i := i) (x := V.str k) (by rw [List.getElem?_map, e2]; rfl)
      rw [e] at hu
      cases hu
      obtain ⟨t, e⟩ := ru
      exact ⟨k, t, rfl, e⟩
  · exact ⟨.ref _, upd H s.heap.objs.size (SetX X.w s.heap.objs.size (ks.foldl TxSet.addL [])), I.laid (t' := tk) k (Nat.le_refl _) (setX_new z), rfl, q _ (I.hok.fresh (Nat.le_refl _))⟩
/-- len(s) -/
def rLenX (w : World) : List V → Hp → VK → Prop := fun vs H Q => ∃ a L, vs = [.ref a] ∧ H a = some (SetX w a L) ∧ L.length < scanBound ∧ Q (.int (L.length : Nat)) H
theorem cr_lenX : CallR X (.builtin "len") (rLenX X.w) := by
  intro pins s σ H vs us Q I r h
  obtain ⟨a, L, rfl, ha, hb, q⟩ := h
  rw [Vals.ref1 r]
  obtain ⟨o, es, ep, t, ho, hex, hd, hn, hf⟩ := (setX_get I ha).size_eq
  refine call_len_set ho hex hd hf (by rw [hn]; unfold scanBound at hb; omega) ⟨.int (L.length : Nat), H, I.tok _, ⟨_, by rw [hn]⟩, q⟩
/-- sorted(s) -/
def rSortedX (w : World) : List V → Hp → VK → Prop := fun vs H Q => ∃ (a : Addr) (L : List Str), vs = [.ref a] ∧ H a = some (SetX w a L) ∧ L.length ≤ sizeLine ∧ ∀ (ys : List Str) (p : Addr), ys.Perm L → SrtX.Asc ys → H p = none → Q (.ref p) (upd H p (.lst (ys.map V.str)))
theorem cr_sortedX (hc : X.calm = true) : CallR X (.builtin "sorted") (rSortedX X.w) := by
  intro pins s σ H vs us Q I r h
  obtain ⟨a, L, rfl, ha, hb, q⟩ := h
  rw [Vals.ref1 r]
  refine SrtX.sorted_set_txt (setX_get I ha) (I.ok.hd hc) fun s' p out c k g o hp hg hI hm hs => ?_
  have hn : H p = none := I.hok.fresh hp
  have vals : ∀ l : List Value, (∀ v ∈ l, ∃ k t, v = Value.str k t) → Vals ((l.map SrtX.tx).map V.str) l := fun l => by
    induction l with
    | nil => exact fun _ => .nil
    | cons v l ih =>
      intro h
      obtain ⟨k, t, e⟩ := h v List.mem_cons_self
      subst e
      exact .cons ⟨t, rfl⟩ (ih fun u hu => h u (List.mem_cons_of_mem _ hu))
  have hlen : ((out.map SrtX.tx).map V.str).length ≤ sizeLine := by
    rw [List.length_map, hm.length_eq]
    exact hb
  have J : Inv X pins σ (upd H p (.lst ((out.map SrtX.tx).map V.str))) { s with heap := s'.heap, gens := s'.gens, drawn := s'.drawn, toks := s'.toks } :=
    I.call (ch := []) (Un.laid k hp hn) (I.hok.laid k hp ⟨hlen, out, c, vals out hI, hg⟩) (by rw [g]; exact I.bare) (fun _ z => nomatch z)
  have e : s' = { s with heap := s'.heap, gens := s'.gens, drawn := s'.drawn, toks := s'.toks } := by
    cases s'
    cases s
    cases o
    rfl
  rw [e]
  exact ⟨.ref p, _, J, rfl, q _ p hm hs hn⟩
end
end L2
end
section
set_option Elab.async false
set_option linter.all false
set_option maxRecDepth 100000
set_option maxHeartbeats 4000000
namespace L2
open PySem PySem.Spec PyProof.Rows PpSet
section
variable {X : Cx} {pins : List (Addr × Obj)} {σ : St} {H : Hp} {s : Shared}
theorem setX_add {E : Value → Shared → Prop} {D : Addr} {L : List Str} {y : Str} {tk : Tok} {Q : Value → Shared → Prop} (I : Inv X pins σ H s) (hD : H D = some (SetX X.w D L)) (room : L.length + 1 < scanBound)
    (h : ∀ s', Inv X pins σ (upd H D (SetX X.w D (TxSet.addL L y))) s' → Q .none s') : wpAny (model X.prog X.w) X.A (call (.builtin "set.add") [.ref D, .str y tk]) Q E s := by
  refine TxSet.add_ok (setX_get I hD) room fun h' sb new => ?_
  have he : ∃ u, h'.get? D = some u := by
    obtain ⟨o, _, _, _, ho, _⟩ := new
    exact ⟨o, ho⟩
  exact h _ (I.write (e := D) (t' := s.toks + 1) (by rw [hD]; trivial) (.inl rfl) (fun b u hb hu => (sb.2 b hb).trans hu) he (setX_new new))
/-- one turn of {elt for tg in ..}: the item is taken, the element put in -/
def tPut (w : World) (te : TE) (D : Addr) (N : Hp → Prop) : St → Hp → Prop := fun σ H => te σ H fun y H4 => ∃ (k : Str) (L : List Str), y = .str k ∧ H4 D = some (SetX w D L) ∧ L.length + 1 < scanBound ∧ N (upd H4 D (SetX w D (TxSet.addL L k)))
/-- {elt for tg in iter if ..}, elt a text -/
def tScX (w : World) (wi : TI) (g : TG) (tt : TT) (te : TE) (vs : List Nat) : TE := fun σ H Q => wi σ H fun J H1 => ∀ D, H1 D = none → ∃ W : Nat → Nat → Hp → Prop, (∃ m, W 0 m (upd H1 D (SetX w D []))) ∧ ∀ i m H, W i m H →
  (J.stop i H ∧ Q (.ref D) H) ∨ (J.go i H ∧ ∃ N : Hp → Prop, (∀ H', N H' → ∃ m', m' < m ∧ W (i + 1) m' H') ∧ ∀ x H', J.yld i H x H' → g x (wipe σ vs) H' fun σ2 H2 => wipe σ2 vs = wipe σ vs ∧ tt σ2 H2 fun b H3 => if b = true then tPut w te D N σ2 H3 else N H3)
variable {elt tg iter : Expr} {ifs : List Expr} {scope : Scope} {own : List (PySem.Str × Nat)} {pos pos' : Pos} {wi : TI} {g : TG} {tt : TT} {te : TE}
theorem scX_core {Q : VK} {use : Option (Value → Sem Unit)} {Qf : Value → Shared → Prop} (hc : X.calm = true) (hN : X.N.Nodup) (I : Inv X pins σ H s) (hi : PI X tg iter wi) (ok : BlkOk X.N X.env.scope scope own)
    (hg : ∀ (s : Shared) (H : Hp) (C : Addr) (cl : List (PySem.Str × Addr)) (fp : List Addr), PG (X.blk s H scope (compEnvC scope cl C X.env) fp) tg g) (ht : ∀ (s : Shared) (H : Hp) (C : Addr) (cl : List (PySem.Str × Addr)) (fp : List Addr), PTs (X.blk s H scope (compEnvC scope cl C X.env) fp) ifs tt)
    (he : ∀ (s : Shared) (H : Hp) (C : Addr) (cl : List (PySem.Str × Addr)) (fp : List Addr), PE (X.blk s H scope (compEnvC scope cl C X.env) fp) elt te) (hs : ∀ x, foldedSetIterable iter X.env x = pure x) (h : tScX X.w wi g tt te (own.map (·.2)) σ H Q)
    (hR : ∀ D C s' m H', Inv X pins σ H' s' → Q (.ref D) H' → s'.heap.Ns C m → FpOk X pins H' C → compPost (model X.prog X.w) X.A X.xe use Qf (.ref D) C (.ok .next) s') :
    wpAny (model X.prog X.w) X.A (comprehension (.SetComp elt [⟨tg, iter, ifs, 0⟩] scope pos) scope X.env pos' (newSet (.type "set")) false (eval iter X.env) use) Qf X.xe s := by
  refine wpAny_comprehension_free (use := use) rfl hs (closure_ok fun y hy e => ?_) ok.kind (fun y hy e => by rw [ok.uniq y hy, e]) (thn (hi.run pins s σ H _ I h) fun xv s1 hx => thn hx fun itv s2 h2 => ?_)
  · rcases ok.free y hy e with k | k
    · exact I.ok.has _ (.inl k)
    · exact I.ok.has _ (.inr k)
  obtain ⟨it, fp, tn, J, H2, e, I2, T, st2, f2, q⟩ := h2
  subst e
  refine newSet_ok (newEnv_comp ?_)
  generalize hD : s2.heap.objs.size = D
  have nD : H2 D = none := I2.hok.fresh (Nat.le_of_eq hD)
  obtain ⟨W, ⟨m0, w0⟩, turn⟩ := q D nD
  generalize hs3 : ({ s2 with heap := s2.heap.push (TxSet.freshO X.w) } : Shared) = s3
  have h3 : s3.heap = s2.heap.push (TxSet.freshO X.w) := by rw [← hs3]
  have I3 : Inv X pins σ (upd H2 D (SetX X.w D [])) s3 := by
    rw [← hs3]
    refine I2.laid (t' := s2.toks) (fun b o e => Heap.get?_push_of_some _ e) (Nat.le_of_eq hD) ?_
    rw [← hD]
    exact setX_new (TxSet.fresh_set X.w)
  have f3 : ∀ b ∈ fp, FpOk X pins (upd H2 D (SetX X.w D [])) b ∧ b < s3.heap.objs.size := fun b hb => by
    obtain ⟨o, e, _⟩ := T.obj _ _ st2 b hb
    have lt := Heap.lt_size e
    have ne : b ≠ D := by rw [← hD]; exact Nat.ne_of_lt lt
    exact ⟨⟨by rw [upd_ne ne]; exact (f2 b hb).1, (f2 b hb).2⟩, by rw [h3, Heap.size_push]; exact Nat.lt_succ_of_lt lt⟩
  have n3 : ∀ b ∈ fp, (upd H2 D (SetX X.w D [])) b = none := fun b hb => (f3 b hb).1.1
  have st3 : tn 0 s3.heap := T.keep _ _ _ st2 fun b _ o e => by rw [h3]; exact Heap.get?_push_of_some _ e
  have I4 := block_start I3 ok hN f3
  show codeAny _ _ (.compStart (.SetComp elt [⟨tg, iter, ifs, 0⟩] scope pos) 0 (.ref it) (.ref D) (compEnvC scope (cellsFrom (s3.heap.objs.size + 1) scope.names (cloFrom X.env.cells scope.names [])) s3.heap.objs.size X.env)) (compPost (model X.prog X.w) X.A X.xe use Qf (.ref D) s3.heap.objs.size) { s3 with heap := pushCells (s3.heap.push { cls := .type "dict", data := .dict #[] }) scope.names }
  have pg := hg s3 (upd H2 D (SetX X.w D [])) s3.heap.objs.size (cellsFrom (s3.heap.objs.size + 1) scope.names (cloFrom X.env.cells scope.names [])) fp
  have pt := ht s3 (upd H2 D (SetX X.w D [])) s3.heap.objs.size (cellsFrom (s3.heap.objs.size + 1) scope.names (cloFrom X.env.cells scope.names [])) fp
  have pe := he s3 (upd H2 D (SetX X.w D [])) s3.heap.objs.size (cellsFrom (s3.heap.objs.size + 1) scope.names (cloFrom X.env.cells scope.names [])) fp
  generalize hce : compEnvC scope (cellsFrom (s3.heap.objs.size + 1) scope.names (cloFrom X.env.cells scope.names [])) s3.heap.objs.size X.env = ce at I4 pg pt pe ⊢
  have cL : ce.locals = s3.heap.objs.size := by subst hce; rfl
  generalize hH3 : upd H2 D (SetX X.w D []) = H3 at I3 I4 pg pt pe w0 n3 f3
  generalize hs4 : ({ s3 with heap := pushCells (s3.heap.push { cls := .type "dict", data := .dict #[] }) scope.names } : Shared) = s4 at I4 ⊢
  have st4 : tn 0 s4.heap := T.keep _ _ _ st3 fun b _ o e => by rw [← hs4]; exact pushCells_keeps _ _ _ _ (Heap.get?_push_of_some _ e)
  have own_fp : ∀ {σ' : St} {H' : Hp} {s' : Shared}, Inv (X.blk s3 H3 scope ce fp) [] σ' H' s' → (∀ b ∈ fp, H' b = none) → ∀ b ∈ fp, FpOk (X.blk s3 H3 scope ce fp) [] H' b := fun {σ' H' s'} J' hn b hb =>
    ⟨hn b hb, (J'.ok.exf b hb).1, J'.ok.exfs b hb, .inl hb, fun x c e => (J'.ok.exf b hb).2 x c e, fun p hp => absurd (show p ∈ ([] : List (Addr × Obj)) ++ [] from hp) (by simp)⟩
  refine codeAny_compStart_set ?loop (T.self X.A 0 _ _ _ st4 ?loop)
  refine compLoopS_any (fun n s' => ∃ i H', Inv (X.blk s3 H3 scope ce fp) [] (wipe σ (own.map (·.2))) H' s' ∧ tn i s'.heap ∧ (∀ b ∈ fp, H' b = none) ∧ W i n H') ?_ m0 ⟨0, H3, I4, st4, n3, w0⟩
  rintro n s5 ⟨i, H5, I5, st5, n5, w5⟩
  rcases turn i n H5 w5 with ⟨stop, qq⟩ | ⟨go, N, hN', step⟩
  · refine thnF (T.done (X.blk s3 H3 scope ce fp) rfl rfl rfl hc i [] s5 _ H5 (fun _ _ => False) I5 (own_fp I5 n5) st5 stop) fun r s6 ⟨hr, I6⟩ => ?_
    subst hr
    have I7 : Inv X pins σ H5 s6 := I3.call' (ch := fp) I6.os I6.base I6.hok I6.bare fun b hb => ⟨(f3 b hb).1.2.2.2.1, (f3 b hb).1.2.1, (f3 b hb).1.2.2.2.2.1, (f3 b hb).1.2.2.2.2.2⟩
    have nC : H5 s3.heap.objs.size = none := by
      have z : H5 ce.locals = none := I6.free
      rw [cL] at z
      exact z
    obtain ⟨m, hn, _⟩ := I6.loc
    have hn : s6.heap.Ns ce.locals m := hn
    rw [cL] at hn
    exact hR D s3.heap.objs.size s6 m H5 I7 qq hn (I3.fpOk (Nat.le_refl _) nC)
  · refine thnF (T.item (X.blk s3 H3 scope ce fp) rfl rfl rfl hc i [] s5 _ H5 (fun _ _ => False) I5 (own_fp I5 n5) st5 go) fun r s6 ⟨u, hr, h6⟩ => ?_
    subst hr
    refine thnF h6 fun _ s7 ⟨x, H7, I7, r7, y7, st7, n7⟩ => ?_
    refine thnF (pg.run _ s7 _ H7 x u _ (I7.pinned (own_fp I7 n7) (T.obj _ _ st7)) r7 (step x H7 y7)) fun _ s8 ⟨σ8, H8, I8, hw8, q8⟩ => ?_
    refine thnF (pt.run _ s8 σ8 H8 _ I8 q8) fun b s9 ⟨H9, I9, q9⟩ => ?_
    have fin : ∀ {s' : Shared} {H' : Hp}, Inv (X.blk s3 H3 scope ce fp) ([] ++ pinsAt fp s7.heap) σ8 H' s' → N H' → ∃ m, m < n ∧ ∃ i H', Inv (X.blk s3 H3 scope ce fp) [] (wipe σ (own.map (·.2))) H' s' ∧ tn i s'.heap ∧ (∀ b ∈ fp, H' b = none) ∧ W i m H' := fun {s' H'} J' nx => by
      obtain ⟨m', hm, w'⟩ := hN' H' nx
      have pin : ∀ b ∈ fp, ∀ o, s7.heap.get? b = some o → s'.heap.get? b = some o ∧ H' b = none := fun b hb o e =>
        let z := J'.pin (b, o) (List.mem_append_right _ (List.mem_append_right _ (mem_pinsAt hb e)))
        ⟨z.1, z.2.1⟩
      refine ⟨m', hm, i + 1, H', (J'.unpinned (pins := [])).weak (by rw [← hw8, wipe_length]) (fun j v e => ?_), T.keep _ _ _ st7 fun b hb o e => (pin b hb o e).1, fun b hb => ?_, w'⟩
      · rw [← hw8] at e
        exact (wipe_some e).1
      · obtain ⟨o, e, _⟩ := T.obj _ _ st7 b hb
        exact (pin b hb o e).2
    cases b with
    | false =>
      simp only [Bool.false_eq_true, if_false] at q9 ⊢
      exact fin I9 q9
    | true =>
      simp only [if_true] at q9 ⊢
      refine thnF (pe.run _ s9 σ8 H9 _ I9 q9) fun z s10 ⟨yv, H10, I10, r10, kb, L0, ey, hD10, hz10, nx⟩ => ?_
      subst ey
      obtain ⟨tk, e⟩ := (show ∃ t, z = Value.str kb t from r10)
      subst e
      exact setX_add (X := X.blk s3 H3 scope ce fp) I10 hD10 hz10 fun s11 I11 => fin I11 nx
theorem pe_scX (hc : X.calm = true) (hN : X.N.Nodup) (hi : PI X tg iter wi) (ok : BlkOk X.N X.env.scope scope own)
    (hg : ∀ (s : Shared) (H : Hp) (C : Addr) (cl : List (PySem.Str × Addr)) (fp : List Addr), PG (X.blk s H scope (compEnvC scope cl C X.env) fp) tg g) (ht : ∀ (s : Shared) (H : Hp) (C : Addr) (cl : List (PySem.Str × Addr)) (fp : List Addr), PTs (X.blk s H scope (compEnvC scope cl C X.env) fp) ifs tt)
    (he : ∀ (s : Shared) (H : Hp) (C : Addr) (cl : List (PySem.Str × Addr)) (fp : List Addr), PE (X.blk s H scope (compEnvC scope cl C X.env) fp) elt te) (hs : ∀ x, foldedSetIterable iter X.env x = pure x := by intro _; rfl) :
    PE X (.SetComp elt [⟨tg, iter, ifs, 0⟩] scope pos) (tScX X.w wi g tt te (own.map (·.2))) := by
  refine ⟨fun pins s σ H Q I h => ?_⟩
  rw [eval_SetComp]
  refine scX_core hc hN I hi ok hg ht he hs h fun D C s' m H' I' q hn f => ⟨m, hn, fun h'' sb => ?_⟩
  obtain ⟨f0, f1, f2, f3, f4, f5⟩ := f
  exact ⟨.ref D, H', I'.turned (t' := s'.toks) (fun b o hb e => (sb.2 b hb).trans e) f0 f1 f3 f4 f5, rfl, q⟩
end
/-- over a list that stays -/
theorem scX_list {w : World} {K : PySem.W.Frag} {a : Addr} {xs : List V} {g : TG} {tt : TT} {te : TE} {vs : List Nat} {σ : St} {H1 : Hp} {D : Addr} {Qd : Hp → Prop} (Pv : Nat → Hp → Prop) (h0 : Pv 0 (upd H1 D (SetX w D []))) (hl : ∀ i H, i ≤ xs.length → Pv i H → SqL K H a xs)
    (hs : ∀ i x H, xs[i]? = some x → Pv i H → g x (wipe σ vs) H fun σ2 H2 => wipe σ2 vs = wipe σ vs ∧ tt σ2 H2 fun b H3 => if b = true then tPut w te D (Pv (i + 1)) σ2 H3 else Pv (i + 1) H3) (hd : ∀ H, Pv xs.length H → Qd H) :
    ∃ W : Nat → Nat → Hp → Prop, (∃ m, W 0 m (upd H1 D (SetX w D []))) ∧ ∀ i m H, W i m H →
      ((Itl K a).stop i H ∧ Qd H) ∨ ((Itl K a).go i H ∧ ∃ N : Hp → Prop, (∀ H', N H' → ∃ m', m' < m ∧ W (i + 1) m' H') ∧ ∀ x H', (Itl K a).yld i H x H' → g x (wipe σ vs) H' fun σ2 H2 => wipe σ2 vs = wipe σ vs ∧ tt σ2 H2 fun b H3 => if b = true then tPut w te D N σ2 H3 else N H3) := by
  refine ⟨fun i m H => m = xs.length - i ∧ i ≤ xs.length ∧ Pv i H, ⟨_, rfl, Nat.zero_le _, h0⟩, ?_⟩
  rintro i m H ⟨rfl, hi, p⟩
  have q := hl i H hi p
  rcases Nat.lt_or_ge i xs.length with lt | ge
  · refine .inr ⟨⟨xs, xs[i], q, by simp [lt]⟩, Pv (i + 1), fun H' p' => ⟨xs.length - (i + 1), by omega, rfl, lt, p'⟩, fun x H' y => ?_⟩
    obtain ⟨e, y⟩ := y
    subst e
    exact hs i x _ (y xs q) p
  · have e : i = xs.length := by omega
    subst e
    exact .inl ⟨⟨xs, q, Nat.le_refl _⟩, hd H p⟩
end L2
end
section
set_option Elab.async false
set_option linter.all false
set_option maxRecDepth 100000
set_option maxHeartbeats 4000000
namespace K4
open PySem PySem.Spec PyProof.Rows L2
/-! ### the text by places -/
def top (i : Nat) : Stmt := PySem.Challenge.pw_gatequarters_k04_whole_changes.main.body.getD i (.Pass ⟨0, 0, 0, 0⟩)
abbrev sCount : Stmt := top 10
abbrev sWhole : Stmt := top 9
abbrev sAreStreets : Stmt := top 14
abbrev sAreGates : Stmt := top 16
abbrev sIsWord : Stmt := top 12
abbrev sIsStreet : Stmt := top 13
abbrev sChkStreets : Stmt := top 15
abbrev sChkGates : Stmt := top 17
abbrev sChkQuarter : Stmt := top 19
abbrev sEndsOf : Stmt := top 20
abbrev sCrossings : Stmt := top 21
abbrev sStreetOf : Stmt := top 22
abbrev sPurse : Stmt := top 31
abbrev sMixed : Stmt := top 32
abbrev sDraw : Stmt := top 33
abbrev sPurses : Stmt := top 34
abbrev sOneOf : Stmt := top 35
abbrev sShuffled : Stmt := top 36
abbrev sExact : Stmt := top 37
abbrev sWord : Stmt := top 38
abbrev sWords : Stmt := top 39
abbrev sWidth : Stmt := top 40
abbrev sLength : Stmt := top 41
abbrev sPair : Stmt := top 42
abbrev sShape : Stmt := top 43
abbrev sStreetsOf : Stmt := top 44
abbrev sWorld : Stmt := top 45
abbrev sQuarter : Stmt := top 46
abbrev sIsChange : Stmt := top 23
abbrev sAreChF : Stmt := top 24
abbrev sAltered : Stmt := top 25
abbrev sChangedS : Stmt := top 26
abbrev sFitted : Stmt := top 27
abbrev sChanged : Stmt := top 28
abbrev sChangedBy : Stmt := top 29
abbrev sStepped : Stmt := top 47
abbrev sChange : Stmt := top 48
abbrev sDrawn : Stmt := top 49
abbrev sMadeLists : Stmt := top 50
abbrev sDue : Stmt := top 51
abbrev sTold : Stmt := top 52
abbrev sVery : Stmt := top 53
abbrev sListRight : Stmt := top 54
abbrev sBad : Stmt := top 55
abbrev sRefused : Stmt := top 56
abbrev sLaw : Stmt := top 57
def frees : List Str := ["sum", "int", "max", "min", "len", "range", "isinstance", "list", "dict", "tuple", "all", "bool", "str", "set", "sorted", "zip", "reversed"]
abbrev FnP (K : PySem.W.Frag) (x : Str) (st : Stmt) (f : Addr) (fd : FuncData) : Prop := FunD K x x (defArgs st) (defBody st) (defScope st) [] [] f fd
/-- what the head has told of names -/
structure Tx (K : PySem.W.Frag) (mg : Str → Option Value) : Prop where
  fr : ∀ x ∈ frees, mg x = none
/-- a def of the text that keeps a promise, as it is called -/
def Fz (P : Program) (w : World) (K : PySem.W.Frag) (mg : Str → Option Value) (base : Heap) (x : Str) (k : Nat) (ps : List Str) (sp : Sp) : Prop :=
  ∃ (g : Addr) (fd : FuncData), FnOk P w K mg base CX0 k g fd ps sp ∧ mg x = some (.ref g) ∧ PySem.W.keepIn K (.ref g) = true ∧ Binds K fd ps []
theorem Fz.mono {P : Program} {w : World} {K : PySem.W.Frag} {mg : Str → Option Value} {base : Heap} {x : Str} {j k : Nat} {ps : List Str} {sp : Sp} (Z : Fz P w K mg base x j ps sp) (h : j ≤ k) : Fz P w K mg base x k ps sp := by
  obtain ⟨g, fd, F, r⟩ := Z
  exact ⟨g, fd, F.mono h, r⟩
section
variable {X : Cx} {x : Str} {k : Nat} {ps : List Str} {sp : Sp} {p pos : Pos} {e : Expr} {es : List Expr} {t : TA}
theorem pe_fz (Z : Fz X.prog X.w X.K X.mg X.base x k ps sp) (hr : Room k X.A) (hg : Gl X x) (ha : PA X (e :: es) t) (hdb : (x == ("__debug__" : Str)) = false := by decide)
    (he : starEach (e :: es) X.env = (false, eval e X.env) :: starEach es X.env := by rfl) (hpl : (backTo pos (starEach es X.env)).any (·.1) = false := by rfl) : PE X (.Call (.Name x p) (e :: es) [] pos) (tCall sp [] E0 t) := by
  obtain ⟨g, fd, F, hm, hk, hb⟩ := Z
  exact pe_call F hr hg hm hk hb .nil pass0 ha hdb he hpl
theorem pe_fz0 (Z : Fz X.prog X.w X.K X.mg X.base x k ps sp) (hr : Room k X.A) (hg : Gl X x) (hdb : (x == ("__debug__" : Str)) = false := by decide) : PE X (.Call (.Name x p) [] [] pos) (tCall sp [] E0 tNil) := by
  obtain ⟨g, fd, F, hm, hk, hb⟩ := Z
  exact pe_call0 F hr hg hm hk hb .nil pass0 hdb
end
/-- a statement that is never reached -/
theorem ps_never {X : Cx} {st : Stmt} : PS X st (fun _ _ _ => False) := ⟨fun _ _ _ _ _ _ h => h.elim⟩
end K4
end
section
set_option Elab.async false
set_option linter.all false
set_option maxRecDepth 100000
set_option maxHeartbeats 4000000
namespace K4
open PySem PySem.Spec PyProof.Rows L2
/-! ### numbers -/
section
variable {X : Cx}
theorem op_powB : OpR X (binaryOp .Pow) (rI (fun i j => 0 ≤ j ∧ (Builtin.Int.intBits i : Int) * j ≤ 2 ^ 27) fun i j => .int (i ^ j.toNat)) := opI fun _ _ _ _ _ _ _ hc q => pow_int hc.1 hc.2 q
end
/-- a purse of at most n draws -/
def PuOk (n : Int) (xs : List V) : Prop := ∃ a s t k : Int, xs = [.int a, .int s, .int t, .int k] ∧ 0 ≤ a ∧ 0 ≤ s ∧ s < 2147483629 ∧ 0 ≤ t ∧ t ≤ n ∧ 0 ≤ k ∧ k ≤ 3
theorem PuOk.mono {n m : Int} {xs : List V} (h : PuOk n xs) (l : n ≤ m) : PuOk m xs := by
  obtain ⟨a, s, t, k, e, h1, h2, h3, h4, h5, h6, h7⟩ := h
  exact ⟨a, s, t, k, e, h1, h2, h3, h4, by omega, h6, h7⟩
theorem bits_small {m : Int} (h0 : 0 ≤ m) (h1 : m < 128) : ((Builtin.Int.intBits m : Nat) : Int) / 28 = 0 := by
  obtain ⟨n, rfl⟩ := Int.eq_ofNat_of_zero_le h0
  have hn : n < 128 := by omega
  have key : ∀ n : Fin 128, ((Builtin.Int.intBits ((n.val : Nat) : Int) : Nat) : Int) / 28 = 0 := by decide +kernel
  exact key ⟨n, hn⟩
section
variable {P : Program} {w : World} {K : PySem.W.Frag} {mg : Str → Option Value} {base : Heap}
/-! ### _law_mixed -/
def spMixed : Sp := fun vs H Q _ => ∃ s t k : Int, vs = [.int s, .int t, .int k] ∧ 0 ≤ s ∧ s < 2147483648 ∧ 0 ≤ t ∧ t ≤ 1000000 ∧ 0 ≤ k ∧ k ≤ 3 ∧ ∀ r : Int, Q (.int r) H
theorem scMixed : FnScope ["_law_seed", "_law_turn", "_law_at", "_law_mixed_here"] ["_law_seed", "_law_turn", "_law_at"] (defScope sMixed) := ⟨rfl, rfl, rfl, by decide +kernel, rfl, by decide +kernel, by decide +kernel⟩
theorem ok_mixed {f : Addr} {fd : FuncData} (F : FnP K "_law_mixed" sMixed f fd) (T : Tx K mg) : FnOk P w K mg base CX0 1 f fd ["_law_seed", "_law_turn", "_law_at"] spMixed := by
  refine F.ok scMixed (fun vs H Q E h => ?_) (fun cdv A outer s H vs Q E hr h => ?_)
  · obtain ⟨_, _, _, rfl, _⟩ := h
    rfl
  · obtain ⟨s, t, k, rfl, s0, s1, t0, t1, k0, k1, q⟩ := h
    have gI := T.fr "int" (by decide +kernel)
    refine ⟨_, PSs.nox (pss_cons (ps_set (i := 3) scMixed.nd rfl (Or.inl rfl) (pe_op op_add (pe_op op_mul (pv 0) pe_int) (pe_op op_mul (pe_op op_mul pe_int (pv 1)) (pv 1))))
      (pss_cons (ps_set (i := 3) scMixed.nd rfl (Or.inl rfl) (pe_op op_mod (pe_callTy call_int1 (by rfl) gI (by decide +kernel) (pa_cons (pe_op op_add (pe_op op_add (pv 3) (pe_op op_mul pe_int (pv 2))) (pv 1)) pa_nil)) pe_int))
      (pss_cons (ps_set (i := 3) scMixed.nd rfl (Or.inl rfl) (pe_op op_mod (pe_callTy call_int1 (by rfl) gI (by decide +kernel) (pa_cons (pe_op op_add (pe_op op_mul (pv 3) (pv 3)) pe_int) pa_nil)) pe_int))
      (pss_one (ps_ret (pe_op op_mod (pe_callTy call_int1 (by rfl) gI (by decide +kernel) (pa_cons (pe_op op_mul (pv 3) pe_int) pa_nil)) pe_int)))))), ?_⟩
    have e0 : ∀ {a b : Int}, 0 < b → 0 ≤ a % b ∧ a % b < b := fun h => ⟨Int.emod_nonneg _ (by omega), Int.emod_lt_of_pos _ h⟩
    refine ⟨_, rfl, _, _, rfl, rfl, Or.inr ⟨by decide, by decide⟩, _, rfl, _, _, rfl, rfl, Or.inl ⟨by decide, by decide⟩, _, rfl, _, _, rfl, rfl, Or.inr ⟨by omega, by omega⟩, _, _, rfl, rfl, ?_⟩
    refine ⟨_, rfl, _, rfl, _, _, rfl, rfl, Or.inl ⟨by decide, by decide⟩, _, _, rfl, rfl, _, rfl, _, _, rfl, rfl, Or.inl ⟨_, rfl, _, _, rfl, rfl, (by show (0 : Int) < _; decide), ?_⟩⟩
    generalize hx : (s * 69069 + 104729 * t * t + 7919 * k + t) % 2147483647 = x
    have bx := @e0 (s * 69069 + 104729 * t * t + 7919 * k + t) 2147483647 (by decide)
    rw [hx] at bx
    refine ⟨_, rfl, _, rfl, _, _, rfl, rfl, Or.inl ⟨by omega, by omega⟩, _, _, rfl, rfl, Or.inl ⟨_, rfl, _, _, rfl, rfl, (by show (0 : Int) < _; decide), ?_⟩⟩
    generalize hy : (x * x + 40503) % 2147483629 = y
    have b_y := @e0 (x * x + 40503) 2147483629 (by decide)
    rw [hy] at b_y
    exact ⟨_, rfl, _, _, rfl, rfl, Or.inl ⟨by omega, by omega⟩, Or.inl ⟨_, rfl, _, _, rfl, rfl, (by show (0 : Int) < _; decide), q _⟩⟩

/-! ### _law_draw -/
def spDraw : Sp := fun vs H Q _ => ∃ (p : Addr) (m n : Int) (xs : List V), vs = [.ref p, .int m] ∧ H p = some (.lst xs) ∧ PuOk n xs ∧ n ≤ 900000 ∧ 0 < m ∧ m < 128 ∧
  ∀ (r : Int) (ys : List V), 0 ≤ r → r < m → PuOk (n + 1) ys → Q (.int r) (upd H p (.lst ys))
theorem scDraw : FnScope ["_law_purse_here", "_law_many", "_law_drawn", "_law_found", "_law_piece"] ["_law_purse_here", "_law_many"] (defScope sDraw) := ⟨rfl, rfl, rfl, by decide +kernel, rfl, by decide +kernel, by decide +kernel⟩
theorem ok_draw {f g : Addr} {fd fdM : FuncData} (F : FnP K "_law_draw" sDraw f fd) (FM : FnP K "_law_mixed" sMixed g fdM) (hgM : mg "_law_mixed" = some (.ref g)) (T : Tx K mg) :
    FnOk P w K mg base CX0 2 f fd ["_law_purse_here", "_law_many"] spDraw := by
  have GM : FnOk P w K mg base CX0 1 g fdM ["_law_seed", "_law_turn", "_law_at"] spMixed := ok_mixed FM T
  have bM : Binds K fdM ["_law_seed", "_law_turn", "_law_at"] [] := FM.bindsN fun _ _ _ _ _ _ us hl => match us, hl with | [_, _, _], _ => rfl
  refine F.ok scDraw (fun vs H Q E h => ?_) (fun cdv A outer s H vs Q E hr h => ?_)
  · obtain ⟨_, _, _, _, rfl, _⟩ := h
    rfl
  · obtain ⟨p, m, n, xs, rfl, hp, ⟨a, sd, t, k, rfl, a0, s0, s1, t0, t1, k0, k1⟩, hn, m0, m1, q⟩ := h
    have gI := T.fr "int" (by decide +kernel)
    have gR := T.fr "range" (by decide +kernel)
    refine ⟨_, PSs.nox (pss_cons (ps_if (pt_cmpR op_gt (pe_ix ix_list (pv 0) pe_int (fun _ _ => rfl)) pe_int (nomark _))
        (pss_cons (ps_set (i := 2) scDraw.nd rfl (Or.inl rfl) (pe_op op_mod (pe_callTy call_int1 (by rfl) gI (by decide +kernel) (pa_cons (pe_ix ix_list (pv 0) pe_int (fun _ _ => rfl)) pa_nil)) (pv 1)))
        (pss_cons (ps_asg (pe_op op_fdiv (pe_ix ix_list (pv 0) pe_int (fun _ _ => rfl)) (pv 1)) (pg_sub (pv 0) pe_int set_list))
        (pss_one (ps_ret (pv 2))))) pss_nil)
      (pss_cons (ps_set (i := 3) scDraw.nd rfl (Or.inl rfl) pe_int)
      (pss_cons (ps_for PassesOwn.never rfl (pi_range1 rfl gR (pa_cons (pe_op op_add pe_int (pe_op op_fdiv (pe_bits (pv 1)) pe_int)) pa_nil)) (pg_name (i := 4) scDraw.nd rfl (Or.inl rfl))
        (pss_cons (ps_asg (pe_op op_add (pe_ix ix_list (pv 0) pe_int (fun _ _ => rfl)) pe_int) (pg_sub (pv 0) pe_int set_list))
        (pss_one (ps_set (i := 3) scDraw.nd rfl (Or.inl rfl) (pe_op op_add (pe_op op_mul (pv 3) pe_int)
          (pe_call GM hr rfl hgM FM.kp bM .nil pass0 (pa_cons (pe_ix ix_list (pv 0) pe_int (fun _ _ => rfl)) (pa_cons (pe_ix ix_list (pv 0) pe_int (fun _ _ => rfl)) (pa_cons (pe_ix ix_list (pv 0) pe_int (fun _ _ => rfl)) pa_nil)))))))))
      (pss_one (ps_ret (pe_op op_mod (pe_callTy call_int1 (by rfl) gI (by decide +kernel) (pa_cons (pv 3) pa_nil)) (pv 1))))))), ?_⟩
    have hS : SqL K H p [.int a, .int sd, .int t, .int k] := SqL.of hp
    refine ⟨_, rfl, p, _, 0, _, rfl, rfl, hS, rfl, _, _, rfl, rfl, _, rfl, ?_⟩
    refine ite2 (fun hc => ?_) (fun _ => ?_)
    · refine ⟨_, rfl, p, _, 0, _, rfl, rfl, hS, rfl, Or.inl ⟨_, rfl, _, rfl, _, _, rfl, rfl, m0, ?_⟩⟩
      refine ⟨_, rfl, p, _, 0, _, rfl, rfl, hS, rfl, _, rfl, _, _, rfl, rfl, ⟨m0, by omega⟩, _, rfl, p, _, 0, 0, rfl, rfl, hp, rfl, _, rfl, ?_⟩
      exact q _ _ (Int.emod_nonneg _ (by omega)) (Int.emod_lt_of_pos _ m0) ⟨a / m, sd, t, k, rfl, Int.ediv_nonneg a0 (by omega), s0, s1, t0, by omega, k0, k1⟩
    · refine ⟨_, rfl, _, rfl, _, _, rfl, rfl, ⟨by decide, by decide⟩, _, _, rfl, rfl, 1, ?_, by decide, by decide, ?_⟩
      · rw [bits_small (by omega) m1]
        rfl
      · refine for_range (n := 1) (fun i σ H' => (i = 0 ∧ H' = H ∧ σ = [some (.ref p), some (.int m), none, some (.int 0), none]) ∨ (i = 1 ∧ ∃ r : Int, H' = upd H p (.lst [.int a, .int sd, .int (t + 1), .int k]) ∧ ∃ z, σ = [some (.ref p), some (.int m), none, some (.int r), z]))
          (Or.inl ⟨rfl, rfl, rfl⟩) ?_ ?_
        · rintro i σ H' hi (⟨rfl, rfl, rfl⟩ | ⟨rfl, _⟩)
          · have h2 : upd H' p (.lst [.int a, .int sd, .int (t + 1), .int k]) p = some (.lst [.int a, .int sd, .int (t + 1), .int k]) := upd_same
            have hS2 : SqL K (upd H' p (.lst [.int a, .int sd, .int (t + 1), .int k])) p [.int a, .int sd, .int (t + 1), .int k] := SqL.of h2
            refine ⟨_, rfl, p, _, 2, _, rfl, rfl, hS, rfl, _, _, rfl, rfl, _, rfl, p, _, 2, 2, rfl, rfl, hp, rfl, ?_⟩
            refine ⟨_, rfl, _, _, rfl, rfl, Or.inl ⟨by decide, by decide⟩, _, rfl, p, _, 1, _, rfl, rfl, hS2, rfl, _, rfl, p, _, 2, _, rfl, rfl, hS2, rfl, _, rfl, p, _, 3, _, rfl, rfl, hS2, rfl, ?_⟩
            refine ⟨sd, t + 1, k, rfl, s0, by omega, by omega, by omega, k0, k1, fun r => ⟨_, _, rfl, rfl, ?_⟩⟩
            exact Or.inr ⟨rfl, _, rfl, _, rfl⟩
          · omega
        · rintro σ H' (⟨e, _⟩ | ⟨_, r, rfl, z, rfl⟩)
          · cases e
          · refine ⟨_, rfl, Or.inl ⟨_, rfl, _, rfl, _, _, rfl, rfl, m0, ?_⟩⟩
            exact q _ _ (Int.emod_nonneg _ (by omega)) (Int.emod_lt_of_pos _ m0) ⟨a, sd, t + 1, k, rfl, a0, s0, s1, by omega, by omega, k0, k1⟩
end
end K4
end
section
set_option Elab.async false
set_option linter.all false
set_option maxRecDepth 100000
set_option maxHeartbeats 4000000
namespace K4
open PySem PySem.Spec PyProof.Rows L2
/-! ### texts -/
def one (c : Nat) : Str := ⟨#[c]⟩
theorem str_join_codes : ∀ cs : List Nat, (Str.join (Str.ofString "") (cs.map one)).cps.toList = cs
  | [] => rfl
  | [c] => rfl
  | c :: d :: r => by
    have ih := str_join_codes (d :: r)
    show (((one c).cps ++ (Str.ofString "").cps) ++ (Str.join (Str.ofString "") ((d :: r).map one)).cps).toList = _
    rw [Array.toList_append, Array.toList_append, ih]
    rfl
theorem join_codes (cs : List Nat) : (Txt.join (Str.ofString "") (cs.map one)).cps.toList = cs := by
  have e : Txt.join (Str.ofString "") (cs.map one) = Str.join (Str.ofString "") (cs.map one) := StrLaws.glued_eq_join _ _
  rw [e]
  exact str_join_codes cs
theorem str_length (z : Str) : z.length = z.cps.toList.length := by
  show z.cps.size = z.cps.toList.length
  simp
/-- a word: at most eight small letters -/
def Wd (z : Str) : Prop := 1 ≤ z.cps.toList.length ∧ z.cps.toList.length ≤ 8 ∧ ∀ c ∈ z.cps.toList, 97 ≤ c ∧ c ≤ 122
def abc : Str := "abcdefghijklmnopqrstuvwxyz"
theorem abc_at {r : Int} (h0 : 0 ≤ r) (h1 : r < 26) : abc.cps[r.toNat]? = some (97 + r.toNat) := by
  obtain ⟨n, rfl⟩ := Int.eq_ofNat_of_zero_le h0
  have hn : n < 26 := by omega
  have key : ∀ n : Fin 26, abc.cps[((n.val : Nat) : Int).toNat]? = some (97 + ((n.val : Nat) : Int).toNat) := by decide +kernel
  exact key ⟨n, hn⟩
theorem ones_len : ∀ cs : List Nat, ((cs.map one).map (·.length)).sum = cs.length
  | [] => rfl
  | c :: cs => by
    have ih := ones_len cs
    simp only [List.map_cons, List.sum_cons, List.length_cons, ih]
    show 1 + _ = _
    omega
/-- all that is tracked beside p stays -/
def But (p : Addr) (H H' : Hp) : Prop := ∀ b o, b ≠ p → H b = some o → H' b = some o
section
variable {P : Program} {w : World} {K : PySem.W.Frag} {mg : Str → Option Value} {base : Heap}
/-! ### _law_one_of -/
def spOneOf : Sp := fun vs H Q _ => ∃ (p l : Addr) (n : Int) (xs zs : List V), vs = [.ref p, .ref l] ∧ H p = some (.lst xs) ∧ PuOk n xs ∧ n ≤ 900000 ∧ H l = some (.lst zs) ∧ p ≠ l ∧ 0 < zs.length ∧ zs.length < 128 ∧
  ∀ (j : Nat) (z : V) (ys : List V), zs[j]? = some z → PuOk (n + 1) ys → Q z (upd H p (.lst ys))
theorem scOneOf : FnScope ["_law_purse_here", "_law_some"] ["_law_purse_here", "_law_some"] (defScope sOneOf) := ⟨rfl, rfl, rfl, by decide +kernel, rfl, by decide +kernel, by decide +kernel⟩
theorem ok_oneOf {f g : Addr} {fd fdD : FuncData} (F : FnP K "_law_one_of" sOneOf f fd) (GD : FnOk P w K mg base CX0 2 g fdD ["_law_purse_here", "_law_many"] spDraw) (FD : FnP K "_law_draw" sDraw g fdD) (hgD : mg "_law_draw" = some (.ref g)) (T : Tx K mg) :
    FnOk P w K mg base CX0 3 f fd ["_law_purse_here", "_law_some"] spOneOf := by
  have bD : Binds K fdD ["_law_purse_here", "_law_many"] [] := FD.bindsN fun _ _ _ _ _ _ us hl => match us, hl with | [_, _], _ => rfl
  refine F.ok scOneOf (fun vs H Q E h => ?_) (fun cdv A outer s H vs Q E hr h => ?_)
  · obtain ⟨_, _, _, _, _, rfl, _⟩ := h
    rfl
  · obtain ⟨p, l, n, xs, zs, rfl, hp, hx, hn, hl, npl, l0, l1, q⟩ := h
    have gL := T.fr "len" (by decide +kernel)
    refine ⟨_, PSs.nox (pss_one (ps_ret (pe_ix ix_list (pv 1) (pe_call GD hr rfl hgD FD.kp bD .nil pass0 (pa_cons (pv 0) (pa_cons (pe_callB call_len_seq (by rfl) gL PySem.boot_len (pa_cons (pv 1) pa_nil)) pa_nil))) (fun _ _ => rfl)))), ?_⟩
    refine ⟨_, rfl, _, rfl, _, rfl, l, _, rfl, Or.inl (SqL.of hl), p, _, n, xs, rfl, hp, hx, hn, by omega, by omega, fun r ys r0 r1 hy => ?_⟩
    obtain ⟨j, rfl⟩ := Int.eq_ofNat_of_zero_le r0
    have hj : j < zs.length := by omega
    have e : zs[j]? = some zs[j] := List.getElem?_eq_getElem hj
    exact ⟨l, zs, (j : Nat), zs[j], rfl, rfl, SqL.of (by rw [upd_ne (Ne.symm npl)]; exact hl), atI_nat e, q j _ ys e hy⟩
/-! ### _law_word -/
def spWord : Sp := fun vs H Q _ => ∃ (p : Addr) (n : Int) (xs : List V), vs = [.ref p] ∧ H p = some (.lst xs) ∧ PuOk n xs ∧ n ≤ 800000 ∧
  ∀ (z : Str) (ys : List V) (H' : Hp), Wd z → PuOk (n + 10) ys → But p H H' → H' p = some (.lst ys) → Q (.str z) H'
theorem scWord : FnScope ["_law_purse_here", "_law_size", "_law_turn"] ["_law_purse_here"] (defScope sWord) := ⟨rfl, rfl, rfl, by decide +kernel, rfl, by decide +kernel, by decide +kernel⟩
theorem ok_word {f g : Addr} {fd fdD : FuncData} (F : FnP K "_law_word" sWord f fd) (GD : FnOk P w K mg base CX0 2 g fdD ["_law_purse_here", "_law_many"] spDraw) (FD : FnP K "_law_draw" sDraw g fdD) (hgD : mg "_law_draw" = some (.ref g)) (T : Tx K mg) :
    FnOk P w K mg base CX0 3 f fd ["_law_purse_here"] spWord := by
  have bD : Binds K fdD ["_law_purse_here", "_law_many"] [] := FD.bindsN fun _ _ _ _ _ _ us hl => match us, hl with | [_, _], _ => rfl
  refine F.ok scWord (fun vs H Q E h => ?_) (fun cdv A outer s H vs Q E hr h => ?_)
  · obtain ⟨_, _, _, rfl, _⟩ := h
    rfl
  · obtain ⟨p, n, xs, rfl, hp, hx, hn, q⟩ := h
    have gR := T.fr "range" (by decide +kernel)
    refine ⟨_, PSs.nox (pss_cons (ps_set (i := 1) scWord.nd rfl (Or.inl rfl) (pe_op op_add pe_int (pe_call GD hr rfl hgD FD.kp bD .nil pass0 (pa_cons (pv 0) (pa_cons
        (pe_ifExp (pt_cmpR op_eq (pe_call GD hr rfl hgD FD.kp bD .nil pass0 (pa_cons (pv 0) (pa_cons pe_int pa_nil))) pe_int (nomark _)) pe_int pe_int) pa_nil)))))
      (pss_one (ps_ret (pe_join pe_str (pe_lc (own := [("_law_turn", 2)]) (g := gName 2) (tt := tYes) rfl scWord.nd (pi_range1 rfl gR (pa_cons (pv 1) pa_nil)) (blkOk_by (own := [("_law_turn", 2)]) (N := ["_law_purse_here", "_law_size", "_law_turn"]) (sc := defScope sWord) (by decide +kernel))
        (fun _ _ _ _ _ => pg_name (i := 2) scWord.nd rfl (Or.inl rfl)) (fun _ _ _ _ _ => pts_nil)
        (fun _ _ _ _ _ => pe_item_str pe_str (pe_call GD hr rfl hgD FD.kp bD .nil pass0 (pa_cons (pv 0) (pa_cons pe_int pa_nil))) (fun _ _ => rfl))))))), ?_⟩
    refine ⟨_, rfl, _, rfl, p, 3, n, xs, rfl, hp, hx, by omega, by decide, by decide, fun r1 ys1 a1 b1 hy1 => ⟨rfl, _, rfl, ?_⟩⟩
    refine ite2 (fun _ => ?_) (fun _ => ?_)
    all_goals
      refine ⟨p, _, n + 1, ys1, rfl, upd_same, hy1, by omega, by decide, by decide, fun r2 ys2 a2 b2 hy2 => ?_⟩
      refine ⟨_, _, rfl, rfl, ⟨_, rfl⟩, _, rfl, _, rfl, by omega, by omega, fun D hD => ?_⟩
      have hp2 : upd (upd H p (.lst ys1)) p (.lst ys2) p = some (.lst ys2) := upd_same
      have npD : p ≠ D := ne_of_none hp2 hD
      refine lc_range (lo := 0) (n := (1 + r2).toNat) (fun i H' => ∃ (xs' : List V) (cs : List Nat), H' p = some (.lst xs') ∧ PuOk (n + 2 + (i : Nat)) xs' ∧ cs.length = i ∧ (∀ c ∈ cs, 97 ≤ c ∧ c ≤ 122) ∧ H' D = some (.lst ((cs.map one).map V.str)) ∧ But p H H')
        ⟨ys2, [], by rw [upd_ne npD]; exact hp2, hy2.mono (by omega), rfl, fun c z => absurd z (by simp), upd_same, fun b o nb e => ?_⟩ ?_ ?_
      · have e2 : upd (upd H p (.lst ys1)) p (.lst ys2) b = some o := by rw [upd_ne nb, upd_ne nb]; exact e
        rw [upd_ne (ne_of_none e2 hD)]
        exact e2
      · rintro i H' hi ⟨xs', cs, h1, h2, h3, h4, h5, h6⟩
        refine ⟨rfl, _, rfl, p, 26, n + 2 + (i : Nat), xs', rfl, h1, h2, by omega, by decide, by decide, fun r ys r0 r3 hy => ?_⟩
        have hl : (abc.length : Int) = 26 := by decide +kernel
        refine ⟨abc, r, 97 + r.toNat, rfl, rfl, r0, by omega, by omega, abc_at r0 r3, (cs.map one).map V.str, by rw [upd_ne (Ne.symm npD)]; exact h5, ?_, ys, cs ++ [97 + r.toNat], ?_, hy.mono (by push_cast; omega), by simp [h3], ?_, ?_, ?_⟩
        · rw [List.length_map, List.length_map, h3, sizeLine_eq]
          omega
        · rw [upd_ne npD]
          exact upd_same
        · intro c hc
          rcases List.mem_append.mp hc with z | z
          · exact h4 c z
          · have e := List.mem_singleton.mp z
            omega
        · rw [upd_same, List.map_append, List.map_append]
          rfl
        · intro b o nb e
          have e2 := h6 b o nb e
          have nD : b ≠ D := fun z => by
            have e3 : upd (upd H p (.lst ys1)) p (.lst ys2) b = some o := by rw [upd_ne nb, upd_ne nb]; exact e
            rw [z, hD] at e3
            cases e3
          rw [upd_ne nD, upd_ne nb]
          exact e2
      · rintro H' ⟨xs', cs, h1, h2, h3, h4, h5, h6⟩
        have e := join_codes cs
        refine ⟨_, D, cs.map one, rfl, rfl, Or.inl (SqL.of h5), ?_, q _ xs' H' ⟨?_, ?_, ?_⟩ (h2.mono (by omega)) h6 h1⟩
        · rw [ones_len, List.length_map, h3]
          have : (Str.ofString "").length = 0 := by decide +kernel
          rw [this]
          omega
        · rw [e, h3]
          omega
        · rw [e, h3]
          omega
        · rw [e]
          exact h4
end
end K4
end
section
set_option Elab.async false
set_option linter.all false
set_option maxRecDepth 100000
set_option maxHeartbeats 4000000
namespace K4
open PySem PySem.Spec PyProof.Rows L2
section
variable {P : Program} {w : World} {K : PySem.W.Frag} {mg : Str → Option Value} {base : Heap}
theorem cut_ints (ns : List Int) (i j : Int) : cutV (ns.map V.int) (some i) (some j) = ((ns.drop (HT.sIx ns.length 0 (some i))).take (HT.sIx ns.length ns.length (some j) - HT.sIx ns.length 0 (some i))).map V.int := by
  unfold cutV
  rw [List.length_map, List.map_take, List.map_drop]
/-! ### _law_purse -/
def spPurse (K : PySem.W.Frag) : Sp := fun vs H Q _ => ∃ (a : Addr) (k : Int) (ns : List Int), vs = [.ref a, .int k] ∧ SqL K H a (ns.map V.int) ∧ 0 ≤ k ∧ k ≤ 3 ∧
  ∀ (r : Addr) (xs : List V) (H' : Hp), PuOk 0 xs → Same H H' → H r = none → H' r = some (.lst xs) → Q (.ref r) H'
theorem scPurse : FnScope ["_law_script", "_law_at", "_law_seed"] ["_law_script", "_law_at"] (defScope sPurse) := ⟨rfl, rfl, rfl, by decide +kernel, rfl, by decide +kernel, by decide +kernel⟩
theorem ok_purse {f : Addr} {fd : FuncData} (F : FnP K "_law_purse" sPurse f fd) (T : Tx K mg) : FnOk P w K mg base CX0 1 f fd ["_law_script", "_law_at"] (spPurse K) := by
  refine F.ok scPurse (fun vs H Q E h => ?_) (fun cdv A outer s H vs Q E hr h => ?_)
  · obtain ⟨_, _, _, rfl, _⟩ := h
    rfl
  · obtain ⟨a, k, ns, rfl, hS, k0, k1, q⟩ := h
    have gI := T.fr "int" (by decide +kernel)
    have gM := T.fr "max" (by decide +kernel)
    have gS := T.fr "sum" (by decide +kernel)
    refine ⟨_, PSs.nox (pss_cons (ps_set (i := 2) scPurse.nd rfl (Or.inl rfl) (pe_callB (cr_sum rfl) (by rfl) gS (by decide +kernel) (pa_cons (pe_slice sl_list (pv 0) (po_some (pv 1)) (po_some (pe_op op_add (pv 1) pe_int))) pa_nil)))
      (pss_one (ps_ret (pe_lst (pa_cons (pe_op op_mod (pe_callTy call_int1 (by rfl) gI (by decide +kernel) (pa_cons (pe_callB (call_max2 rfl) (by rfl) gM (by decide +kernel) (pa_cons (pe_op op_sub (pv 2) (pe_op op_pow pe_int pe_int)) (pa_cons pe_int pa_nil))) pa_nil)) (pe_op op_powB (pe_op op_pow pe_int pe_int) pe_int))
        (pa_cons (pe_op op_mod (pe_callTy call_int1 (by rfl) gI (by decide +kernel) (pa_cons (pv 2) pa_nil)) pe_int) (pa_cons pe_int (pa_cons (pv 1) pa_nil)))))))), ?_⟩
    refine ⟨_, rfl, _, rfl, _, rfl, _, rfl, _, _, rfl, rfl, _, rfl, a, _, rfl, hS, fun b hb => ?_⟩
    refine ⟨b, _, rfl, SqL.of (by rw [upd_same, cut_ints]), ?_⟩
    refine ⟨_, rfl, _, _, rfl, rfl, ⟨by decide, by decide, by decide +kernel⟩, _, _, rfl, rfl, _, _, rfl, Or.inl ⟨_, rfl, _, _, rfl, rfl, ⟨by decide, by decide, by decide +kernel⟩, _, _, rfl, rfl, ⟨by decide, by decide +kernel⟩, ?_⟩⟩
    refine ⟨_, _, rfl, rfl, (by show (0 : Int) < (10 ^ Int.toNat 60) ^ Int.toNat 8; decide +kernel), _, rfl, Or.inl ⟨_, rfl, _, _, rfl, rfl, (by show (0 : Int) < _; decide), _, rfl, (by show 4 ≤ sizeLine; decide +kernel), fun r hr => ?_⟩⟩
    refine q r _ _ ⟨_, _, _, _, rfl, Int.emod_nonneg _ (by decide +kernel), Int.emod_nonneg _ (by decide), Int.emod_lt_of_pos _ (by decide), by decide, by decide, k0, k1⟩ (fun c o e => ?_) ?_ upd_same
    · have e2 : upd H b (.lst (cutV (ns.map V.int) (some k) (some (k + 1)))) c = some o := by rw [upd_ne (ne_of_none e hb)]; exact e
      rw [upd_ne (ne_of_none e2 hr)]
      exact e2
    · have nrb : r ≠ b := fun z => by
        rw [z, upd_same] at hr
        cases hr
      rw [upd_ne nrb] at hr
      exact hr
/-! ### _law_purses -/
/-- purses at ps, new since H, the list of them at D -/
def PsAt (H H' : Hp) (D : Addr) (ps : List Addr) : Prop := Same H H' ∧ H' D = some (.lst (ps.map V.ref)) ∧ ps.Nodup ∧ ∀ p ∈ ps, H p = none ∧ p ≠ D ∧ ∃ xs, H' p = some (.lst xs) ∧ PuOk 0 xs
def spPurses (K : PySem.W.Frag) : Sp := fun vs H Q _ => ∃ (a : Addr) (ns : List Int), vs = [.ref a, .int 3] ∧ SqL K H a (ns.map V.int) ∧
  ∀ (D : Addr) (ps : List Addr) (H' : Hp), ps.length ≤ 3 → H D = none → PsAt H H' D ps → Q (.ref D) H'
theorem scPurses : FnScope ["_law_script", "_law_few", "_law_at"] ["_law_script", "_law_few"] (defScope sPurses) := ⟨rfl, rfl, rfl, by decide +kernel, rfl, by decide +kernel, by decide +kernel⟩
theorem ok_purses {f g : Addr} {fd fdP : FuncData} (F : FnP K "_law_purses" sPurses f fd) (FP : FnP K "_law_purse" sPurse g fdP) (hgP : mg "_law_purse" = some (.ref g)) (T : Tx K mg) : FnOk P w K mg base CX0 2 f fd ["_law_script", "_law_few"] (spPurses K) := by
  have GP : FnOk P w K mg base CX0 1 g fdP ["_law_script", "_law_at"] (spPurse K) := ok_purse FP T
  have bP : Binds K fdP ["_law_script", "_law_at"] [] := FP.bindsN fun _ _ _ _ _ _ us hl => match us, hl with | [_, _], _ => rfl
  refine F.ok scPurses (fun vs H Q E h => ?_) (fun cdv A outer s H vs Q E hr h => ?_)
  · obtain ⟨_, _, rfl, _⟩ := h
    rfl
  · obtain ⟨a, ns, rfl, hS, q⟩ := h
    have gR := T.fr "range" (by decide +kernel)
    have gMa := T.fr "max" (by decide +kernel)
    have gMi := T.fr "min" (by decide +kernel)
    have gL := T.fr "len" (by decide +kernel)
    refine ⟨_, PSs.nox (pss_one (ps_ret (pe_lc (own := [("_law_at", 2)]) (g := gName 2) (tt := tYes) rfl scPurses.nd
        (pi_range1 rfl gR (pa_cons (pe_callB (call_max2 rfl) (by rfl) gMa (by decide +kernel) (pa_cons pe_int (pa_cons (pe_callB (call_min2 rfl) (by rfl) gMi (by decide +kernel) (pa_cons (pv 1) (pa_cons (pe_callB call_len_seq (by rfl) gL PySem.boot_len (pa_cons (pv 0) pa_nil)) pa_nil))) pa_nil))) pa_nil))
        (blkOk_by (own := [("_law_at", 2)]) (N := ["_law_script", "_law_few", "_law_at"]) (sc := defScope sPurses) (by decide +kernel))
        (fun _ _ _ _ _ => pg_name (i := 2) scPurses.nd rfl (Or.inl rfl)) (fun _ _ _ _ _ => pts_nil)
        (fun _ _ _ _ _ => pe_call GP hr rfl hgP FP.kp bP .nil pass0 (pa_cons (pv 0) (pa_cons (pv 2) pa_nil)))))), ?_⟩
    have hm : ∀ z : Int, 0 ≤ z → (1 : Int) ≤ (if (if z < 3 then z else 3) > 1 then (if z < 3 then z else 3) else 1) ∧ (if (if z < 3 then z else 3) > 1 then (if z < 3 then z else 3) else 1) ≤ 3 := fun z hz => by
      by_cases h1 : z < 3
      · rw [if_pos h1]
        by_cases h2 : z > 1
        · rw [if_pos h2]; omega
        · rw [if_neg h2]; omega
      · rw [if_neg h1, if_pos (by decide)]; omega
    have hm2 := hm ((ns.map V.int).length : Nat) (by omega)
    refine ⟨_, rfl, _, rfl, a, _, rfl, Or.inl hS, _, _, rfl, _, _, rfl, _, rfl, by omega, by omega, fun D hD => ?_⟩
    generalize hn : (if (if (((ns.map V.int).length : Nat) : Int) < 3 then (((ns.map V.int).length : Nat) : Int) else 3) > 1 then (if (((ns.map V.int).length : Nat) : Int) < 3 then (((ns.map V.int).length : Nat) : Int) else 3) else 1) = n at hm2 ⊢
    refine lc_range (lo := 0) (n := n.toNat) (fun i H' => ∃ ps : List Addr, ps.length = i ∧ PsAt H H' D ps) ⟨[], rfl, fun b o e => ?_, upd_same, List.nodup_nil, fun p z => absurd z (by simp)⟩ ?_ ?_
    · rw [upd_ne (ne_of_none e hD)]
      exact e
    · rintro i H' hi ⟨ps, hl, s0, hd, nd, hp⟩
      refine ⟨rfl, _, rfl, _, rfl, a, _, ns, rfl, s0.seq hS, by omega, by omega, fun r xs H2 hx s1 hr2 h2 => ?_⟩
      have nrD : r ≠ D := fun z => by
        rw [z, hd] at hr2
        cases hr2
      have hr0 : H r = none := s0.free hr2
      refine ⟨ps.map V.ref, s1 _ _ hd, by rw [List.length_map, hl, sizeLine_eq]; omega, ps ++ [r], by simp [hl], fun b o e => ?_, ?_, ?_, ?_⟩
      · rw [upd_ne (ne_of_none e hD)]
        exact s1 _ _ (s0 _ _ e)
      · rw [upd_same, List.map_append]
        rfl
      · refine List.nodup_append.mpr ⟨nd, by simp, fun b hb c hc => ?_⟩
        have e : c = r := List.mem_singleton.mp hc
        rw [e]
        intro z
        obtain ⟨_, _, xs', e2, _⟩ := hp b hb
        rw [z, hr2] at e2
        cases e2
      · intro p hpm
        rcases List.mem_append.mp hpm with z | z
        · obtain ⟨e1, e2, xs', e3, e4⟩ := hp p z
          exact ⟨e1, e2, xs', by rw [upd_ne e2]; exact s1 _ _ e3, e4⟩
        · have e : p = r := List.mem_singleton.mp z
          rw [e]
          exact ⟨hr0, nrD, xs, by rw [upd_ne nrD]; exact h2, hx⟩
    · rintro H' ⟨ps, hl, h⟩
      exact q D ps H' (by omega) hD h
end
end K4
end
section
set_option Elab.async false
set_option linter.all false
set_option maxRecDepth 100000
set_option maxHeartbeats 4000000
namespace K4
open PySem PySem.Spec PyProof.Rows L2
abbrev DrawZ (P : Program) (w : World) (K : PySem.W.Frag) (mg : Str → Option Value) (base : Heap) : Prop := Fz P w K mg base "_law_draw" 2 ["_law_purse_here", "_law_many"] spDraw
theorem same_upd {H : Hp} {a : Addr} {o : HO} (h : H a = none) : Same H (upd H a o) := fun b u e => by
  rw [upd_ne (ne_of_none e h)]
  exact e
theorem same_trans {A B C : Hp} (x : Same A B) (y : Same B C) : Same A C := fun b u e => y b u (x b u e)
theorem ifF {c : Prop} [Decidable c] {p q : Prop} (h : ¬ c) (hq : q) : if c then p else q := by
  rw [if_neg h]
  exact hq
theorem ifT {c : Prop} [Decidable c] {p q : Prop} (h : c) (hp : p) : if c then p else q := by
  rw [if_pos h]
  exact hp
theorem but_new {p D : Addr} {H : Hp} {o : HO} (n : H D = none) : But p H (upd H D o) := fun b u _ e => by
  rw [upd_ne (ne_of_none e n)]
  exact e
theorem but_self {p : Addr} {H : Hp} {o : HO} : But p H (upd H p o) := fun b u nb e => by
  rw [upd_ne nb]
  exact e
theorem But.trans {p : Addr} {A B C : Hp} (x : But p A B) (y : But p B C) : But p A C := fun b u nb e => y b u nb (x b u nb e)
theorem Same.but {p : Addr} {A B : Hp} (x : Same A B) : But p A B := fun b u _ e => x b u e
theorem But.free {p b : Addr} {A B : Hp} (x : But p A B) (n : B b = none) (nb : b ≠ p) : A b = none := by
  cases e : A b with
  | none => rfl
  | some u =>
    rw [x b u nb e] at n
    cases n
/-- the purse at p, n draws at most -/
def Pu (H : Hp) (p : Addr) (n : Int) : Prop := ∃ xs, H p = some (.lst xs) ∧ PuOk n xs
theorem Pu.mono {H : Hp} {p : Addr} {n m : Int} (h : Pu H p n) (l : n ≤ m) : Pu H p m := by
  obtain ⟨xs, h1, h2⟩ := h
  exact ⟨xs, h1, h2.mono l⟩
theorem Pu.upd {H : Hp} {p q : Addr} {n : Int} {o : HO} (h : Pu H p n) (ne : p ≠ q) : Pu (upd H q o) p n := by
  obtain ⟨xs, h1, h2⟩ := h
  exact ⟨xs, by rw [upd_ne ne]; exact h1, h2⟩
section
variable {P : Program} {w : World} {K : PySem.W.Frag} {mg : Str → Option Value} {base : Heap}
/-! ### _law_shuffled -/
def spShuffled : Sp := fun vs H Q _ => ∃ (p l : Addr) (n : Int) (zs : List V), vs = [.ref p, .ref l] ∧ Pu H p n ∧ n ≤ 800000 ∧ H l = some (.lst zs) ∧ l ≠ p ∧ zs.length ≤ 120 ∧
  ∀ (D : Addr) (us : List V) (H' : Hp), us.Perm zs → Pu H' p (n + (zs.length : Nat)) → But p H H' → H D = none → H' D = some (.lst us) → Q (.ref D) H'
theorem scShuffled : FnScope ["_law_purse_here", "_law_some", "_law_found", "_law_item"] ["_law_purse_here", "_law_some"] (defScope sShuffled) := ⟨rfl, rfl, rfl, by decide +kernel, rfl, by decide +kernel, by decide +kernel⟩
theorem ok_shuffled {f : Addr} {fd : FuncData} (F : FnP K "_law_shuffled" sShuffled f fd) (G : DrawZ P w K mg base) (T : Tx K mg) : FnOk P w K mg base CX0 3 f fd ["_law_purse_here", "_law_some"] spShuffled := by
  refine F.ok scShuffled (fun vs H Q E h => ?_) (fun cdv A outer s H vs Q E hr h => ?_)
  · obtain ⟨_, _, _, _, rfl, _⟩ := h
    rfl
  · obtain ⟨p, l, n, zs, rfl, ⟨xs, hp, hx⟩, hn, hl, nlp, hz, q⟩ := h
    have gL := T.fr "len" (by decide +kernel)
    refine ⟨_, PSs.nox (pss_cons (ps_set (i := 2) scShuffled.nd rfl (Or.inl rfl) (pe_lst pa_nil))
      (pss_cons (ps_for PassesOwn.never rfl (pi_list (pv 1)) (pg_name (i := 3) scShuffled.nd rfl (Or.inl rfl))
        (pss_one (ps_expr (pe_bm PySem.F.plainAttrs_list PySem.F.slot_list_insert PySem.F.type_list_insert mt_insert (pv 2)
          (pa_cons (pe_fz G hr (by rfl) (pa_cons (pv 0) (pa_cons (pe_op op_add (pe_callB call_len_seq (by rfl) gL PySem.boot_len (pa_cons (pv 2) pa_nil)) pe_int) pa_nil))) (pa_cons (pv 3) pa_nil))))))
      (pss_one (ps_ret (pv 2))))), ?_⟩
    refine ⟨Nat.zero_le _, fun D nD => ?_⟩
    have npD : p ≠ D := ne_of_none hp nD
    have nlD : l ≠ D := ne_of_none hl nD
    refine ⟨_, rfl, l, rfl, ⟨_, SqL.of (by rw [upd_ne nlD]; exact hl)⟩, ?_⟩
    refine for_list (K := K) (a := l) (xs := zs) (fun i σ H' => (∃ o3, σ = [some (.ref p), some (.ref l), some (.ref D), o3]) ∧ Pu H' p (n + (i : Nat)) ∧ But p H H' ∧ ∃ us, H' D = some (.lst us) ∧ us.Perm (zs.take i))
      ⟨⟨_, rfl⟩, ⟨xs, by rw [upd_ne npD]; exact hp, hx.mono (by omega)⟩, but_new nD, [], upd_same, List.Perm.refl _⟩ (fun i σ H' _ h => SqL.of (h.2.2.1 l _ nlp hl)) ?_ ?_
    · rintro i x σ H' hi ⟨⟨o3, rfl⟩, ⟨xs1, hp1, hx1⟩, bu, us, hD, pu⟩
      have lt : i < zs.length := (List.getElem?_eq_some_iff.mp hi).1
      have ul : us.length = i := by rw [pu.length_eq, List.length_take]; omega
      refine ⟨_, rfl, Or.inl ⟨rfl, _, SqL.of hD⟩, _, rfl, _, rfl, D, us, rfl, Or.inl (SqL.of hD), _, _, rfl, rfl, ?_⟩
      refine ⟨p, _, n + (i : Nat), xs1, rfl, hp1, hx1, by omega, by omega, by omega, fun r ys r0 r1 hy => ?_⟩
      refine ⟨_, rfl, D, us, r, x, rfl, rfl, by rw [upd_ne (Ne.symm npD)]; exact hD, by rw [ul, sizeLine_eq]; omega, r0, by omega, ?_⟩
      refine ⟨⟨_, rfl⟩, ⟨ys, by rw [upd_ne npD]; exact upd_same, hy.mono (by push_cast; omega)⟩, fun b o nb e => ?_, _, upd_same, ?_⟩
      · have nbD : b ≠ D := ne_of_none e nD
        rw [upd_ne nbD, upd_ne nb]
        exact bu b o nb e
      · have e : zs.take (i + 1) = zs.take i ++ [x] := by
          rw [List.take_add_one, hi]
          rfl
        rw [e]
        have p1 : (us.take r.toNat ++ [x] ++ us.drop r.toNat).Perm (us ++ [x]) := by
          have h1 : (us.take r.toNat ++ [x] ++ us.drop r.toNat).Perm (x :: (us.take r.toNat ++ us.drop r.toNat)) := by
            rw [List.append_assoc]
            exact List.perm_middle
          rw [List.take_append_drop] at h1
          exact h1.trans (List.perm_append_singleton x us).symm
        exact p1.trans (pu.append_right [x])
    · rintro σ H' ⟨⟨o3, rfl⟩, hp2, bu, us, hD, pu⟩
      rw [List.take_length] at pu
      exact ⟨_, rfl, q D us H' pu hp2 bu nD hD⟩
end
end K4
end
section
set_option Elab.async false
set_option linter.all false
set_option maxRecDepth 100000
set_option maxHeartbeats 4000000
namespace K4
open PySem PySem.Spec PyProof.Rows L2
abbrev OneZ (P : Program) (w : World) (K : PySem.W.Frag) (mg : Str → Option Value) (base : Heap) : Prop := Fz P w K mg base "_law_one_of" 3 ["_law_purse_here", "_law_some"] spOneOf
section
variable {P : Program} {w : World} {K : PySem.W.Frag} {mg : Str → Option Value} {base : Heap}
/-! ### _law_width, _law_length -/
def spSmall : Sp := fun vs H Q _ => ∃ (p : Addr) (n : Int), vs = [.ref p] ∧ Pu H p n ∧ n ≤ 800000 ∧ ∀ (r : Int) (H' : Hp), 0 ≤ r → r ≤ 9 → Pu H' p (n + 1) → But p H H' → Q (.int r) H'
theorem scWidth : FnScope ["_law_purse_here"] ["_law_purse_here"] (defScope sWidth) := ⟨rfl, rfl, rfl, by decide +kernel, rfl, by decide +kernel, by decide +kernel⟩
theorem scLength : FnScope ["_law_purse_here"] ["_law_purse_here"] (defScope sLength) := ⟨rfl, rfl, rfl, by decide +kernel, rfl, by decide +kernel, by decide +kernel⟩
theorem small_pick {p : Addr} {n : Int} {H : Hp} {Q : VK} {zs : List Int} (hl : zs.length = 8) (hz : ∀ z ∈ zs, 0 ≤ z ∧ z ≤ 9) (hp : Pu H p n) (hn : n ≤ 800000) (q : ∀ (r : Int) (H' : Hp), 0 ≤ r → r ≤ 9 → Pu H' p (n + 1) → But p H H' → Q (.int r) H')
    {D : Addr} (nD : H D = none) : spOneOf [.ref p, .ref D] (upd H D (.lst (zs.map V.int))) Q E0 := by
  obtain ⟨xs, h1, h2⟩ := hp
  have npD : p ≠ D := ne_of_none h1 nD
  refine ⟨p, D, n, xs, zs.map V.int, rfl, by rw [upd_ne npD]; exact h1, h2, by omega, upd_same, npD, by rw [List.length_map, hl]; decide, by rw [List.length_map, hl]; decide, fun j z ys e hy => ?_⟩
  rw [List.getElem?_map] at e
  cases e2 : zs[j]? with
  | none =>
    rw [e2] at e
    cases e
  | some i =>
    rw [e2] at e
    cases e
    have b := hz i (List.mem_of_getElem? e2)
    exact q i _ b.1 b.2 ⟨ys, upd_same, hy⟩ ((but_new nD).trans but_self)
theorem ok_width {f : Addr} {fd : FuncData} (F : FnP K "_law_width" sWidth f fd) (G : OneZ P w K mg base) : FnOk P w K mg base CX0 4 f fd ["_law_purse_here"] spSmall := by
  refine F.ok scWidth (fun vs H Q E h => ?_) (fun cdv A outer s H vs Q E hr h => ?_)
  · obtain ⟨_, _, rfl, _⟩ := h
    rfl
  · obtain ⟨p, n, rfl, hp, hn, q⟩ := h
    refine ⟨_, PSs.nox (pss_one (ps_ret (pe_fz G hr (by rfl) (pa_cons (pv 0) (pa_cons (pe_lst (pa_cons pe_int (pa_cons pe_int (pa_cons pe_int (pa_cons pe_int (pa_cons pe_int (pa_cons pe_int (pa_cons pe_int (pa_cons pe_int pa_nil))))))))) pa_nil))))), ?_⟩
    exact ⟨_, rfl, (by show 8 ≤ sizeLine; decide +kernel), fun D nD => small_pick (zs := [0, 1, 1, 1, 2, 2, 3, 9]) rfl (by decide) hp hn q nD⟩
theorem ok_length {f : Addr} {fd : FuncData} (F : FnP K "_law_length" sLength f fd) (G : OneZ P w K mg base) : FnOk P w K mg base CX0 4 f fd ["_law_purse_here"] spSmall := by
  refine F.ok scLength (fun vs H Q E h => ?_) (fun cdv A outer s H vs Q E hr h => ?_)
  · obtain ⟨_, _, rfl, _⟩ := h
    rfl
  · obtain ⟨p, n, rfl, hp, hn, q⟩ := h
    refine ⟨_, PSs.nox (pss_one (ps_ret (pe_fz G hr (by rfl) (pa_cons (pv 0) (pa_cons (pe_lst (pa_cons pe_int (pa_cons pe_int (pa_cons pe_int (pa_cons pe_int (pa_cons pe_int (pa_cons pe_int (pa_cons pe_int (pa_cons pe_int pa_nil))))))))) pa_nil))))), ?_⟩
    exact ⟨_, rfl, (by show 8 ≤ sizeLine; decide +kernel), fun D nD => small_pick (zs := [0, 1, 1, 2, 2, 3, 5, 9]) rfl (by decide) hp hn q nD⟩
/-! ### _law_pair -/
def spPair : Sp := fun vs H Q _ => ∃ (p l : Addr) (n : Int) (ws : List Str), vs = [.ref p, .ref l] ∧ Pu H p n ∧ n ≤ 800000 ∧ H l = some (.lst (ws.map V.str)) ∧ l ≠ p ∧ ws.Nodup ∧ 2 ≤ ws.length ∧ ws.length ≤ 100 ∧
  ∀ (t : Addr) (a b : Str) (H' : Hp), a ∈ ws → b ∈ ws → a ≠ b → Pu H' p (n + 2) → But p H H' → H t = none → H' t = some (.tup [.str a, .str b]) → Q (.ref t) H'
theorem scPair : FnScope ["_law_purse_here", "_law_crossings", "_law_start", "_law_other"] ["_law_purse_here", "_law_crossings"] (defScope sPair) := ⟨rfl, rfl, rfl, by decide +kernel, rfl, by decide +kernel, by decide +kernel⟩
theorem ok_pair {f : Addr} {fd : FuncData} (F : FnP K "_law_pair" sPair f fd) (G : OneZ P w K mg base) : FnOk P w K mg base CX0 4 f fd ["_law_purse_here", "_law_crossings"] spPair := by
  refine F.ok scPair (fun vs H Q E h => ?_) (fun cdv A outer s H vs Q E hr h => ?_)
  · obtain ⟨_, _, _, _, rfl, _⟩ := h
    rfl
  · obtain ⟨p, l, n, ws, rfl, ⟨xs, hp, hx⟩, hn, hl, nlp, nd, h2, h100, q⟩ := h
    refine ⟨_, PSs.nox (pss_cons (ps_set (i := 2) scPair.nd rfl (Or.inr rfl) (pe_fz G hr (by rfl) (pa_cons (pv 0) (pa_cons (pv 1) pa_nil))))
      (pss_one (ps_ret (pe_tup (pa_cons (pv 2) (pa_cons (pe_fz G hr (by rfl) (pa_cons (pv 0) (pa_cons
        (pe_lc (own := [("_law_other", 3)]) (g := gName 3) (tt := _) rfl scPair.nd (pi_list (pv 1)) (blkOk_by (own := [("_law_other", 3)]) (N := ["_law_purse_here", "_law_crossings", "_law_start", "_law_other"]) (sc := defScope sPair) (by decide +kernel))
          (fun _ _ _ _ _ => pg_name (i := 3) scPair.nd rfl (Or.inl rfl)) (fun _ _ _ _ _ => pts_one (pt_cmpR op_ne (pv 3) (pv 2) (nomark _))) (fun _ _ _ _ _ => pv 3)) pa_nil))) pa_nil)))))), ?_⟩
    refine ⟨_, rfl, _, rfl, p, l, n, xs, ws.map V.str, rfl, hp, hx, by omega, hl, Ne.symm nlp, by rw [List.length_map]; omega, by rw [List.length_map]; omega, fun j z ys e hy => ?_⟩
    rw [List.getElem?_map] at e
    cases e2 : ws[j]? with
    | none =>
      rw [e2] at e
      cases e
    | some a =>
      rw [e2] at e
      cases e
      have ha : a ∈ ws := List.mem_of_getElem? e2
      have hp1 : upd H p (.lst ys) p = some (.lst ys) := upd_same
      have hl1 : upd H p (.lst ys) l = some (.lst (ws.map V.str)) := by rw [upd_ne nlp]; exact hl
      refine ⟨_, rfl, _, rfl, _, rfl, l, rfl, ⟨_, SqL.of hl1⟩, fun D nD => ?_⟩
      have npD : p ≠ D := ne_of_none hp1 nD
      have nlD : l ≠ D := ne_of_none hl1 nD
      refine lc_list (K := K) (a := l) (xs := ws.map V.str) (fun i H' => (∀ b, b ≠ D → H' b = upd H p (.lst ys) b) ∧ H' D = some (.lst (((ws.take i).filter fun x => decide (x ≠ a)).map V.str)))
        ⟨fun b nb => upd_ne nb, upd_same⟩ (fun i H' _ h => SqL.of (by rw [h.1 l nlD]; exact hl1)) ?_ ?_
      · rintro i x H' hi ⟨k1, k2⟩
        rw [List.getElem?_map] at hi
        cases e3 : ws[i]? with
        | none =>
          rw [e3] at hi
          cases hi
        | some c =>
          rw [e3] at hi
          cases hi
          have et : ws.take (i + 1) = ws.take i ++ [c] := by
            rw [List.take_add_one, e3]
            rfl
          have lt : i < ws.length := (List.getElem?_eq_some_iff.mp e3).1
          have ll : ((ws.take i).filter fun x => decide (x ≠ a)).length ≤ i := Nat.le_trans (List.length_filter_le _ _) (by rw [List.length_take]; omega)
          refine ⟨rfl, _, rfl, _, rfl, rfl, _, rfl, ?_⟩
          by_cases hc : c = a
          · subst hc
            refine ifF (by simp) ⟨k1, ?_⟩
            rw [et, List.filter_append]
            simp [k2]
          · refine ifT (by simpa using hc) ⟨_, rfl, _, k2, by rw [List.length_map, sizeLine_eq]; omega, fun b nb => by rw [upd_ne nb]; exact k1 b nb, ?_⟩
            rw [upd_same, et, List.filter_append]
            simp [hc]
      · rintro H' ⟨k1, k2⟩
        rw [List.length_map, List.take_length] at k2
        have hp2 : H' p = some (.lst ys) := by rw [k1 p npD]; exact hp1
        have lpos : 0 < (ws.filter fun x => decide (x ≠ a)).length := by
          rw [List.length_pos_iff_exists_mem]
          have : ∃ b ∈ ws, b ≠ a := by
            match ws, h2, nd with
            | u :: v :: r, _, nd =>
              by_cases hu : u = a
              · refine ⟨v, by simp, fun hv => ?_⟩
                rw [hu, hv] at nd
                simp at nd
              · exact ⟨u, by simp, hu⟩
          obtain ⟨b, hb, nb⟩ := this
          exact ⟨b, List.mem_filter.mpr ⟨hb, by simpa using nb⟩⟩
        have lle : (ws.filter fun x => decide (x ≠ a)).length ≤ 100 := Nat.le_trans (List.length_filter_le _ _) h100
        refine ⟨p, D, n + 1, ys, _, rfl, hp2, hy, by omega, k2, npD, by rw [List.length_map]; exact lpos, by rw [List.length_map]; omega, fun j2 z2 ys2 e3 hy2 => ?_⟩
        rw [List.getElem?_map] at e3
        cases e4 : (ws.filter fun x => decide (x ≠ a))[j2]? with
        | none =>
          rw [e4] at e3
          cases e3
        | some b =>
          rw [e4] at e3
          cases e3
          have hb := List.mem_filter.mp (List.mem_of_getElem? e4)
          refine ⟨(by show 2 ≤ sizeLine; decide +kernel), fun t nt => ?_⟩
          have bu : But p H (upd H' p (.lst ys2)) := fun c o nc e => by
            have nD2 : c ≠ D := ne_of_none (show upd H p (.lst ys) c = some o by rw [upd_ne nc]; exact e) nD
            rw [upd_ne nc, k1 c nD2, upd_ne nc]
            exact e
          have ntp : t ≠ p := fun z => by
            rw [z, upd_same] at nt
            cases nt
          exact q t a b _ ha hb.1 (fun z => by simpa [z] using hb.2) ⟨ys2, by rw [upd_ne (Ne.symm ntp)]; exact upd_same, hy2.mono (by omega)⟩ (bu.trans (but_new nt)) (bu.free nt ntp) upd_same
end
end K4
end
section
set_option Elab.async false
set_option linter.all false
set_option maxRecDepth 100000
set_option maxHeartbeats 4000000
namespace L2
open PySem PySem.Spec PyProof.Rows
/-- list(text): its signs -/
def rListTxt : List V → Hp → VK → Prop := fun vs H Q => ∃ z : Str, vs = [.str z] ∧ z.cps.size ≤ sizeLine ∧ ∀ p, H p = none → Q (.ref p) (upd H p (.lst (z.cps.toList.map fun c => V.str ⟨#[c]⟩)))
theorem call_list_txt {X : Cx} (hc : X.calm = true) : CallR X (.type "list") rListTxt := by
  intro pins s σ H vs us Q I r h
  obtain ⟨z, rfl, hz, q⟩ := h
  obtain ⟨u, rfl, t, rfl⟩ := vals1 r
  refine call_list_str (I.ok.hd hc) z t (hn := hz) fun h' tk acc' c' hk hS hacc => ?_
  refine ⟨.ref s.heap.objs.size, upd H s.heap.objs.size (.lst (z.cps.toList.map fun c => V.str ⟨#[c]⟩)), I.laid hk (Nat.le_refl _) (show ObjOk X.prog X.w _ _ _ (.lst _) from ⟨?_, acc'.toList, c', ?_, ?_⟩), rfl, q _ (I.hok.fresh (Nat.le_refl _))⟩
  · rw [List.length_map, Array.length_toList]
    exact hz
  · refine vals_of_at (by rw [List.length_map, Array.length_toList, Array.length_toList, hacc.1]) fun j x w h1 h2 => ?_
    obtain ⟨c, t', hc', rfl⟩ := hacc.2 j w (by rw [← Array.getElem?_toList]; exact h2)
    rw [List.getElem?_map, Array.getElem?_toList, hc'] at h1
    cases h1
    exact ⟨t', rfl⟩
  · rw [Array.toArray_toList]
    exact hS
end L2
namespace K4
open PySem PySem.Spec PyProof.Rows L2
theorem inV_str (x : Str) (ws : List Str) : inV (.str x) (ws.map V.str) = decide (x ∈ ws) := by
  unfold inV
  induction ws with
  | nil => rfl
  | cons y ws ih =>
    rw [List.map_cons, List.any_cons, ih]
    show ((y == x) || decide (x ∈ ws)) = decide (x ∈ y :: ws)
    by_cases h : y = x
    · subst h
      simp
    · have h' : ¬ x = y := fun e => h e.symm
      simp [h, h']
theorem flat_strs (ws : List Str) : (ws.map V.str).all flatV = true := by
  rw [List.all_eq_true]
  intro v hv
  obtain ⟨x, _, rfl⟩ := List.mem_map.mp hv
  rfl
theorem len_le_of_sub {α : Type} [DecidableEq α] : ∀ (l m : List α), l.Nodup → (∀ x ∈ l, x ∈ m) → l.length ≤ m.length
  | [], _, _, _ => Nat.zero_le _
  | x :: l, m, nd, h => by
    obtain ⟨h1, h2⟩ := List.nodup_cons.mp nd
    have hx : x ∈ m := h x List.mem_cons_self
    have ih := len_le_of_sub l (m.erase x) h2 fun y hy => (List.mem_erase_of_ne (fun e => h1 (by rw [← e]; exact hy))).mpr (h y (List.mem_cons_of_mem _ hy))
    rw [List.length_erase_of_mem hx] at ih
    have : 0 < m.length := List.length_pos_of_mem hx
    simp only [List.length_cons]
    omega
def letters : List Str := abc.cps.toList.map one
theorem letters_nodup : letters.Nodup := by decide +kernel
theorem letters_len : letters.length = 26 := by decide +kernel
theorem letters_wd : ∀ x ∈ letters, Wd x := by
  have key : (letters.all fun x => decide (1 ≤ x.cps.toList.length ∧ x.cps.toList.length ≤ 8) && x.cps.toList.all fun c => decide (97 ≤ c ∧ c ≤ 122)) = true := by decide +kernel
  intro x hx
  have k := List.all_eq_true.mp key x hx
  rw [Bool.and_eq_true] at k
  have k1 := of_decide_eq_true k.1
  exact ⟨k1.1, k1.2, fun c hc => of_decide_eq_true (List.all_eq_true.mp k.2 c hc)⟩
theorem free_letter {ws : List Str} (h : ws.length < 26) : ∃ x r, (letters.filter fun x => decide (x ∉ ws)) = x :: r ∧ Wd x ∧ x ∉ ws := by
  cases e : letters.filter fun x => decide (x ∉ ws) with
  | nil =>
    have k := len_le_of_sub letters ws letters_nodup fun x hx => by
      by_cases hw : x ∈ ws
      · exact hw
      · have : x ∈ letters.filter fun x => decide (x ∉ ws) := List.mem_filter.mpr ⟨hx, decide_eq_true hw⟩
        rw [e] at this
        cases this
    rw [letters_len] at k
    omega
  | cons x r =>
    have hx : x ∈ letters.filter fun x => decide (x ∉ ws) := by rw [e]; exact List.mem_cons_self
    have q := List.mem_filter.mp hx
    exact ⟨x, r, rfl, letters_wd x q.1, of_decide_eq_true q.2⟩
theorem wd_mix {z : Str} {r : Int} {c : Nat} (hz : Wd z) (r0 : 0 ≤ r) (r1 : r < (z.length : Int)) (hc : 97 ≤ c ∧ c ≤ 122) : Wd ((cutS z none (some r) ++ one c) ++ cutS z (some (r + 1)) none) := by
  obtain ⟨k, rfl⟩ := Int.eq_ofNat_of_zero_le r0
  have hl := str_length z
  have lk : k < z.cps.toList.length := by omega
  have e1 : (cutS z none (some (k : Int))).cps.toList = z.cps.toList.take k := by
    show (((z.cps.toList.drop (HT.sIx z.length 0 none)).take (HT.sIx z.length z.length (some (k : Int)) - HT.sIx z.length 0 none)).toArray).toList = _
    rw [HT.sIx_none, HT.sIx_nat, List.drop_zero, Nat.sub_zero, Nat.min_eq_left (by omega)]
  have e2 : (cutS z (some ((k : Int) + 1)) none).cps.toList = z.cps.toList.drop (k + 1) := by
    show (((z.cps.toList.drop (HT.sIx z.length 0 (some ((k : Int) + 1)))).take (HT.sIx z.length z.length none - HT.sIx z.length 0 (some ((k : Int) + 1)))).toArray).toList = _
    have e3 : ((k : Int) + 1) = ((k + 1 : Nat) : Int) := by omega
    rw [e3, HT.sIx_none, HT.sIx_nat, Nat.min_eq_left (by omega)]
    exact List.take_of_length_le (by rw [List.length_drop]; omega)
  have e4 : ((cutS z none (some (k : Int)) ++ one c) ++ cutS z (some ((k : Int) + 1)) none).cps.toList = (z.cps.toList.take k ++ [c]) ++ z.cps.toList.drop (k + 1) := by
    show (((cutS z none (some (k : Int))).cps ++ (one c).cps) ++ (cutS z (some ((k : Int) + 1)) none).cps).toList = _
    rw [Array.toList_append, Array.toList_append, e1, e2]
    rfl
  have ll : ((z.cps.toList.take k ++ [c]) ++ z.cps.toList.drop (k + 1)).length = z.cps.toList.length := by
    simp only [List.length_append, List.length_take, List.length_drop, List.length_cons, List.length_nil]
    omega
  refine ⟨by rw [e4, ll]; exact hz.1, by rw [e4, ll]; exact hz.2.1, fun x hx => ?_⟩
  rw [e4] at hx
  rcases List.mem_append.mp hx with h | h
  · rcases List.mem_append.mp h with h | h
    · exact hz.2.2 x (List.mem_of_mem_take h)
    · rw [List.mem_singleton.mp h]
      exact hc
  · exact hz.2.2 x (List.mem_of_mem_drop h)
end K4
end
section
set_option Elab.async false
set_option linter.all false
set_option maxRecDepth 100000
set_option maxHeartbeats 8000000
namespace K4
open PySem PySem.Spec PyProof.Rows L2
abbrev WordZ (P : Program) (w : World) (K : PySem.W.Frag) (mg : Str → Option Value) (base : Heap) : Prop := Fz P w K mg base "_law_word" 3 ["_law_purse_here"] spWord
/-- a list of n unlike words -/
def Ws (H : Hp) (D : Addr) (ws : List Str) : Prop := H D = some (.lst (ws.map V.str))
def spWords : Sp := fun vs H Q _ => ∃ (p : Addr) (m n : Int), vs = [.ref p, .int m] ∧ Pu H p n ∧ n ≤ 700000 ∧ 0 ≤ m ∧ m ≤ 25 ∧
  ∀ (D : Addr) (ws : List Str) (H' : Hp), (ws.length : Int) = m → ws.Nodup → (∀ x ∈ ws, Wd x) → Pu H' p (n + 12 + 11 * m) → But p H H' → H D = none → Ws H' D ws → Q (.ref D) H'
abbrev NW : List Str := ["_law_purse_here", "_law_many", "_law_base", "_law_near", "_law_spot", "_law_found", "_law_turn", "_law_word_here", "_law_letter"]
theorem scWords : FnScope NW ["_law_purse_here", "_law_many"] (defScope sWords) := ⟨rfl, rfl, rfl, by decide +kernel, rfl, by decide +kernel, by decide +kernel⟩
/-- at the head of a turn -/
def WT (p D : Addr) (m n r : Int) (z : Str) (b : Bool) (H : Hp) (i : Nat) : L2.St → Hp → Prop := fun σ H' => (∃ o6 o7 o8, σ = [some (.ref p), some (.int m), some (.str z), some (.bl b), some (.int r), some (.ref D), o6, o7, o8]) ∧
  Pu H' p (n + 12 + 11 * (i : Nat)) ∧ But p H H' ∧ ∃ ws : List Str, Ws H' D ws ∧ ws.length = i ∧ ws.Nodup ∧ ∀ x ∈ ws, Wd x
section
variable {P : Program} {w : World} {K : PySem.W.Frag} {mg : Str → Option Value} {base : Heap}
theorem ok_words {f : Addr} {fd : FuncData} (F : FnP K "_law_words" sWords f fd) (G : DrawZ P w K mg base) (GW : WordZ P w K mg base) (T : Tx K mg) : FnOk P w K mg base CX0 4 f fd ["_law_purse_here", "_law_many"] spWords := by
  refine F.ok scWords (fun vs H Q E h => ?_) (fun cdv A outer s H vs Q E hr h => ?_)
  · obtain ⟨_, _, _, rfl, _⟩ := h
    rfl
  · obtain ⟨p, m, n, rfl, ⟨xs, hp, hx⟩, hn, m0, m25, q⟩ := h
    have gL := T.fr "len" (by decide +kernel)
    have gR := T.fr "range" (by decide +kernel)
    have gLi := T.fr "list" (by decide +kernel)
    have hr2 : Room 2 (A.deeper (envOfC "_law_words" (defScope sWords) s.heap.objs.size f cdv)) := hr.mono (by decide)
    refine ⟨_, PSs.nox (pss_cons (ps_par (i := 2) (j := 3) rfl scWords.nd rfl rfl (by decide) rfl rfl (pa_cons (pe_fz GW hr (by rfl) (pa_cons (pv 0) pa_nil)) (pa_cons (pe_cmpR op_eq (pe_fz G hr2 (by rfl) (pa_cons (pv 0) (pa_cons pe_int pa_nil))) pe_int (nomark _)) pa_nil)) (by rfl))
      (pss_cons (ps_asg (pe_tup (pa_cons (pe_fz G hr2 (by rfl) (pa_cons (pv 0) (pa_cons (pe_callB call_len_str (by rfl) gL PySem.boot_len (pa_cons (pv 2) pa_nil)) pa_nil))) (pa_cons (pe_lst pa_nil) pa_nil)))
        (pg_tup rfl (pgs_cons (pg_name (i := 4) scWords.nd rfl (Or.inl rfl)) (pgs_cons (pg_name (i := 5) scWords.nd rfl (Or.inr rfl)) pgs_nil))))
      (pss_cons (ps_for PassesOwn.never rfl (pi_range1 rfl gR (pa_cons (pv 1) pa_nil)) (pg_name (i := 6) scWords.nd rfl (Or.inl rfl))
        (pss_cons (ps_set (i := 7) scWords.nd rfl (Or.inl rfl) (pe_op op_add_str (pe_op op_add_str (pe_slice sl_str (pv 2) po_none (po_some (pv 4))) (pe_item_str pe_str (pe_fz G hr2 (by rfl) (pa_cons (pv 0) (pa_cons pe_int pa_nil))) (fun _ _ => rfl)))
            (pe_slice sl_str (pv 2) (po_some (pe_op op_add (pv 4) pe_int)) po_none)))
        (pss_cons (ps_if (pt_not (pt_val (pv 3))) (pss_one (ps_set (i := 7) scWords.nd rfl (Or.inl rfl) (pe_fz GW hr (by rfl) (pa_cons (pv 0) pa_nil)))) pss_nil)
        (pss_cons (ps_if (pt_cmpR op_in_seq (pv 7) (pv 5) rfl) (pss_one (ps_set (i := 7) scWords.nd rfl (Or.inl rfl) (pe_ix ix_list
            (pe_lc (own := [("_law_letter", 8)]) (g := gName 8) (tt := tTest (tOp (rIn K true) (tVar 8) (tVar 5))) rfl scWords.nd (pi_list (pe_callTy (call_list_txt rfl) (by rfl) gLi (by decide +kernel) (pa_cons pe_str pa_nil))) (blkOk_by (own := [("_law_letter", 8)]) (N := NW) (sc := defScope sWords) (by decide +kernel))
              (fun _ _ _ _ _ => pg_name (i := 8) scWords.nd rfl (Or.inl rfl)) (fun _ _ _ _ _ => pts_one (pt_cmpR op_notIn_seq (pv 8) (pv 5) rfl)) (fun _ _ _ _ _ => pv 8)) pe_int (fun _ _ => rfl)))) pss_nil)
        (pss_one (ps_expr (pe_bm PySem.F.plainAttrs_list PySem.F.slot_list_append PySem.F.type_list_append mt_append (pv 5) (pa_cons (pv 7) pa_nil))))))))
      (pss_one (ps_ret (pv 5)))))), ?_⟩
    refine ⟨_, rfl, p, n, xs, rfl, hp, hx, by omega, fun z ys1 H1 hz hy1 b1 hp1 => ?_⟩
    refine ⟨_, rfl, p, 3, n + 10, ys1, rfl, hp1, hy1, by omega, by decide, by decide, fun r1 ys2 c1 d1 hy2 => ⟨rfl, _, _, rfl, ?_⟩⟩
    have b2 : But p H (upd H1 p (.lst ys2)) := b1.trans but_self
    have hp2 : upd H1 p (.lst ys2) p = some (.lst ys2) := upd_same
    generalize upd H1 p (.lst ys2) = H2 at b2 hp2 ⊢
    have lz := str_length z
    have lz1 := hz.1
    have lz8 := hz.2.1
    have sl := sizeLine_eq
    refine ⟨_, rfl, _, rfl, z, rfl, by omega, p, _, n + 10 + 1, ys2, rfl, hp2, hy2, by omega, by omega, by omega, fun r ys3 r0 r1' hy3 => ?_⟩
    have b3 : But p H (upd H2 p (.lst ys3)) := b2.trans but_self
    have hp3 : upd H2 p (.lst ys3) p = some (.lst ys3) := upd_same
    generalize upd H2 p (.lst ys3) = H3 at b3 hp3 ⊢
    refine ⟨Nat.zero_le _, fun D nD => ?_⟩
    have npD : p ≠ D := ne_of_none hp3 nD
    refine ⟨(by show 2 ≤ sizeLine; decide +kernel), fun tp ntp => ⟨tp, _, rfl, SqT.of upd_same, rfl, _, _, rfl, _, _, rfl, rfl, ?_⟩⟩
    have nDt : D ≠ tp := ne_of_none upd_same ntp
    have npt : p ≠ tp := fun e => by
      rw [← e, upd_ne npD, hp3] at ntp
      cases ntp
    have w0 : WT p D m n r z (decide (V.int r1 = V.int 0)) H 0 [some (.ref p), some (.int m), some (.str z), some (.bl (decide (V.int r1 = V.int 0))), some (.int r), some (.ref D), none, none, none] (upd (upd H3 D (.lst [])) tp (.tup [.int r, .ref D])) :=
      ⟨⟨_, _, _, rfl⟩, ⟨ys3, by rw [upd_ne npt, upd_ne npD]; exact hp3, hy3.mono (by omega)⟩, (b3.trans (but_new nD)).trans (but_new ntp), [], by show upd _ _ _ D = _; rw [upd_ne nDt]; exact upd_same, rfl, List.nodup_nil, fun x hx => by simp at hx⟩
    have fD : H D = none := b3.free nD (Ne.symm npD)
    generalize upd (upd H3 D (.lst [])) tp (.tup [.int r, .ref D]) = H4 at w0 ⊢
    generalize decide (V.int r1 = V.int 0) = b at w0 ⊢
    refine ⟨_, rfl, _, rfl, by omega, by omega, ?_⟩
    refine for_range (n := m.toNat) (WT p D m n r z b H) w0 ?_ ?_
    · rintro i σ H' hi ⟨⟨o6, o7, o8, rfl⟩, ⟨xs1, hp5, hx5⟩, b5, ws, hw, hl, nd, wd⟩
      have npD5 : D ≠ p := fun e => by
        rw [e] at fD
        rw [fD] at hp
        cases hp
      refine ⟨_, rfl, _, rfl, _, rfl, z, rfl, by omega, _, rfl, p, 26, n + 12 + 11 * (i : Nat), xs1, rfl, hp5, hx5, by omega, by decide, by decide, fun c ys c0 c1 hy => ?_⟩
      have hl26 : (abc.length : Int) = 26 := by decide +kernel
      have wm := wd_mix (c := 97 + c.toNat) hz r0 r1' (by omega)
      have wl := str_length ((cutS z none (some r) ++ one (97 + c.toNat)) ++ cutS z (some (r + 1)) none)
      have wl2 := wm.2.1
      rw [← wl] at wl2
      have wl3 := wl2
      simp only [strLen_append] at wl3
      refine ⟨abc, c, 97 + c.toNat, rfl, rfl, c0, by omega, by omega, abc_at c0 c1, _, _, rfl, rfl, (by show (cutS z none (some r)).length + (one (97 + c.toNat)).length ≤ _; omega), ?_⟩
      refine ⟨_, rfl, _, rfl, _, _, rfl, rfl, _, rfl, z, rfl, by omega, _, _, rfl, rfl, (by show ((cutS z none (some r)) ++ (one (97 + c.toNat))).length + _ ≤ _; rw [strLen_append]; omega), ?_⟩
      have b6 : But p H (upd H' p (.lst ys)) := b5.trans but_self
      have hp6 : upd H' p (.lst ys) p = some (.lst ys) := upd_same
      have hw6 : Ws (upd H' p (.lst ys)) D ws := by
        show upd H' p (.lst ys) D = _
        rw [upd_ne npD5]
        exact hw
      generalize upd H' p (.lst ys) = H6 at b6 hp6 hw6 ⊢
      have wm : Wd ((cutS z none (some r) ++ ⟨#[97 + c.toNat]⟩) ++ cutS z (some (r + 1)) none) := wm
      generalize (cutS z none (some r) ++ ⟨#[97 + c.toNat]⟩) ++ cutS z (some (r + 1)) none = x at wm ⊢
      refine ⟨_, rfl, _, rfl, ?_⟩
      refine ite2 (fun _ => ?a) (fun _ => ?b)
      case' a =>
        refine ⟨_, rfl, p, _, ys, rfl, hp6, hy, by omega, fun x2 ys2 H7 wx hy2 b7 hp7 => ?_⟩
        have hw7 : Ws H7 D ws := b7 D _ npD5 hw6
        have b7 := b6.trans b7
        have pu : Pu H7 p (n + 12 + 11 * ((i + 1 : Nat) : Int)) := ⟨ys2, hp7, hy2.mono (by push_cast; omega)⟩
      case' b =>
        have pu : Pu H6 p (n + 12 + 11 * ((i + 1 : Nat) : Int)) := ⟨ys, hp6, hy.mono (by push_cast; omega)⟩
        generalize x = x2 at wm ⊢
        generalize H6 = H7 at b6 hw6 pu ⊢
        have hw7 := hw6
        have b7 := b6
        have wx := wm
      all_goals
        have pt : ∀ (x3 : Str) (H8 : Hp) (o8 : Option V), Wd x3 → x3 ∉ ws → Ws H8 D ws → But p H H8 → Pu H8 p (n + 12 + 11 * ((i + 1 : Nat) : Int)) → WT p D m n r z b H (i + 1) [some (.ref p), some (.int m), some (.str z), some (.bl b), some (.int r), some (.ref D), some (.int (0 + (i : Nat))), some (.str x3), o8] (upd H8 D (.lst (ws.map V.str ++ [V.str x3]))) := fun x3 H8 o8 w3 n3 h3 b3 p3 =>
          ⟨⟨_, _, _, rfl⟩, p3.upd (Ne.symm npD5), fun c o nc e => by rw [upd_ne (ne_of_none e fD)]; exact b3 c o nc e, ws ++ [x3], by show upd _ _ _ D = _; rw [upd_same, List.map_append]; rfl, by simp [hl], List.nodup_append.mpr ⟨nd, by simp, fun a ha c hc => by rw [List.mem_singleton.mp hc]; exact fun e => n3 (by rw [← e]; exact ha)⟩, fun c hc => by
            rcases List.mem_append.mp hc with h | h
            · exact wd c h
            · rw [List.mem_singleton.mp h]; exact w3⟩
        have lw : (ws.map V.str).length < sizeLine := by
          rw [List.length_map]
          omega
        refine ⟨_, rfl, _, rfl, D, ws.map V.str, rfl, Or.inl (SqL.of hw7), rfl, flat_strs ws, _, rfl, ?_⟩
        rw [inV_str]
        by_cases hin : x2 ∈ ws
        · refine ifT (by simpa using hin) ?_
          have ex : (abc.cps.toList.map fun c => V.str ⟨#[c]⟩) = letters.map V.str := by
            unfold letters
            rw [List.map_map]
            rfl
          refine ⟨abc, rfl, by decide +kernel, fun L nL => ?_⟩
          rw [ex]
          have nDL : D ≠ L := ne_of_none hw7 nL
          have s8 : Same H7 (upd H7 L (.lst (letters.map V.str))) := same_upd nL
          have hL : upd H7 L (.lst (letters.map V.str)) L = some (.lst (letters.map V.str)) := upd_same
          generalize upd H7 L (.lst (letters.map V.str)) = H8 at s8 hL ⊢
          have hw8 : Ws H8 D ws := s8 _ _ hw7
          refine ⟨L, rfl, ⟨_, SqL.of hL⟩, fun D2 nD2 => ?_⟩
          have nLD : L ≠ D2 := ne_of_none hL nD2
          have nDD : D ≠ D2 := ne_of_none hw8 nD2
          refine lc_list (K := K) (a := L) (xs := letters.map V.str) (fun j H' => (∀ c, c ≠ D2 → H' c = H8 c) ∧ H' D2 = some (.lst (((letters.take j).filter fun x => decide (x ∉ ws)).map V.str)))
            ⟨fun c nc => upd_ne nc, upd_same⟩ (fun j H' _ h => SqL.of (by rw [h.1 L nLD]; exact hL)) ?_ ?_
          · rintro j y H' hj ⟨k1, k2⟩
            rw [List.getElem?_map] at hj
            cases e3 : letters[j]? with
            | none =>
              rw [e3] at hj
              cases hj
            | some c =>
              rw [e3] at hj
              cases hj
              have et : letters.take (j + 1) = letters.take j ++ [c] := by
                rw [List.take_add_one, e3]
                rfl
              have lt : j < letters.length := (List.getElem?_eq_some_iff.mp e3).1
              rw [letters_len] at lt
              have ll : ((letters.take j).filter fun x => decide (x ∉ ws)).length ≤ j := Nat.le_trans (List.length_filter_le _ _) (by rw [List.length_take]; omega)
              refine ⟨rfl, _, rfl, _, rfl, D, ws.map V.str, rfl, Or.inl (SqL.of (by rw [k1 D nDD]; exact hw8)), rfl, flat_strs ws, _, rfl, ?_⟩
              rw [inV_str]
              by_cases hc : c ∈ ws
              · refine ifF (by simpa using hc) ⟨k1, ?_⟩
                rw [et, List.filter_append]
                simp [k2, hc]
              · refine ifT (by simpa using hc) ⟨_, rfl, _, k2, by rw [List.length_map]; omega, fun b nb => by rw [upd_ne nb]; exact k1 b nb, ?_⟩
                rw [upd_same, et, List.filter_append]
                simp [hc]
          · rintro H9 ⟨k1, k2⟩
            rw [List.length_map, List.take_length] at k2
            obtain ⟨x3, rest, e3, w3, n3⟩ := free_letter (ws := ws) (by omega)
            rw [e3] at k2
            have hw9 : Ws H9 D ws := by
              show H9 D = _
              rw [k1 D nDD]
              exact hw8
            have fr9 : ∀ c o, H7 c = some o → H9 c = some o := fun c o e => by
              have e8 := s8 _ _ e
              rw [k1 c (ne_of_none e8 nD2)]
              exact e8
            have pu9 : Pu H9 p (n + 12 + 11 * ((i + 1 : Nat) : Int)) := by
              obtain ⟨xs9, h1, h2⟩ := pu
              exact ⟨xs9, fr9 _ _ h1, h2⟩
            refine ⟨D2, _, ((0 : Nat) : Int), V.str x3, rfl, rfl, SqL.of k2, atI_nat rfl, ?_⟩
            exact ⟨_, rfl, Or.inl ⟨rfl, _, SqL.of hw9⟩, _, rfl, D, _, _, rfl, rfl, hw9, lw, pt x3 H9 _ w3 n3 hw9 (b7.trans fun c o _ e => fr9 c o e) pu9⟩
        · refine ifF (by simpa using hin) ?_
          exact ⟨_, rfl, Or.inl ⟨rfl, _, SqL.of hw7⟩, _, rfl, D, _, _, rfl, rfl, hw7, lw, pt x2 H7 _ wx hin hw7 b7 pu⟩
    · rintro σ H' ⟨⟨o6, o7, o8, rfl⟩, hp5, b5, ws, hw, hl, nd, wd⟩
      exact ⟨_, rfl, q D ws H' (by omega) nd wd (hp5.mono (by omega)) b5 fD hw⟩
end
end K4
end
section
set_option Elab.async false
set_option linter.all false
set_option maxRecDepth 100000
set_option maxHeartbeats 4000000
namespace RevX
open PySem PySem.Spec PyProof.Rows HT
section
variable {prog : Program} {w : World} {A : Around} {E : Value → Shared → Prop} {s : Shared}
theorem applied_rev {sl : Addr} {vl vu vs : Value} {Q : Int × Int × Nat → Shared → Prop} (hs : s.heap.IsSliceOf sl vl vu vs) (pl : IsPart vl none) (pu : IsPart vu none) (ps : IsPart vs (some (-1))) (h : Q (1, -1, 2) s) :
    wpAny (model prog w) A (Builtin.Slice.sliceApplied (.ref sl) (pure ((2 : Nat) : Int))) Q E s := by
  obtain ⟨os, hos, hcs, hds⟩ := id hs
  unfold Builtin.Slice.sliceApplied Builtin.Slice.sliceFields
  refine wpAny_bind (wpAny_bind (wpAny_field hos hds (x := vl) rfl (wpAny_bind (wpAny_field hos hds (x := vu) rfl (wpAny_bind (wpAny_field hos hds (x := vs) rfl (wpAny_pure ?_)))))))
  refine wpAny_bind (slicePart_ ps ?_)
  show wpAny _ _ (if ((-1 : Int) == 0) = true then _ else _) _ _ s
  rw [if_neg (by decide)]
  refine wpAny_bind (slicePart_ pl (wpAny_bind (slicePart_ pu (wpAny_bind (wpAny_pure ?_)))))
  exact wpAny_pure h
/-- (u, v)[::-1] -/
theorem item_rev {t sl : Addr} {u v vl vu vs : Value} {Q : Value → Shared → Prop} (ht : IsTup s.heap t #[u, v]) (hs : s.heap.IsSliceOf sl vl vu vs) (pl : IsPart vl none) (pu : IsPart vu none) (ps : IsPart vs (some (-1)))
    (h : Q (.ref s.heap.objs.size) { s with heap := s.heap.push { cls := .type "tuple", data := .seq #[v, u] } }) : wpAny (model prog w) A (getItem (.ref t) (.ref sl)) Q E s := by
  obtain ⟨os, hos, hcs, hds⟩ := id hs
  have hTs : s.TypeIs (.ref sl) "slice" := ⟨os, hos, hcs⟩
  unfold getItem
  try with_reducible refine wpAny_holding ?_
  first | refine wpAny_bind (wpAny_pure ?_) | skip
  refine wpAny_bind (wpAny_sequenceKey ht.typeIs (by decide) ?_)
  refine wpAny_bind (wpAny_callSpecial?_slot (name := Str.ofString "__getitem__") ht.typeIs PyProof.Rows.slot_tuple_getitem
    (wpAny_call_entry PyProof.Rows.slot_tuple_getitem ht.typeIs entry_tuple_getitem ?_ (args_tuple_getitem _ _)))
  show wpAny _ _ (Builtin.Tuple.tupleItemsOf (.ref t) >>= _) _ _ s
  refine wpAny_bind (tupleItemsOf_ ht (wpAny_bind (wpAny_typeOf hTs ?_)))
  rw [if_pos (by decide)]
  refine wpAny_bind (applied_rev hs pl pu ps ?_)
  show wpAny _ _ (if (((1 : Int) == 0) && ((-1 : Int) == 1) && (2 == 2)) = true then _ else _) _ _ s
  rw [if_neg (by decide)]
  have hz : sizeOk (.seq #[v, u]) := by show 2 ≤ sizeLine; decide +kernel
  have e : ((List.range 2).filterMap fun (k : Nat) => (#[u, v] : Array Value)[((1 : Int) + (k : Int) * (-1)).toNat]?).toArray = #[v, u] := rfl
  rw [e]
  first
    | exact wpAny_bind (m := Builtin.Tuple.tupleExact _) (wpAny_newObj_type (wpAny_pure ⟨_, rfl, wpAny_pure h⟩) hz)
    | exact wpAny_bind (m := Builtin.Tuple.tupleExact _) (wpAny_newObj_type (wpAny_bind (wpAny_pure (wpAny_pure ⟨_, rfl, wpAny_pure h⟩))) hz)
    | exact wpAny_bind (wpAny_bind (m := Builtin.Tuple.tupleExact _) (wpAny_newObj_type (wpAny_pure (wpAny_pure ⟨_, rfl, wpAny_pure h⟩)) hz))
    | exact wpAny_bind (wpAny_bind (m := Builtin.Tuple.tupleExact _) (wpAny_newObj_type (wpAny_pure ⟨_, rfl, wpAny_pure h⟩) hz))
end
end RevX
namespace L2
open PySem PySem.Spec PyProof.Rows
/-- t[::-1], t a pair -/
def tRev2 (K : PySem.W.Frag) (te : TE) : TE := fun σ H Q => te σ H fun x H1 => ∃ a y z, x = .ref a ∧ SqT K H1 a [y, z] ∧ ∀ p, H1 p = none → Q (.ref p) (upd H1 p (.tup [z, y]))
theorem pe_rev2 {X : Cx} {e : Expr} {te : TE} {k : Nat} {p1 p2 p3 pos : Pos} (he : PE X e te) : PE X (.Subscript e (.Slice none none (some (.UnaryOp .USub (.Constant (.int 1) k p1) p2)) p3) pos) (tRev2 X.K te) := by
  refine ⟨fun pins s σ H Q I h => ?_⟩
  refine Subscript_ (thn (he.run pins s σ H _ I h) fun v s1 ⟨x, H1, I1, r1, a, y, z, ex, hx, q⟩ => ?_)
  subst ex
  cases r1
  have step : PO X (some (.UnaryOp .USub (.Constant (.int 1) k p1) p2)) (tPart (tUn (rU fun i => .int (-i)) (tC (.int 1)))) := po_some (pe_un un_neg pe_int)
  refine wpAny_Slice (thn (po_none.run pins s1 σ H1 (fun o G => o = none ∧ G = H1) I1 ⟨rfl, rfl⟩) fun vl s2 ⟨l, H2, I2, pl, el, e2⟩ => thn (po_none.run pins s2 σ H2 (fun o G => o = none ∧ G = H2) I2 ⟨rfl, rfl⟩) fun vu s3 ⟨u, H3, I3, pu, eu, e3⟩ =>
    thn (step.run pins s3 σ H3 (fun o G => o = some (-1) ∧ G = H3) I3 ⟨1, rfl, -1, rfl, rfl, rfl⟩) fun vs s4 ⟨o, H4, I4, ps, eo, e4⟩ => ?_)
  subst el e2 eu e3 eo e4
  have I5 : Inv X pins σ H4 { s4 with heap := s4.heap.push { cls := .type "slice", data := .fields #[vl, vu, vs] } } := I4.kept (t' := s4.toks) fun b ob q => Heap.get?_push_of_some _ q
  obtain ⟨its, r, ht, hz⟩ := I5.tuple hx
  obtain ⟨u1, u2, rfl, ra, rb⟩ := vals2 r
  show wpAny (model X.prog X.w) X.A (subscriptTail e (.Slice none none (some (.UnaryOp .USub (.Constant (.int 1) k p1) p2)) p3) (.ref a) (.ref s4.heap.objs.size)) (EP X pins σ Q) X.xe { s4 with heap := s4.heap.push { cls := .type "slice", data := .fields #[vl, vu, vs] } }
  refine tail_any (ops := [.ref a, .ref s4.heap.objs.size]) ht.typeIs (PyProof.Rows.slot_tuple_getitem.lookup) ?_ (by with_unfolding_all rfl)
  refine RevX.item_rev ht (Heap.IsSliceOf.new _ vl vu vs) pl pu ps ?_
  exact ⟨.ref _, _, I5.laid (t' := s4.toks) (o := .tup [z, y]) (fun b ob q => Heap.get?_push_of_some _ q) (Nat.le_refl _) ⟨by show 2 ≤ sizeLine; decide +kernel, _, .cons rb (.cons ra .nil), IsTup.new _ _⟩, rfl, q _ (I5.hok.fresh (Nat.le_refl _))⟩
end L2
end
section
set_option Elab.async false
set_option linter.all false
set_option maxRecDepth 100000
set_option maxHeartbeats 4000000
namespace K4
open PySem PySem.Spec PyProof.Rows L2
/-! ### data that are compared -/
theorem eqv_nil (ds : List PyData) : PyData.eqv (.list ds) (.list []) = ds.isEmpty := by
  cases ds <;> rfl
theorem nil_shaped : SeqAt.shaped (.list []) = true := by decide +kernel
theorem wd_ok {x : Str} (h : Wd x) : PyData.strOk x = true := by
  unfold PyData.strOk
  rw [← Array.all_toList, List.all_eq_true]
  intro c hc
  have := h.2.2 c hc
  exact decide_eq_true (by omega)
theorem lay_strs : ∀ ws : List Str, (∀ x ∈ ws, Wd x) → PyData.canLayAll0 (ws.map PyData.str) = true
  | [], _ => rfl
  | w :: ws, h => by
    have ih := lay_strs ws fun x hx => h x (List.mem_cons_of_mem _ hx)
    simp [PyData.canLayAll0, PyData.canLay0, ih, wd_ok (h w List.mem_cons_self)]
theorem depth_strs : ∀ ws : List Str, PyData.depthAll (ws.map PyData.str) ≤ 1
  | [] => Nat.zero_le _
  | w :: ws => by
    have ih := depth_strs ws
    show max (PyData.depth (.str w)) (PyData.depthAll (ws.map PyData.str)) ≤ 1
    exact Nat.max_le.mpr ⟨by simp [PyData.depth], ih⟩
theorem strs_shaped {ws : List Str} (h : ∀ x ∈ ws, Wd x) : SeqAt.shaped (.list (ws.map PyData.str)) = true := by
  have h1 : PyData.canLay0 (.list (ws.map PyData.str)) = true := lay_strs ws h
  have h2 : PyData.depth (.list (ws.map PyData.str)) ≤ 64 := by
    show PyData.depthAll (ws.map PyData.str) + 1 ≤ 64
    have := depth_strs ws
    omega
  unfold SeqAt.shaped
  rw [h1, decide_eq_true h2]
  rfl
theorem dp_strs {K : PySem.W.Frag} {H : Hp} : ∀ ws : List Str, DpAll K H (ws.map V.str) (ws.map PyData.str)
  | [] => .nil
  | w :: ws => .cons (.str w) (dp_strs ws)
/-- a street -/
structure S5 where
  nm : Str
  st : Str
  en : Str
  wd : Int
  ln : Int
def S5.vals (s : S5) : List V := [.str s.nm, .str s.st, .str s.en, .int s.wd, .int s.ln]
def S5.data (s : S5) : PyData := .tuple [.str s.nm, .str s.st, .str s.en, .int s.wd, .int s.ln]
/-- at D the list of the streets ts (address, street) -/
def Sts (H : Hp) (D : Addr) (ts : List (Addr × S5)) : Prop := H D = some (.lst (ts.map fun t => V.ref t.1)) ∧ ∀ t ∈ ts, H t.1 = some (.tup t.2.vals)
theorem dp_sts {K : PySem.W.Frag} {H : Hp} : ∀ {ts : List (Addr × S5)}, (∀ t ∈ ts, H t.1 = some (.tup t.2.vals)) → DpAll K H (ts.map fun t => V.ref t.1) (ts.map fun t => t.2.data)
  | [], _ => .nil
  | t :: ts, h => .cons (.tup (SqT.of (h t List.mem_cons_self)) (.cons (.str _) (.cons (.str _) (.cons (.str _) (.cons (.int _) (.cons (.int _) .nil)))))) (dp_sts fun u hu => h u (List.mem_cons_of_mem _ hu))
/-- its words are words -/
def S5.Ok (s : S5) : Prop := Wd s.nm ∧ Wd s.st ∧ Wd s.en ∧ s.st ≠ s.en ∧ 0 ≤ s.wd ∧ s.wd ≤ 1000000 ∧ 0 ≤ s.ln ∧ s.ln ≤ 1000000
theorem lay_sts : ∀ ss : List S5, (∀ s ∈ ss, s.Ok) → PyData.canLayAll0 (ss.map S5.data) = true
  | [], _ => rfl
  | s :: ss, h => by
    have ih := lay_sts ss fun x hx => h x (List.mem_cons_of_mem _ hx)
    obtain ⟨h1, h2, h3, _⟩ := h s List.mem_cons_self
    simp [PyData.canLayAll0, PyData.canLay0, S5.data, ih, wd_ok h1, wd_ok h2, wd_ok h3]
theorem depth_sts : ∀ ss : List S5, PyData.depthAll (ss.map S5.data) ≤ 3
  | [] => Nat.zero_le _
  | s :: ss => by
    have ih := depth_sts ss
    show max (PyData.depth s.data) (PyData.depthAll (ss.map S5.data)) ≤ 3
    refine Nat.max_le.mpr ⟨?_, ih⟩
    simp [S5.data, PyData.depth, PyData.depthAll]
theorem sts_shaped {ss : List S5} (h : ∀ s ∈ ss, s.Ok) : SeqAt.shaped (.list (ss.map S5.data)) = true := by
  have h1 : PyData.canLay0 (.list (ss.map S5.data)) = true := lay_sts ss h
  have h2 : PyData.depth (.list (ss.map S5.data)) ≤ 64 := by
    show PyData.depthAll (ss.map S5.data) + 1 ≤ 64
    have := depth_sts ss
    omega
  unfold SeqAt.shaped
  rw [h1, decide_eq_true h2]
  rfl
/-- a pair of unlike words of C at a -/
def Pr (H : Hp) (C : List Str) (a : Addr) : Prop := ∃ x y, H a = some (.tup [.str x, .str y]) ∧ x ∈ C ∧ y ∈ C ∧ x ≠ y
def Prs (H : Hp) (D : Addr) (C : List Str) (ps : List Addr) : Prop := H D = some (.lst (ps.map V.ref)) ∧ ∀ a ∈ ps, Pr H C a
end K4
end
section
set_option Elab.async false
set_option linter.all false
set_option maxRecDepth 100000
set_option maxHeartbeats 8000000
namespace K4
open PySem PySem.Spec PyProof.Rows L2
theorem weak {X : Cx} {st : List Stmt} {t t' : TS} (h : PSs X st t) (w : ∀ D σ H, t' D σ H → t D σ H) : PSs X st t' := ⟨fun pins s σ H D I q => h.run pins s σ H D I (w D σ H q)⟩
theorem Prs.keep {H H' : Hp} {D : Addr} {C : List Str} {ps : List Addr} (h : Prs H D C ps) (k : ∀ b o, H b = some o → H' b = some o) : Prs H' D C ps := by
  refine ⟨k _ _ h.1, fun a ha => ?_⟩
  obtain ⟨x, y, e, r⟩ := h.2 a ha
  exact ⟨x, y, k _ _ e, r⟩
theorem Pr.keep {H H' : Hp} {a : Addr} {C : List Str} (h : Pr H C a) (k : ∀ b o, H b = some o → H' b = some o) : Pr H' C a := by
  obtain ⟨x, y, e, r⟩ := h
  exact ⟨x, y, k _ _ e, r⟩
theorem strs_at {gs : List Str} {i : Nat} {x : Str} (h : gs[i]? = some x) : (gs.map V.str)[i]? = some (.str x) := by
  rw [List.getElem?_map, h]
  rfl
theorem prev_at {gs : List Str} {i : Nat} {x : Str} (nd : gs.Nodup) (h2 : 2 ≤ gs.length) (hx : gs[i]? = some x) : ∃ y, atI (gs.map V.str) ((0 + (i : Int)) - 1) = some (.str y) ∧ y ∈ gs ∧ y ≠ x := by
  have lt := (List.getElem?_eq_some_iff.mp hx).1
  have key : ∀ j : Nat, j < gs.length → j ≠ i → ixN gs.length ((0 + (i : Int)) - 1) = some j → ∃ y, atI (gs.map V.str) ((0 + (i : Int)) - 1) = some (.str y) ∧ y ∈ gs ∧ y ≠ x := fun j lj nj e => by
    have ej : gs[j]? = some gs[j] := List.getElem?_eq_getElem lj
    refine ⟨gs[j], ?_, List.getElem_mem lj, fun e2 => nj ?_⟩
    · unfold atI
      rw [List.length_map, e]
      exact strs_at ej
    · exact (List.getElem?_inj lj nd).mp (by rw [ej, e2, hx])
  unfold ixN at key
  by_cases h0 : i = 0
  · subst h0
    refine key (gs.length - 1) (by omega) (by omega) ?_
    rw [if_neg (by omega), if_pos (by omega)]
    congr 1
    omega
  · refine key (i - 1) (by omega) (by omega) ?_
    rw [if_pos (by omega), if_pos (by omega)]
    congr 1
    omega
abbrev NS : List Str := ["_law_purse_here", "_law_gates", "_law_inner", "_law_way", "_law_found", "_law_at", "_law_row", "_law_gate"]
theorem scShape : FnScope NS ["_law_purse_here", "_law_gates", "_law_inner"] (defScope sShape) := ⟨rfl, rfl, rfl, by decide +kernel, rfl, by decide +kernel, by decide +kernel⟩
def shS (i : Nat) : Stmt := (defBody sShape).getD i (.Pass ⟨0, 0, 0, 0⟩)
/-- what is handed: gates and crossings within, all unlike -/
structure ShG (H : Hp) (p lg li : Addr) (gs is : List Str) : Prop where
  g : Ws H lg gs
  i : Ws H li is
  np : lg ≠ p
  pt : ∃ xs, H p = some (.lst xs)
  nq : li ≠ p
  nd : (gs ++ is).Nodup
  wd : ∀ x ∈ gs ++ is, Wd x
  l1 : 1 ≤ gs.length
  l5 : gs.length ≤ 5
  l8 : is.length ≤ 8
def ShI (k : Int) (p lg li : Addr) (gs is : List Str) (H : Hp) (n : Int) : L2.St → Hp → Prop := fun σ H' => ∃ (way : Int) (D : Addr) (ps : List Addr) (o5 o6 o7 : Option V), σ = [some (.ref p), some (.ref lg), some (.ref li), some (.int way), some (.ref D), o5, o6, o7] ∧
  Pu H' p (n + 1) ∧ But p H H' ∧ H D = none ∧ Prs H' D (gs ++ is) ps ∧ ps.length ≤ 12 ∧ (ps = [] ∨ way < k)
def tSh (k : Int) (p lg li : Addr) (gs is : List Str) (H0 : Hp) (n : Int) (u : TS) : TS := fun E σ H' => ShI k p lg li gs is H0 n σ H' ∧ ∀ σ2 H2, ShI (k + 1) p lg li gs is H0 n σ2 H2 → u E σ2 H2
abbrev SX (P : Program) (w : World) (K : PySem.W.Frag) (mg : Str → Option Value) (base : Heap) (f : Addr) (cdv : Value) (A : Around) (outer : List Env) (s : Shared) (H : Hp) (E : XK) : Cx := (cxOf CX0 P w K mg base NS "_law_shape" (defScope sShape) f cdv A outer s H E).nox
section
variable {P : Program} {w : World} {K : PySem.W.Frag} {mg : Str → Option Value} {base : Heap} {f : Addr} {cdv : Value} {A : Around} {outer : List Env} {s : Shared} {Hl : Hp} {E : XK} {p lg li : Addr} {gs is : List Str} {H0 : Hp} {n : Int}
theorem sh0 (T : Tx K mg) (B : ShG H0 p lg li gs is) {rest : List Stmt} {u : TS} (hu : PSs (SX P w K mg base f cdv A outer s Hl E) rest u) : PSs (SX P w K mg base f cdv A outer s Hl E) (shS 1 :: rest) (tSh 0 p lg li gs is H0 n u) := by
  have gL := T.fr "len" (by decide +kernel)
  have gR := T.fr "range" (by decide +kernel)
  refine weak (t := tSeq _ u) (pss_cons (ps_if (PW.pt (pw_and (pt_cmpR op_eq (pv 3) pe_int (nomark _)) (pw_and1 (pt_cmpR op_gt (pe_callB call_len_seq (by rfl) gL PySem.boot_len (pa_cons (pv 1) pa_nil)) pe_int (nomark _)))))
    (pss_one (ps_for PassesOwn.never rfl (pi_range1 rfl gR (pa_cons (pe_callB call_len_seq (by rfl) gL PySem.boot_len (pa_cons (pv 1) pa_nil)) pa_nil)) (pg_name (i := 5) scShape.nd rfl (Or.inl rfl))
      (pss_one (ps_expr (pe_bm PySem.F.plainAttrs_list PySem.F.slot_list_append PySem.F.type_list_append mt_append (pv 4) (pa_cons (pe_tup (pa_cons (pe_ix ix_list (pv 1) (pv 5) (fun _ _ => rfl)) (pa_cons (pe_ix ix_list (pv 1) (pe_op op_sub (pv 5) pe_int) (fun _ _ => rfl)) pa_nil))) pa_nil)))))) pss_nil) hu) ?_
  rintro D σ H ⟨⟨way, L, ps, o5, o6, o7, rfl, hp, bu, fL, hP, hl, hk⟩, q⟩
  have hg : Ws H lg gs := bu _ _ B.np B.g
  have sl := sizeLine_eq
  have back : ∀ o5 o6 o7, u D [some (.ref p), some (.ref lg), some (.ref li), some (.int way), some (.ref L), o5, o6, o7] H := fun a b c => q _ _ ⟨way, L, ps, a, b, c, rfl, hp, bu, fL, hP, hl, hk.imp id fun z => by omega⟩
  refine ⟨_, rfl, rfl, _, rfl, ?_⟩
  by_cases hw : way = 0
  · refine ifT (by simpa using hw) ⟨_, rfl, lg, _, rfl, Or.inl (SqL.of hg), _, _, rfl, rfl, _, rfl, ?_⟩
    have e0 : ps = [] := hk.elim id fun z => absurd z (by omega)
    subst e0
    by_cases h2 : 2 ≤ gs.length
    · refine ifT (decide_eq_true (by rw [List.length_map]; omega)) ?_
      refine ⟨_, rfl, lg, _, rfl, Or.inl (SqL.of hg), _, rfl, by rw [List.length_map]; have := B.l5; omega, by rw [List.length_map]; have := B.l5; omega, ?_⟩
      rw [List.length_map]
      have nLg : L ≠ lg := fun e => by
        rw [e, B.g] at fL
        cases fL
      refine for_range (n := gs.length) (fun i σ H' => (∃ o5, σ = [some (.ref p), some (.ref lg), some (.ref li), some (.int way), some (.ref L), o5, o6, o7]) ∧ Pu H' p (n + 1) ∧ But p H0 H' ∧ ∃ ps : List Addr, Prs H' L (gs ++ is) ps ∧ ps.length = i)
        ⟨⟨_, rfl⟩, hp, bu, [], hP, rfl⟩ ?_ ?_
      · rintro i σ H' hi ⟨⟨o5, rfl⟩, hp1, b1, ps, hP1, hl1⟩
        have hg1 : Ws H' lg gs := b1 _ _ B.np B.g
        have l5 := B.l5
        have ei : gs[i]? = some gs[i] := List.getElem?_eq_getElem hi
        obtain ⟨y, ey, my, ny⟩ := prev_at (List.nodup_append.mp B.nd).1 h2 ei
        refine ⟨_, rfl, Or.inl ⟨rfl, _, SqL.of hP1.1⟩, _, rfl, _, rfl, lg, _, ((i : Nat) : Int), _, rfl, by rw [Int.zero_add], SqL.of hg1, atI_nat (strs_at ei), _, rfl, _, rfl, _, _, rfl, rfl, lg, _, _, _, rfl, rfl, SqL.of hg1, ey, ?_⟩
        refine ⟨(by show 2 ≤ sizeLine; decide +kernel), fun t nt => ?_⟩
        have ntL : L ≠ t := ne_of_none hP1.1 nt
        obtain ⟨xs1, hx1, hx2⟩ := hp1
        have ntp : p ≠ t := ne_of_none hx1 nt
        have npL : p ≠ L := fun e => by
          obtain ⟨xs, h1⟩ := B.pt
          rw [e, fL] at h1
          cases h1
        refine ⟨L, _, _, rfl, rfl, by rw [upd_ne (Ne.symm (Ne.symm ntL))]; exact hP1.1, by rw [List.length_map]; omega, ?_⟩
        refine ⟨⟨_, rfl⟩, ⟨xs1, by rw [upd_ne npL, upd_ne ntp]; exact hx1, hx2⟩, fun b o nb e => by rw [upd_ne (ne_of_none e fL)]; exact but_new nt b o nb (b1 b o nb e), ps ++ [t], ⟨by rw [upd_same, List.map_append]; rfl, fun a ha => ?_⟩, by simp [hl1]⟩
        rcases List.mem_append.mp ha with h | h
        · obtain ⟨x, z, e, r⟩ := hP1.2 a h
          exact ⟨x, z, by rw [upd_ne (ne_of e hP1.1 (by intro z; cases z)), upd_ne (ne_of_none e nt)]; exact e, r⟩
        · rw [List.mem_singleton.mp h]
          exact ⟨_, _, by rw [upd_ne (Ne.symm ntL)]; exact upd_same, List.mem_append_left _ (List.getElem_mem hi), List.mem_append_left _ my, Ne.symm ny⟩
      · rintro σ H' ⟨⟨o5, rfl⟩, hp1, b1, ps, hP1, hl1⟩
        exact q _ _ ⟨way, L, ps, _, _, _, rfl, hp1, b1, fL, hP1, by have := B.l5; omega, Or.inr (by omega)⟩
    · exact ifF (fun z => by have z := of_decide_eq_true z; rw [List.length_map] at z; omega) (back o5 o6 o7)
  · exact ifF (by simpa using hw) (ifF (by decide) (back o5 o6 o7))
end
end K4
end
section
set_option Elab.async false
set_option linter.all false
set_option maxRecDepth 100000
set_option maxHeartbeats 8000000
namespace K4
open PySem PySem.Spec PyProof.Rows L2
/-- a comprehension of pairs, at its turn j -/
def PvC (H1 : Hp) (D : Addr) (C : List Str) (j : Nat) (H' : Hp) : Prop := Same H1 H' ∧ ∃ ps, Prs H' D C ps ∧ ps.length = j
theorem pvc_start {H1 : Hp} {D : Addr} {C : List Str} (nD : H1 D = none) : PvC H1 D C 0 (upd H1 D (.lst [])) := ⟨same_upd nD, [], ⟨upd_same, fun a h => by simp at h⟩, rfl⟩
theorem pvc_step {H1 H' : Hp} {D t : Addr} {C : List Str} {j : Nat} {x y : Str} (h : PvC H1 D C j H') (nD : H1 D = none) (nt : H' t = none) (hx : x ∈ C) (hy : y ∈ C) (ne : x ≠ y) :
    ∃ ps : List Addr, upd H' t (.tup [.str x, .str y]) D = some (.lst (ps.map V.ref)) ∧ ps.length = j ∧ PvC H1 D C (j + 1) (upd (upd H' t (.tup [.str x, .str y])) D (.lst (ps.map V.ref ++ [V.ref t]))) := by
  obtain ⟨s1, ps, ⟨h1, h2⟩, hl⟩ := h
  have nDt : D ≠ t := ne_of_none h1 nt
  refine ⟨ps, by rw [upd_ne nDt]; exact h1, hl, fun b o e => ?_, ps ++ [t], ⟨by rw [upd_same, List.map_append]; rfl, fun a ha => ?_⟩, by simp [hl]⟩
  · rw [upd_ne (ne_of_none e nD), upd_ne (ne_of_none (s1 _ _ e) nt)]
    exact s1 _ _ e
  · rcases List.mem_append.mp ha with h | h
    · obtain ⟨u, v, e, r⟩ := h2 a h
      exact ⟨u, v, by rw [upd_ne (ne_of e h1 (by intro z; cases z)), upd_ne (ne_of_none e nt)]; exact e, r⟩
    · rw [List.mem_singleton.mp h]
      exact ⟨x, y, by rw [upd_ne (Ne.symm nDt)]; exact upd_same, hx, hy, ne⟩
section
variable {P : Program} {w : World} {K : PySem.W.Frag} {mg : Str → Option Value} {base : Heap} {f : Addr} {cdv : Value} {A : Around} {outer : List Env} {s : Shared} {Hl : Hp} {E : XK} {p lg li : Addr} {gs is : List Str} {H0 : Hp} {n : Int}
theorem sh1 (T : Tx K mg) (B : ShG H0 p lg li gs is) (hu64 : (A.deeper (envOfC "_law_shape" (defScope sShape) s.heap.objs.size f cdv)).units + 64 < cLine) {rest : List Stmt} {u : TS} (hu : PSs (SX P w K mg base f cdv A outer s Hl E) rest u) :
    PSs (SX P w K mg base f cdv A outer s Hl E) (shS 2 :: rest) (tSh 1 p lg li gs is H0 n u) := by
  refine weak (t := tSeq _ u) (pss_cons (ps_if (PW.pt (pw_and (pt_cmpR op_eq (pv 3) pe_int (nomark _)) (pw_and1 (pt_cmpR (op_neD hu64) (pv 2) (pe_lst pa_nil) (nomark _)))))
    (pss_one (ps_set (i := 4) scShape.nd rfl (Or.inl rfl) (pe_op op_cat
      (pe_lc (own := [("_law_gate", 7)]) (g := gName 7) (tt := tYes) rfl scShape.nd (pi_list (pv 1)) (blkOk_by (own := [("_law_gate", 7)]) (N := NS) (sc := defScope sShape) (by decide +kernel))
        (fun _ _ _ _ _ => pg_name (i := 7) scShape.nd rfl (Or.inl rfl)) (fun _ _ _ _ _ => pts_nil) (te := tTup (tCons (tVar 7) (tCons (tOp (rIxL K) (tVar 2) (tC (.int 0))) tNil))) (fun _ _ _ _ _ => pe_tup (pa_cons (pv 7) (pa_cons (pe_ix ix_list (pv 2) pe_int (fun _ _ => rfl)) pa_nil))))
      (pe_lc (own := [("_law_gate", 7)]) (g := gName 7) (tt := tYes) rfl scShape.nd (pi_list (pv 1)) (blkOk_by (own := [("_law_gate", 7)]) (N := NS) (sc := defScope sShape) (by decide +kernel))
        (fun _ _ _ _ _ => pg_name (i := 7) scShape.nd rfl (Or.inl rfl)) (fun _ _ _ _ _ => pts_nil) (te := tTup (tCons (tOp (rIxL K) (tVar 2) (tC (.int 0))) (tCons (tVar 7) tNil))) (fun _ _ _ _ _ => pe_tup (pa_cons (pe_ix ix_list (pv 2) pe_int (fun _ _ => rfl)) (pa_cons (pv 7) pa_nil))))))) pss_nil) hu) ?_
  rintro D σ H ⟨⟨way, L, ps, o5, o6, o7, rfl, hp, bu, fL, hP, hl, hk⟩, q⟩
  have hg : Ws H lg gs := bu _ _ B.np B.g
  have hi : Ws H li is := bu _ _ B.nq B.i
  have sl := sizeLine_eq
  have l5 := B.l5
  have l8 := B.l8
  have back : ∀ o5 o6 o7, u D [some (.ref p), some (.ref lg), some (.ref li), some (.int way), some (.ref L), o5, o6, o7] H := fun a b c => q _ _ ⟨way, L, ps, a, b, c, rfl, hp, bu, fL, hP, hl, hk.imp id fun z => by omega⟩
  refine ⟨_, rfl, rfl, _, rfl, ?_⟩
  by_cases hw : way = 1
  · refine ifT (by simpa using hw) ⟨_, rfl, Nat.zero_le _, fun N nN => ?_⟩
    have sN : Same H (upd H N (.lst [])) := same_upd nN
    have hN : upd H N (.lst []) N = some (.lst []) := upd_same
    generalize upd H N (.lst []) = H1 at sN hN ⊢
    refine ⟨_, _, .lst (SqL.of (sN _ _ hi)) (dp_strs is), .lst (SqL.of hN) .nil, strs_shaped fun x hx => B.wd x (List.mem_append_right _ hx), nil_shaped, _, rfl, ?_⟩
    rw [eqv_nil]
    have b1 : But p H0 H1 := bu.trans fun b o _ e => sN b o e
    have p1 : Pu H1 p (n + 1) := by
      obtain ⟨xs, h1, h2⟩ := hp
      exact ⟨xs, sN _ _ h1, h2⟩
    match is, hi, B with
    | [], hi, B =>
      exact ifF (by decide) (q _ _ ⟨way, L, ps, _, _, _, rfl, p1, b1, fL, hP.keep sN, hl, hk.imp id fun z => by omega⟩)
    | x0 :: r, hi, B =>
      refine ifT rfl ?_
      have x0C : x0 ∈ gs ++ x0 :: r := List.mem_append_right _ List.mem_cons_self
      have gC : ∀ {i : Nat} {y : Str}, gs[i]? = some y → y ∈ gs ++ x0 :: r ∧ y ≠ x0 := fun {i y} e => by
        have m := List.mem_of_getElem? e
        exact ⟨List.mem_append_left _ m, (List.nodup_append.mp B.nd).2.2 y m x0 List.mem_cons_self⟩
      have hg1 := sN _ _ hg
      have hi1 := sN _ _ hi
      refine ⟨_, rfl, lg, rfl, ⟨_, SqL.of hg1⟩, fun D1 nD1 => ?_⟩
      refine lc_list (K := K) (a := lg) (xs := gs.map V.str) (PvC H1 D1 (gs ++ x0 :: r)) (pvc_start nD1) (fun i H' _ h => SqL.of (h.1 _ _ hg1)) ?_ ?_
      · intro i y H' hj h
        rw [List.getElem?_map] at hj
        cases e : gs[i]? with
        | none =>
          rw [e] at hj
          cases hj
        | some y =>
          rw [e] at hj
          cases hj
          have lt := (List.getElem?_eq_some_iff.mp e).1
          refine ⟨rfl, _, rfl, _, rfl, li, _, ((0 : Nat) : Int), _, rfl, rfl, SqL.of (h.1 _ _ hi1), atI_nat rfl, (by show 2 ≤ sizeLine; decide +kernel), fun t nt => ?_⟩
          obtain ⟨qs, k1, k2, k3⟩ := pvc_step h nD1 nt (gC e).1 x0C (gC e).2
          exact ⟨_, k1, by rw [List.length_map]; omega, k3⟩
      · rintro H2 ⟨s2, ps1, hP1, hl1⟩
        have hg2 := s2 _ _ hg1
        have hi2 := s2 _ _ hi1
        refine ⟨_, rfl, lg, rfl, ⟨_, SqL.of hg2⟩, fun D2 nD2 => ?_⟩
        refine lc_list (K := K) (a := lg) (xs := gs.map V.str) (PvC H2 D2 (gs ++ x0 :: r)) (pvc_start nD2) (fun i H' _ h => SqL.of (h.1 _ _ hg2)) ?_ ?_
        · intro i y H' hj h
          rw [List.getElem?_map] at hj
          cases e : gs[i]? with
          | none =>
            rw [e] at hj
            cases hj
          | some y =>
            rw [e] at hj
            cases hj
            have lt := (List.getElem?_eq_some_iff.mp e).1
            refine ⟨rfl, _, rfl, li, _, ((0 : Nat) : Int), _, rfl, rfl, SqL.of (h.1 _ _ hi2), atI_nat rfl, _, rfl, (by show 2 ≤ sizeLine; decide +kernel), fun t nt => ?_⟩
            obtain ⟨qs, k1, k2, k3⟩ := pvc_step h nD2 nt x0C (gC e).1 (Ne.symm (gC e).2)
            exact ⟨_, k1, by rw [List.length_map]; omega, k3⟩
        · rintro H3 ⟨s3, ps2, hP2, hl2⟩
          have hP13 := hP1.keep s3
          rw [List.length_map] at hl1 hl2
          refine ⟨D1, D2, _, _, rfl, rfl, hP13.1, hP2.1, by rw [List.length_map, List.length_map]; omega, fun D3 nD3 => ?_⟩
          have b3 : But p H0 H3 := b1.trans fun b o _ e => s3 _ _ (s2 _ _ e)
          have ND : D3 ≠ p := fun e => by
            obtain ⟨xs, h1, _⟩ := p1
            rw [e, s3 _ _ (s2 _ _ h1)] at nD3
            cases nD3
          have p3 : Pu H3 p (n + 1) := by
            obtain ⟨xs, h1, h2⟩ := p1
            exact ⟨xs, s3 _ _ (s2 _ _ h1), h2⟩
          refine q _ _ ⟨way, D3, ps1 ++ ps2, _, _, _, rfl, p3.upd (Ne.symm ND), b3.trans (but_new nD3), b3.free nD3 ND, ⟨by rw [upd_same, List.map_append], fun a ha => ?_⟩, by rw [List.length_append]; omega, Or.inr (by omega)⟩
          rcases List.mem_append.mp ha with h | h
          · exact (hP13.2 a h).keep (same_upd nD3)
          · exact (hP2.2 a h).keep (same_upd nD3)
  · exact ifF (by simpa using hw) (ifF (by decide) (back o5 o6 o7))
end
end K4
end
section
set_option Elab.async false
set_option linter.all false
set_option maxRecDepth 100000
set_option maxHeartbeats 8000000
namespace K4
open PySem PySem.Spec PyProof.Rows L2
section
variable {P : Program} {w : World} {K : PySem.W.Frag} {mg : Str → Option Value} {base : Heap} {f : Addr} {cdv : Value} {A : Around} {outer : List Env} {s : Shared} {Hl : Hp} {E : XK} {p lg li : Addr} {gs is : List Str} {H0 : Hp} {n : Int}
theorem sh2 (T : Tx K mg) (B : ShG H0 p lg li gs is) {rest : List Stmt} {u : TS} (hu : PSs (SX P w K mg base f cdv A outer s Hl E) rest u) :
    PSs (SX P w K mg base f cdv A outer s Hl E) (shS 3 :: rest) (tSh 2 p lg li gs is H0 n u) := by
  have gL := T.fr "len" (by decide +kernel)
  refine weak (t := tSeq _ u) (pss_cons (ps_if (PW.pt (pw_and (pt_cmpR op_eq (pv 3) pe_int (nomark _)) (pw_and1 (pt_cmpR op_gt (pe_callB call_len_seq (by rfl) gL PySem.boot_len (pa_cons (pv 1) pa_nil)) pe_int (nomark _)))))
    (pss_one (ps_set (i := 4) scShape.nd rfl (Or.inl rfl) (pe_op op_cat
      (pe_op op_rep (pe_lst (pa_cons (pe_tup (pa_cons (pe_ix ix_list (pv 1) pe_int (fun _ _ => rfl)) (pa_cons (pe_ix ix_list (pv 1) pe_int (fun _ _ => rfl)) pa_nil))) pa_nil)) pe_int)
      (pe_lst (pa_cons (pe_tup (pa_cons (pe_ix ix_list (pv 1) pe_int (fun _ _ => rfl)) (pa_cons (pe_ix ix_list (pv 1) pe_int (fun _ _ => rfl)) pa_nil))) pa_nil))))) pss_nil) hu) ?_
  rintro D σ H ⟨⟨way, L, ps, o5, o6, o7, rfl, hp, bu, fL, hP, hl, hk⟩, q⟩
  have hg : Ws H lg gs := bu _ _ B.np B.g
  have sl := sizeLine_eq
  have back : ∀ o5 o6 o7, u D [some (.ref p), some (.ref lg), some (.ref li), some (.int way), some (.ref L), o5, o6, o7] H := fun a b c => q _ _ ⟨way, L, ps, a, b, c, rfl, hp, bu, fL, hP, hl, hk.imp id fun z => by omega⟩
  refine ⟨_, rfl, rfl, _, rfl, ?_⟩
  by_cases hw : way = 2
  · refine ifT (by simpa using hw) ⟨_, rfl, lg, _, rfl, Or.inl (SqL.of hg), _, _, rfl, rfl, _, rfl, ?_⟩
    match gs, hg, B with
    | [], hg, B => exact absurd B.l1 (by decide)
    | [g], hg, B => exact ifF (by simp) (q _ _ ⟨way, L, ps, _, _, _, rfl, hp, bu, fL, hP, hl, hk.imp id fun z => by omega⟩)
    | g0 :: g1 :: r, hg, B =>
      refine ifT (decide_eq_true (by simp only [List.map_cons, List.length_cons]; omega)) ?_
      have ne : g0 ≠ g1 := fun e => by
        have := (List.nodup_cons.mp B.nd).1
        rw [e] at this
        exact this (by simp)
      have m0 : g0 ∈ (g0 :: g1 :: r) ++ is := by simp
      have m1 : g1 ∈ (g0 :: g1 :: r) ++ is := by simp
      refine ⟨_, rfl, lg, _, ((0 : Nat) : Int), _, rfl, rfl, SqL.of hg, atI_nat rfl, _, rfl, lg, _, ((1 : Nat) : Int), _, rfl, rfl, SqL.of hg, atI_nat rfl, (by show 2 ≤ sizeLine; decide +kernel), fun t nt => ?_⟩
      have s1 : Same H (upd H t (.tup [.str g0, .str g1])) := same_upd nt
      have et : upd H t (.tup [.str g0, .str g1]) t = some (.tup [.str g0, .str g1]) := upd_same
      generalize upd H t (.tup [.str g0, .str g1]) = H1 at s1 et ⊢
      refine ⟨(by show 1 ≤ sizeLine; decide +kernel), fun a na => ?_⟩
      have s2 : Same H1 (upd H1 a (.lst [.ref t])) := same_upd na
      have ea : upd H1 a (.lst [.ref t]) a = some (.lst [.ref t]) := upd_same
      generalize upd H1 a (.lst [.ref t]) = H2 at s2 ea ⊢
      refine ⟨a, 3, _, rfl, rfl, ea, by decide, by decide, (by show 1 * 3 ≤ sizeLine; decide +kernel), fun b nb => ?_⟩
      have er : (List.replicate (Int.toNat 3) [V.ref t]).flatten = [V.ref t, V.ref t, V.ref t] := rfl
      rw [er]
      have s3 : Same H2 (upd H2 b (.lst [V.ref t, V.ref t, V.ref t])) := same_upd nb
      have eb : upd H2 b (.lst [V.ref t, V.ref t, V.ref t]) b = some (.lst [V.ref t, V.ref t, V.ref t]) := upd_same
      generalize upd H2 b (.lst [V.ref t, V.ref t, V.ref t]) = H3 at s3 eb ⊢
      have s03 : Same H H3 := same_trans s1 (same_trans s2 s3)
      have hg3 := s03 _ _ hg
      refine ⟨_, rfl, lg, _, ((1 : Nat) : Int), _, rfl, rfl, SqL.of hg3, atI_nat rfl, _, rfl, lg, _, ((0 : Nat) : Int), _, rfl, rfl, SqL.of hg3, atI_nat rfl, (by show 2 ≤ sizeLine; decide +kernel), fun t2 nt2 => ?_⟩
      have s4 : Same H3 (upd H3 t2 (.tup [.str g1, .str g0])) := same_upd nt2
      have et2 : upd H3 t2 (.tup [.str g1, .str g0]) t2 = some (.tup [.str g1, .str g0]) := upd_same
      generalize upd H3 t2 (.tup [.str g1, .str g0]) = H4 at s4 et2 ⊢
      refine ⟨(by show 1 ≤ sizeLine; decide +kernel), fun c nc => ?_⟩
      have s5 : Same H4 (upd H4 c (.lst [.ref t2])) := same_upd nc
      have ec : upd H4 c (.lst [.ref t2]) c = some (.lst [.ref t2]) := upd_same
      generalize upd H4 c (.lst [.ref t2]) = H5 at s5 ec ⊢
      have s35 := same_trans s4 s5
      have s05 := same_trans s03 s35
      refine ⟨b, c, _, _, rfl, rfl, s35 _ _ eb, ec, (by show 3 + 1 ≤ sizeLine; decide +kernel), fun d nd => ?_⟩
      have b5 : But p H0 H5 := bu.trans fun b o _ e => s05 _ _ e
      have ND : d ≠ p := fun e => by
        obtain ⟨xs, h1, _⟩ := hp
        rw [e, s05 _ _ h1] at nd
        cases nd
      have p5 : Pu H5 p (n + 1) := by
        obtain ⟨xs, h1, h2⟩ := hp
        exact ⟨xs, s05 _ _ h1, h2⟩
      have kd : Same H5 (upd H5 d (.lst ([V.ref t, V.ref t, V.ref t] ++ [V.ref t2]))) := same_upd nd
      have pt : Pr (upd H5 d (.lst ([V.ref t, V.ref t, V.ref t] ++ [V.ref t2]))) ((g0 :: g1 :: r) ++ is) t := ⟨g0, g1, kd _ _ (s35 _ _ (s3 _ _ (s2 _ _ et))), m0, m1, ne⟩
      have pt2 : Pr (upd H5 d (.lst ([V.ref t, V.ref t, V.ref t] ++ [V.ref t2]))) ((g0 :: g1 :: r) ++ is) t2 := ⟨g1, g0, kd _ _ (s5 _ _ et2), m1, m0, Ne.symm ne⟩
      refine q _ _ ⟨way, d, [t, t, t, t2], _, _, _, rfl, p5.upd (Ne.symm ND), b5.trans (but_new nd), b5.free nd ND, ⟨upd_same, fun a ha => ?_⟩, (by show 4 ≤ 12; decide), Or.inr (by omega)⟩
      simp only [List.mem_cons, List.not_mem_nil, or_false] at ha
      rcases ha with rfl | rfl | rfl | rfl
      · exact pt
      · exact pt
      · exact pt
      · exact pt2
  · exact ifF (by simpa using hw) (ifF (by decide) (back o5 o6 o7))
end
end K4
end
section
set_option Elab.async false
set_option linter.all false
set_option maxRecDepth 100000
set_option maxHeartbeats 8000000
namespace K4
open PySem PySem.Spec PyProof.Rows L2
section
variable {P : Program} {w : World} {K : PySem.W.Frag} {mg : Str → Option Value} {base : Heap} {f : Addr} {cdv : Value} {A : Around} {outer : List Env} {s : Shared} {Hl : Hp} {E : XK} {p lg li : Addr} {gs is : List Str} {H0 : Hp} {n : Int}
theorem sh3 (T : Tx K mg) (B : ShG H0 p lg li gs is) (hu64 : (A.deeper (envOfC "_law_shape" (defScope sShape) s.heap.objs.size f cdv)).units + 64 < cLine) {rest : List Stmt} {u : TS} (hu : PSs (SX P w K mg base f cdv A outer s Hl E) rest u) :
    PSs (SX P w K mg base f cdv A outer s Hl E) (shS 4 :: rest) (tSh 3 p lg li gs is H0 n u) := by
  have gL := T.fr "len" (by decide +kernel)
  have gR := T.fr "range" (by decide +kernel)
  refine weak (t := tSeq _ u) (pss_cons (ps_if (PW.pt (pw_and (pt_cmpR op_eq (pv 3) pe_int (nomark _)) (pw_and (pt_cmpR (op_neD hu64) (pv 2) (pe_lst pa_nil) (nomark _)) (pw_and1 (pt_cmpR op_gt (pe_callB call_len_seq (by rfl) gL PySem.boot_len (pa_cons (pv 1) pa_nil)) pe_int (nomark _))))))
    (pss_cons (ps_set (i := 6) scShape.nd rfl (Or.inr rfl) (pe_op op_cat (pe_op op_cat (pe_lst (pa_cons (pe_ix ix_list (pv 1) pe_int (fun _ _ => rfl)) pa_nil)) (pv 2)) (pe_lst (pa_cons (pe_ix ix_list (pv 1) pe_int (fun _ _ => rfl)) pa_nil))))
    (pss_one (ps_set (i := 4) scShape.nd rfl (Or.inl rfl) (pe_op op_cat
      (pe_lc (own := [("_law_at", 5)]) (g := gName 5) (tt := tYes) rfl scShape.nd (pi_range1 rfl gR (pa_cons (pe_op op_sub (pe_callB call_len_seq (by rfl) gL PySem.boot_len (pa_cons (pv 6) pa_nil)) pe_int) pa_nil)) (blkOk_by (own := [("_law_at", 5)]) (N := NS) (sc := defScope sShape) (by decide +kernel))
        (fun _ _ _ _ _ => pg_name (i := 5) scShape.nd rfl (Or.inl rfl)) (fun _ _ _ _ _ => pts_nil) (te := tTup (tCons (tOp (rIxL K) (tVar 6) (tVar 5)) (tCons (tOp (rIxL K) (tVar 6) (tOp (rI0 fun i j => V.int (i + j)) (tVar 5) (tC (.int 1)))) tNil)))
        (fun _ _ _ _ _ => pe_tup (pa_cons (pe_ix ix_list (pv 6) (pv 5) (fun _ _ => rfl)) (pa_cons (pe_ix ix_list (pv 6) (pe_op op_add (pv 5) pe_int) (fun _ _ => rfl)) pa_nil))))
      (pe_lst (pa_cons (pe_tup (pa_cons (pe_ix ix_list (pv 1) pe_int (fun _ _ => rfl)) (pa_cons (pe_ix ix_list (pv 1) pe_int (fun _ _ => rfl)) pa_nil))) pa_nil)))))) pss_nil) hu) ?_
  rintro D σ H ⟨⟨way, L, ps, o5, o6, o7, rfl, hp, bu, fL, hP, hl, hk⟩, q⟩
  have hg : Ws H lg gs := bu _ _ B.np B.g
  have hi : Ws H li is := bu _ _ B.nq B.i
  have sl := sizeLine_eq
  have l5 := B.l5
  have l8 := B.l8
  have back : ∀ o5 o6 o7, u D [some (.ref p), some (.ref lg), some (.ref li), some (.int way), some (.ref L), o5, o6, o7] H := fun a b c => q _ _ ⟨way, L, ps, a, b, c, rfl, hp, bu, fL, hP, hl, hk.imp id fun z => by omega⟩
  refine ⟨_, rfl, rfl, _, rfl, ?_⟩
  by_cases hw : way = 3
  · refine ifT (by simpa using hw) ⟨_, rfl, Nat.zero_le _, fun N nN => ?_⟩
    have sN : Same H (upd H N (.lst [])) := same_upd nN
    have hN : upd H N (.lst []) N = some (.lst []) := upd_same
    generalize upd H N (.lst []) = H1 at sN hN ⊢
    refine ⟨_, _, .lst (SqL.of (sN _ _ hi)) (dp_strs is), .lst (SqL.of hN) .nil, strs_shaped fun x hx => B.wd x (List.mem_append_right _ hx), nil_shaped, _, rfl, ?_⟩
    rw [eqv_nil]
    have b1 : But p H0 H1 := bu.trans fun b o _ e => sN b o e
    have p1 : Pu H1 p (n + 1) := by
      obtain ⟨xs, h1, h2⟩ := hp
      exact ⟨xs, sN _ _ h1, h2⟩
    have back1 : ∀ o5 o6 o7, u D [some (.ref p), some (.ref lg), some (.ref li), some (.int way), some (.ref L), o5, o6, o7] H1 := fun a b c => q _ _ ⟨way, L, ps, a, b, c, rfl, p1, b1, fL, hP.keep sN, hl, hk.imp id fun z => by omega⟩
    have hg1 := sN _ _ hg
    have hi1 := sN _ _ hi
    by_cases hne : is = []
    · subst hne
      exact ifF (by decide) (ifF (by decide) (back1 _ _ _))
    · have hnb : (!(is.map PyData.str).isEmpty) = true := by
        cases is with
        | nil => exact absurd rfl hne
        | cons => rfl
      refine ifT hnb ⟨_, rfl, lg, _, rfl, Or.inl (SqL.of hg1), _, _, rfl, rfl, _, rfl, ?_⟩
      by_cases h2 : 2 ≤ gs.length
      · refine ifT (decide_eq_true (by rw [List.length_map]; omega)) ?_
        obtain ⟨g0, g1, r, rfl⟩ : ∃ g0 g1 r, gs = g0 :: g1 :: r := by
          match gs, h2 with
          | a :: b :: r, _ => exact ⟨a, b, r, rfl⟩
        have m0 : g0 ∈ (g0 :: g1 :: r) ++ is := by simp
        have m1 : g1 ∈ (g0 :: g1 :: r) ++ is := by simp
        have ne01 : g0 ≠ g1 := fun e => by
          have := (List.nodup_cons.mp B.nd).1
          rw [e] at this
          exact this (by simp)
        -- the row
        refine ⟨_, rfl, lg, _, ((0 : Nat) : Int), _, rfl, rfl, SqL.of hg1, atI_nat rfl, (by show 1 ≤ sizeLine; decide +kernel), fun a na => ?_⟩
        have s2 : Same H1 (upd H1 a (.lst [.str g0])) := same_upd na
        have ea : upd H1 a (.lst [.str g0]) a = some (.lst [.str g0]) := upd_same
        generalize upd H1 a (.lst [.str g0]) = H2 at s2 ea ⊢
        have hi2 := s2 _ _ hi1
        refine ⟨_, rfl, a, li, _, _, rfl, rfl, ea, hi2, (by rw [List.length_map]; show 1 + _ ≤ _; omega), fun b nb => ?_⟩
        have s3 := same_upd (o := HO.lst ([V.str g0] ++ is.map V.str)) nb
        have eb : upd H2 b (.lst ([V.str g0] ++ is.map V.str)) b = some (.lst ([V.str g0] ++ is.map V.str)) := upd_same
        generalize upd H2 b (.lst ([V.str g0] ++ is.map V.str)) = H3 at s3 eb ⊢
        have hg3 := s3 _ _ (s2 _ _ hg1)
        refine ⟨_, rfl, lg, _, ((1 : Nat) : Int), _, rfl, rfl, SqL.of hg3, atI_nat rfl, (by show 1 ≤ sizeLine; decide +kernel), fun c nc => ?_⟩
        have s4 : Same H3 (upd H3 c (.lst [.str g1])) := same_upd nc
        have ec : upd H3 c (.lst [.str g1]) c = some (.lst [.str g1]) := upd_same
        generalize upd H3 c (.lst [.str g1]) = H4 at s4 ec ⊢
        refine ⟨b, c, _, _, rfl, rfl, s4 _ _ eb, ec, (by rw [List.length_append, List.length_map]; show 1 + _ + 1 ≤ _; omega), fun W nW => ?_⟩
        have er : ([V.str g0] ++ is.map V.str) ++ [V.str g1] = (g0 :: (is ++ [g1])).map V.str := by simp
        rw [er]
        have s5 := same_upd (o := HO.lst ((g0 :: (is ++ [g1])).map V.str)) nW
        have eW : Ws (upd H4 W (.lst ((g0 :: (is ++ [g1])).map V.str))) W (g0 :: (is ++ [g1])) := upd_same
        generalize upd H4 W (.lst ((g0 :: (is ++ [g1])).map V.str)) = H5 at s5 eW ⊢
        have s15 : Same H1 H5 := same_trans s2 (same_trans s3 (same_trans s4 s5))
        have rn : (g0 :: (is ++ [g1])).Nodup := by
          have h := List.nodup_append.mp B.nd
          have hgn := List.nodup_cons.mp h.1
          refine List.nodup_cons.mpr ⟨fun m => ?_, List.nodup_append.mpr ⟨h.2.1, by simp, fun x hx y hy => ?_⟩⟩
          · rcases List.mem_append.mp m with m | m
            · exact h.2.2 g0 List.mem_cons_self g0 m rfl
            · exact ne01 (List.mem_singleton.mp m)
          · rw [List.mem_singleton.mp hy]
            exact fun e => h.2.2 g1 (by simp) x hx e.symm
        have rC : ∀ x ∈ g0 :: (is ++ [g1]), x ∈ (g0 :: g1 :: r) ++ is := fun x hx => by
          rcases List.mem_cons.mp hx with e | hx
          · rw [e]; exact m0
          · rcases List.mem_append.mp hx with h | h
            · exact List.mem_append_right _ h
            · rw [List.mem_singleton.mp h]; exact m1
        have rl : (g0 :: (is ++ [g1])).length = is.length + 2 := by simp
        generalize g0 :: (is ++ [g1]) = R at eW rn rC rl
        have b5 : But p H0 H5 := b1.trans fun b o _ e => s15 _ _ e
        have p5 : Pu H5 p (n + 1) := by
          obtain ⟨xs, h1, h2⟩ := p1
          exact ⟨xs, s15 _ _ h1, h2⟩
        have hg5 := s15 _ _ hg1
        refine ⟨_, rfl, W, _, rfl, Or.inl (SqL.of eW), _, _, rfl, rfl, _, rfl, by rw [List.length_map]; omega, by rw [List.length_map]; omega, fun D1 nD1 => ?_⟩
        refine lc_range (lo := 0) (n := ((((R.map V.str).length : Nat) : Int) - 1).toNat) (PvC H5 D1 ((g0 :: g1 :: r) ++ is)) (pvc_start nD1) ?_ ?_
        · intro i H' hii h
          rw [List.length_map] at hii
          have e1 : R[i]? = some R[i] := List.getElem?_eq_getElem (by omega)
          have e2 : R[i + 1]? = some R[i + 1] := List.getElem?_eq_getElem (by omega)
          have ee : (0 + (i : Int)) + 1 = ((i + 1 : Nat) : Int) := by omega
          refine ⟨rfl, _, rfl, _, rfl, W, _, ((i : Nat) : Int), _, rfl, by rw [Int.zero_add], SqL.of (h.1 _ _ eW), atI_nat (strs_at e1), _, rfl, _, rfl, _, _, rfl, rfl, W, _, ((i + 1 : Nat) : Int), _, rfl, congrArg V.int ee, SqL.of (h.1 _ _ eW), atI_nat (strs_at e2), (by show 2 ≤ sizeLine; decide +kernel), fun t nt => ?_⟩
          obtain ⟨qs, k1, k2, k3⟩ := pvc_step h nD1 nt (rC _ (List.getElem_mem _)) (rC _ (List.getElem_mem _)) (fun e => by
            have li : i < R.length := by omega
            have := (List.getElem?_inj (j := i + 1) li rn).mp (by rw [e1, e2, e])
            omega)
          exact ⟨_, k1, by rw [List.length_map]; omega, k3⟩
        · rintro H6 ⟨s6, ps1, hP1, hl1⟩
          rw [List.length_map] at hl1
          have hg6 := s6 _ _ hg5
          refine ⟨_, rfl, lg, _, ((0 : Nat) : Int), _, rfl, rfl, SqL.of hg6, atI_nat rfl, _, rfl, lg, _, ((1 : Nat) : Int), _, rfl, rfl, SqL.of hg6, atI_nat rfl, (by show 2 ≤ sizeLine; decide +kernel), fun t nt => ?_⟩
          have s7 : Same H6 (upd H6 t (.tup [.str g0, .str g1])) := same_upd nt
          have et : upd H6 t (.tup [.str g0, .str g1]) t = some (.tup [.str g0, .str g1]) := upd_same
          generalize upd H6 t (.tup [.str g0, .str g1]) = H7 at s7 et ⊢
          refine ⟨(by show 1 ≤ sizeLine; decide +kernel), fun c nc => ?_⟩
          have s8 : Same H7 (upd H7 c (.lst [.ref t])) := same_upd nc
          have ec : upd H7 c (.lst [.ref t]) c = some (.lst [.ref t]) := upd_same
          generalize upd H7 c (.lst [.ref t]) = H8 at s8 ec ⊢
          have hP8 := hP1.keep (same_trans s7 s8)
          refine ⟨D1, c, _, _, rfl, rfl, hP8.1, ec, by rw [List.length_map]; show _ + 1 ≤ _; omega, fun d nd => ?_⟩
          have s58 := same_trans s6 (same_trans s7 s8)
          have b8 : But p H0 H8 := b5.trans fun b o _ e => s58 _ _ e
          have ND : d ≠ p := fun e => by
            obtain ⟨xs, h1, _⟩ := p5
            rw [e, s58 _ _ h1] at nd
            cases nd
          have p8 : Pu H8 p (n + 1) := by
            obtain ⟨xs, h1, h2⟩ := p5
            exact ⟨xs, s58 _ _ h1, h2⟩
          refine q _ _ ⟨way, d, ps1 ++ [t], _, _, _, rfl, p8.upd (Ne.symm ND), b8.trans (but_new nd), b8.free nd ND, ⟨by rw [upd_same, List.map_append]; rfl, fun a ha => ?_⟩, by rw [List.length_append]; show _ + 1 ≤ _; omega, Or.inr (by omega)⟩
          rcases List.mem_append.mp ha with h | h
          · exact (hP8.2 a h).keep (same_upd nd)
          · rw [List.mem_singleton.mp h]
            exact ⟨g0, g1, same_upd nd _ _ (s8 _ _ et), m0, m1, ne01⟩
      · exact ifF (fun z => by have z := of_decide_eq_true z; rw [List.length_map] at z; omega) (back1 _ _ _)
  · exact ifF (by simpa using hw) (ifF (by decide) (back o5 o6 o7))
end
/-! ### _law_shape -/
def spShape : Sp := fun vs H Q _ => ∃ (p lg li : Addr) (gs is : List Str) (n : Int), vs = [.ref p, .ref lg, .ref li] ∧ ShG H p lg li gs is ∧ Pu H p n ∧ n ≤ 800000 ∧
  ∀ (D : Addr) (ps : List Addr) (H' : Hp), Pu H' p (n + 1) → But p H H' → H D = none → Prs H' D (gs ++ is) ps → ps.length ≤ 12 → Q (.ref D) H'
section
variable {P : Program} {w : World} {K : PySem.W.Frag} {mg : Str → Option Value} {base : Heap}
theorem ok_shape {f : Addr} {fd : FuncData} (F : FnP K "_law_shape" sShape f fd) (G : DrawZ P w K mg base) (T : Tx K mg) : FnOk P w K mg base CX0 3 f fd ["_law_purse_here", "_law_gates", "_law_inner"] spShape := by
  refine F.ok scShape (fun vs H Q E h => ?_) (fun cdv A outer s H vs Q E hr h => ?_)
  · obtain ⟨_, _, _, _, _, _, rfl, _⟩ := h
    rfl
  · obtain ⟨p, lg, li, gs, is, n, rfl, B, hp, hn, q⟩ := h
    have hu64 : (A.deeper (envOfC "_law_shape" (defScope sShape) s.heap.objs.size f cdv)).units + 64 < cLine := by
      have := hr.un
      omega
    refine ⟨_, PSs.nox (pss_cons (ps_par (i := 3) (j := 4) rfl scShape.nd rfl rfl (by decide) rfl rfl (pa_cons (pe_fz G hr (by rfl) (pa_cons (pv 0) (pa_cons pe_int pa_nil))) (pa_cons (pe_lst pa_nil) pa_nil)) (by rfl))
      (sh0 (n := n) T B (sh1 (n := n) T B hu64 (sh2 (n := n) T B (sh3 (n := n) T B hu64 (pss_one (ps_ret (pv 4)))))))), ?_⟩
    obtain ⟨xs, hx1, hx2⟩ := hp
    refine ⟨_, rfl, p, 6, n, xs, rfl, hx1, hx2, by omega, by decide, by decide, fun r ys r0 r1 hy => ?_⟩
    have hp1 : upd H p (.lst ys) p = some (.lst ys) := upd_same
    have b1 : But p H (upd H p (.lst ys)) := but_self
    generalize upd H p (.lst ys) = H1 at hp1 b1 ⊢
    refine ⟨Nat.zero_le _, fun L nL => ⟨_, _, rfl, ?_⟩⟩
    have nLp : L ≠ p := fun e => by
      rw [e, hp1] at nL
      cases nL
    refine ⟨⟨r, L, [], _, _, _, rfl, ⟨ys, by rw [upd_ne (Ne.symm nLp)]; exact hp1, hy⟩, b1.trans (but_new nL), b1.free nL nLp, ⟨upd_same, fun a h => by simp at h⟩, Nat.zero_le _, Or.inl rfl⟩, fun σ2 H2 h2 => ⟨h2, fun σ3 H3 h3 => ⟨h3, fun σ4 H4 h4 => ⟨h4, fun σ5 H5 h5 => ?_⟩⟩⟩⟩
    obtain ⟨way, D, ps, o5, o6, o7, rfl, hpu, bu, fD, hP, hl, _⟩ := h5
    exact ⟨_, rfl, q D ps H5 hpu bu fD hP hl⟩
end
end K4
end
section
set_option Elab.async false
set_option linter.all false
set_option maxRecDepth 100000
set_option maxHeartbeats 8000000
namespace K4
open PySem PySem.Spec PyProof.Rows L2
abbrev PairZ (P : Program) (w : World) (K : PySem.W.Frag) (mg : Str → Option Value) (base : Heap) : Prop := Fz P w K mg base "_law_pair" 4 ["_law_purse_here", "_law_crossings"] spPair
abbrev WidthZ (P : Program) (w : World) (K : PySem.W.Frag) (mg : Str → Option Value) (base : Heap) : Prop := Fz P w K mg base "_law_width" 4 ["_law_purse_here"] spSmall
abbrev LengthZ (P : Program) (w : World) (K : PySem.W.Frag) (mg : Str → Option Value) (base : Heap) : Prop := Fz P w K mg base "_law_length" 4 ["_law_purse_here"] spSmall
abbrev NT : List Str := ["_law_purse_here", "_law_crossings", "_law_names", "_law_pairs", "_law_many", "_law_found", "_law_at", "_law_pair_here"]
theorem scStreetsOf : FnScope NT ["_law_purse_here", "_law_crossings", "_law_names", "_law_pairs", "_law_many"] (defScope sStreetsOf) := ⟨rfl, rfl, rfl, by decide +kernel, rfl, by decide +kernel, by decide +kernel⟩
def forBody (s : Stmt) : List Stmt := match s with
  | .For _ _ b _ _ => b
  | _ => []
def ifBody (s : Stmt) : List Stmt := match s with
  | .If _ b _ _ => b
  | _ => []
/-- the suite of the turn -/
def suite : List Stmt := ifBody ((forBody ((defBody sStreetsOf).getD 1 (.Pass ⟨0, 0, 0, 0⟩))).getD 0 (.Pass ⟨0, 0, 0, 0⟩))
def suS (i : Nat) : Stmt := suite.getD i (.Pass ⟨0, 0, 0, 0⟩)
/-- what is handed -/
structure StG (H : Hp) (p lc ln lp : Addr) (cs ns : List Str) (ps : List Addr) : Prop where
  hc : Ws H lc cs
  hn : Ws H ln ns
  hp : Prs H lp cs ps
  nc : lc ≠ p
  nn : ln ≠ p
  np : lp ≠ p
  pt : ∃ xs, H p = some (.lst xs)
  cd : cs.Nodup
  cw : ∀ x ∈ cs, Wd x
  nw : ∀ x ∈ ns, Wd x
  l1 : cs.length ≤ 100
  l2 : ps.length ≤ 100
/-- the streets made so far -/
structure StI (H H' : Hp) (p D : Addr) (cs ns : List Str) (i : Nat) (ts : List (Addr × S5)) : Prop where
  bu : But p H H'
  fD : H D = none
  st : Sts H' D ts
  ok : ∀ t ∈ ts, t.2.Ok ∧ t.2.st ∈ cs ∧ t.2.en ∈ cs ∧ H t.1 = none
  nm : ts.map (fun t => t.2.nm) = ns.take i
  ln : ts.length = i
abbrev TX (P : Program) (w : World) (K : PySem.W.Frag) (mg : Str → Option Value) (base : Heap) (f : Addr) (cdv : Value) (A : Around) (outer : List Env) (s : Shared) (H : Hp) (E : XK) : Cx := (cxOf CX0 P w K mg base NT "_law_streets_of" (defScope sStreetsOf) f cdv A outer s H E).nox
/-- the slots in a turn -/
abbrev stσ (p lc ln lp D : Addr) (m : Int) (i : Nat) (o7 : Option V) : L2.St := [some (.ref p), some (.ref lc), some (.ref ln), some (.ref lp), some (.int m), some (.ref D), some (.int (0 + (i : Nat))), o7]
theorem sts_keep {H H' : Hp} {D : Addr} {ts : List (Addr × S5)} (h : Sts H D ts) (k : ∀ b o, H b = some o → H' b = some o) : Sts H' D ts := ⟨k _ _ h.1, fun t ht => k _ _ (h.2 t ht)⟩
section
variable {P : Program} {w : World} {K : PySem.W.Frag} {mg : Str → Option Value} {base : Heap} {f : Addr} {cdv : Value} {A : Around} {outer : List Env} {s : Shared} {Hl : Hp} {E : XK} {p lc ln lp D : Addr} {cs ns : List Str} {ps : List Addr} {H0 : Hp} {n m : Int} {i : Nat}
/-- the street is put to the others -/
def tPutS (p lc ln lp D : Addr) (cs ns : List Str) (H0 : Hp) (n m : Int) (i : Nat) : TS := fun E σ H => ∃ (a : Addr) (x y : Str) (ts : List (Addr × S5)), σ = stσ p lc ln lp D m i (some (.ref a)) ∧ H a = some (.tup [.str x, .str y]) ∧ x ∈ cs ∧ y ∈ cs ∧ x ≠ y ∧ Pu H p n ∧ n ≤ 700000 ∧ StI H0 H p D cs ns i ts ∧
  ∀ ts' H', Pu H' p (n + 2) → StI H0 H' p D cs ns (i + 1) ts' → E.nx (stσ p lc ln lp D m i (some (.ref a))) H'
theorem putS (B : StG H0 p lc ln lp cs ns ps) (hi : i < ns.length) (h100 : i < 1000) (GW : WidthZ P w K mg base) (GL : LengthZ P w K mg base) (hr : Room 4 (A.deeper (envOfC "_law_streets_of" (defScope sStreetsOf) s.heap.objs.size f cdv))) :
    PSs (TX P w K mg base f cdv A outer s Hl E) [suS 2] (tPutS p lc ln lp D cs ns H0 n m i) := by
  refine weak (t := _) (pss_one (ps_expr (pe_bm PySem.F.plainAttrs_list PySem.F.slot_list_append PySem.F.type_list_append mt_append (pv 5) (pa_cons
    (pe_op op_catT (pe_op op_catT (pe_tup (pa_cons (pe_ix ix_list (pv 2) (pv 6) (fun _ _ => rfl)) pa_nil)) (pv 7))
      (pe_tup (pa_cons (pe_fz GW hr (by rfl) (pa_cons (pv 0) pa_nil)) (pa_cons (pe_fz GL hr (by rfl) (pa_cons (pv 0) pa_nil)) pa_nil)))) pa_nil)))) ?_
  rintro Z σ H ⟨a, x, y, ts, rfl, ha, hx, hy, hxy, hp, hn, I, q⟩
  have hN : Ws H ln ns := I.bu _ _ B.nn B.hn
  have en : ns[i]? = some ns[i] := List.getElem?_eq_getElem hi
  have sl := sizeLine_eq
  refine ⟨_, rfl, Or.inl ⟨rfl, _, SqL.of I.st.1⟩, _, rfl, _, rfl, ln, _, ((i : Nat) : Int), _, rfl, by rw [Int.zero_add], SqL.of hN, atI_nat (strs_at en), (by show 1 ≤ sizeLine; decide +kernel), fun t1 nt1 => ?_⟩
  have s1 := same_upd (o := HO.tup [V.str ns[i]]) nt1
  have e1 : upd H t1 (.tup [V.str ns[i]]) t1 = some (.tup [V.str ns[i]]) := upd_same
  generalize upd H t1 (.tup [V.str ns[i]]) = H1 at s1 e1 ⊢
  refine ⟨_, rfl, t1, a, _, _, rfl, rfl, SqT.of e1, SqT.of (s1 _ _ ha), by simp, (by show 1 + 2 ≤ sizeLine; decide +kernel), (fun z => by cases z), fun _ t2 nt2 => ?_⟩
  have s2 := same_upd (o := HO.tup ([V.str ns[i]] ++ [V.str x, V.str y])) nt2
  have e2 : upd H1 t2 (.tup ([V.str ns[i]] ++ [V.str x, V.str y])) t2 = some (.tup ([V.str ns[i]] ++ [V.str x, V.str y])) := upd_same
  generalize upd H1 t2 (.tup ([V.str ns[i]] ++ [V.str x, V.str y])) = H2 at s2 e2 ⊢
  have s02 := same_trans s1 s2
  have p2 : Pu H2 p n := by
    obtain ⟨xs, h1, h2⟩ := hp
    exact ⟨xs, s02 _ _ h1, h2⟩
  have nt2p : t2 ≠ p := fun e => by
    obtain ⟨xs, h1, _⟩ := p2
    rw [← e, e2] at h1
    cases h1
  refine ⟨_, rfl, p, n, rfl, p2, by omega, fun r1 H3 r10 r19 p3 b3 => ?_⟩
  refine ⟨_, rfl, p, n + 1, rfl, p3, by omega, fun r2 H4 r20 r29 p4 b4 => ?_⟩
  have b24 := b3.trans b4
  refine ⟨(by show 2 ≤ sizeLine; decide +kernel), fun t3 nt3 => ?_⟩
  have s5 := same_upd (o := HO.tup [V.int r1, V.int r2]) nt3
  have e5 : upd H4 t3 (.tup [V.int r1, V.int r2]) t3 = some (.tup [V.int r1, V.int r2]) := upd_same
  have e25 := s5 _ _ (b24 _ _ nt2p e2)
  have p5 : Pu (upd H4 t3 (.tup [V.int r1, V.int r2])) p (n + 2) := by
    obtain ⟨xs, h1, h2⟩ := p4
    exact ⟨xs, s5 _ _ h1, h2.mono (by omega)⟩
  generalize upd H4 t3 (.tup [V.int r1, V.int r2]) = H5 at s5 e5 e25 p5 ⊢
  refine ⟨t2, t3, _, _, rfl, rfl, SqT.of e25, SqT.of e5, by simp, (by show 3 + 2 ≤ sizeLine; decide +kernel), (fun z => by cases z), fun _ t nt => ?_⟩
  have b05 : But p H H5 := But.trans (B := H2) (fun b o _ e => s02 b o e) (But.trans b24 fun b o _ e => s5 b o e)
  have bu5 := I.bu.trans b05
  have nDp : D ≠ p := fun e => by
    obtain ⟨xs, h1⟩ := B.pt
    rw [← e, I.fD] at h1
    cases h1
  have keep5 : Sts H5 D ts := ⟨b05 _ _ nDp I.st.1, fun u hu => b05 _ _ (fun e => by
    obtain ⟨xs, h1⟩ := B.pt
    have := (I.ok u hu).2.2.2
    rw [e, h1] at this
    cases this) (I.st.2 u hu)⟩
  have hD5 := keep5.1
  have ntD : t ≠ D := fun e => by
    rw [e, hD5] at nt
    cases nt
  have ntp : t ≠ p := fun e => by
    obtain ⟨xs, h1, _⟩ := p5
    rw [e, h1] at nt
    cases nt
  have s6 := same_upd (o := HO.tup (([V.str ns[i]] ++ [V.str x, V.str y]) ++ [V.int r1, V.int r2])) nt
  refine ⟨D, _, _, rfl, rfl, s6 _ _ hD5, by rw [List.length_map, I.ln]; omega, ?_⟩
  refine q (ts ++ [(t, ⟨ns[i], x, y, r1, r2⟩)]) _ ((p5.upd (Ne.symm ntp)).upd (Ne.symm nDp)) ⟨fun b o nb e => ?_, I.fD, ⟨by rw [upd_same, List.map_append]; rfl, fun u hu => ?_⟩, fun u hu => ?_, ?_, by simp [I.ln]⟩
  · rw [upd_ne (ne_of_none e I.fD)]
    exact s6 _ _ (bu5 b o nb e)
  · rcases List.mem_append.mp hu with h | h
    · have e := s6 _ _ (keep5.2 u h)
      rw [upd_ne (ne_of e (s6 _ _ hD5) (by intro z; cases z))]
      exact e
    · rw [List.mem_singleton.mp h, upd_ne ntD]
      exact upd_same
  · rcases List.mem_append.mp hu with h | h
    · exact I.ok u h
    · rw [List.mem_singleton.mp h]
      exact ⟨⟨B.nw _ (List.getElem_mem hi), B.cw x hx, B.cw y hy, hxy, r10, Int.le_trans r19 (by decide), r20, Int.le_trans r29 (by decide)⟩, hx, hy, bu5.free nt ntp⟩
  · rw [List.map_append, I.nm, List.take_add_one, en]
    rfl
end
end K4
end
section
set_option Elab.async false
set_option linter.all false
set_option maxRecDepth 100000
set_option maxHeartbeats 8000000
namespace K4
open PySem PySem.Spec PyProof.Rows L2
theorem StI.same {H0 H H' : Hp} {p D : Addr} {cs ns : List Str} {i : Nat} {ts : List (Addr × S5)} (I : StI H0 H p D cs ns i ts) (s : Same H H') : StI H0 H' p D cs ns i ts :=
  ⟨I.bu.trans fun b o _ e => s b o e, I.fD, sts_keep I.st s, I.ok, I.nm, I.ln⟩
theorem StI.but {H0 H H' : Hp} {p D : Addr} {cs ns : List Str} {i : Nat} {ts : List (Addr × S5)} (I : StI H0 H p D cs ns i ts) (s : But p H H') (h : H0 p ≠ none) : StI H0 H' p D cs ns i ts :=
  ⟨I.bu.trans s, I.fD, ⟨s _ _ (fun e => h (by rw [← e]; exact I.fD)) I.st.1, fun t ht => s _ _ (fun e => h (by rw [← e]; exact (I.ok t ht).2.2.2)) (I.st.2 t ht)⟩, I.ok, I.nm, I.ln⟩
theorem Pu.same {H H' : Hp} {p : Addr} {n : Int} (h : Pu H p n) (s : Same H H') : Pu H' p n := by
  obtain ⟨xs, h1, h2⟩ := h
  exact ⟨xs, s _ _ h1, h2⟩
section
variable {P : Program} {w : World} {K : PySem.W.Frag} {mg : Str → Option Value} {base : Heap} {f : Addr} {cdv : Value} {A : Around} {outer : List Env} {s : Shared} {Hl : Hp} {E : XK} {p lc ln lp D : Addr} {cs ns : List Str} {ps : List Addr} {H0 : Hp} {n m : Int} {i : Nat}
/-- the pair is taken of another street, now and then -/
def tMid (p lc ln lp D : Addr) (cs ns : List Str) (H0 : Hp) (n m : Int) (i : Nat) (u : TS) : TS := fun E σ H => ∃ (a : Addr) (x y : Str) (ts : List (Addr × S5)), σ = stσ p lc ln lp D m i (some (.ref a)) ∧ H a = some (.tup [.str x, .str y]) ∧ x ∈ cs ∧ y ∈ cs ∧ x ≠ y ∧ Pu H p n ∧ n ≤ 700000 ∧ StI H0 H p D cs ns i ts ∧
  ∀ (a' : Addr) (x' y' : Str) (H' : Hp), H' a' = some (.tup [.str x', .str y']) → x' ∈ cs → y' ∈ cs → x' ≠ y' → Pu H' p (n + 3) → StI H0 H' p D cs ns i ts → u E (stσ p lc ln lp D m i (some (.ref a'))) H'
theorem midS (B : StG H0 p lc ln lp cs ns ps) (h100 : i < 100) (G : DrawZ P w K mg base) (GO : OneZ P w K mg base) (T : Tx K mg) (hr : Room 4 (A.deeper (envOfC "_law_streets_of" (defScope sStreetsOf) s.heap.objs.size f cdv)))
    {rest : List Stmt} {u : TS} (hu : PSs (TX P w K mg base f cdv A outer s Hl E) rest u) : PSs (TX P w K mg base f cdv A outer s Hl E) (suS 1 :: rest) (tMid p lc ln lp D cs ns H0 n m i u) := by
  have gL := T.fr "len" (by decide +kernel)
  have hr2 : Room 2 (A.deeper (envOfC "_law_streets_of" (defScope sStreetsOf) s.heap.objs.size f cdv)) := hr.mono (by decide)
  have hr3 : Room 3 (A.deeper (envOfC "_law_streets_of" (defScope sStreetsOf) s.heap.objs.size f cdv)) := hr.mono (by decide)
  have hu64 : (A.deeper (envOfC "_law_streets_of" (defScope sStreetsOf) s.heap.objs.size f cdv)).units + 64 < cLine := by
    have := hr.un
    omega
  refine weak (t := tSeq _ u) (pss_cons (ps_if (PW.pt (pw_and (pt_cmpR op_ge (pv 6) (pe_callB call_len_seq (by rfl) gL PySem.boot_len (pa_cons (pv 3) pa_nil)) (nomark _)) (pw_and (pt_cmpR (op_neD hu64) (pv 5) (pe_lst pa_nil) (nomark _))
      (pw_and1 (pt_cmpR op_eq (pe_fz G hr2 (by rfl) (pa_cons (pv 0) (pa_cons pe_int pa_nil))) pe_int (nomark _))))))
    (pss_cons (ps_set (i := 7) scStreetsOf.nd rfl (Or.inl rfl) (pe_slice sl_tup (pe_fz GO hr3 (by rfl) (pa_cons (pv 0) (pa_cons (pv 5) pa_nil))) (po_some pe_int) (po_some pe_int)))
    (pss_one (ps_set (i := 7) scStreetsOf.nd rfl (Or.inl rfl) (pe_ifExp (pt_cmpR op_eq (pe_fz G hr2 (by rfl) (pa_cons (pv 0) (pa_cons pe_int pa_nil))) pe_int (nomark _)) (pv 7) (pe_rev2 (pv 7)))))) pss_nil) hu) ?_
  rintro Z σ H ⟨a, x, y, ts, rfl, ha, hx, hy, hxy, hp, hn, I, q⟩
  have hlp : Prs H lp cs ps → True := fun _ => trivial
  have hLp : H lp = some (.lst (ps.map V.ref)) := I.bu _ _ B.np B.hp.1
  have sl := sizeLine_eq
  have pt0 : H0 p ≠ none := by
    obtain ⟨xs, h⟩ := B.pt
    rw [h]
    simp
  refine ⟨_, rfl, _, rfl, lp, _, rfl, Or.inl (SqL.of hLp), _, _, rfl, rfl, _, rfl, ?_⟩
  refine ite2 (fun _ => ?_) (fun _ => ifF (by decide) (q a x y H ha hx hy hxy (hp.mono (by omega)) I))
  refine ⟨_, rfl, Nat.zero_le _, fun N nN => ?_⟩
  have sN : Same H (upd H N (.lst [])) := same_upd nN
  have hN : upd H N (.lst []) N = some (.lst []) := upd_same
  generalize upd H N (.lst []) = H1 at sN hN ⊢
  have I1 := I.same sN
  have hp1 := hp.same sN
  have ha1 := sN _ _ ha
  have shp : SeqAt.shaped (.list (ts.map fun t => t.2.data)) = true := by
    have h := sts_shaped (ss := ts.map (·.2)) (fun s hs => by
      obtain ⟨t, ht, rfl⟩ := List.mem_map.mp hs
      exact (I.ok t ht).1)
    rw [List.map_map] at h
    exact h
  refine ⟨_, _, .lst (SqL.of I1.st.1) (dp_sts I1.st.2), .lst (SqL.of hN) .nil, shp, nil_shaped, _, rfl, ?_⟩
  rw [eqv_nil]
  by_cases hne : ts = []
  · subst hne
    exact ifF (by decide) (ifF (by decide) (q a x y H1 ha1 hx hy hxy (hp1.mono (by omega)) I1))
  · have hb : (!(ts.map fun t => t.2.data).isEmpty) = true := by
      cases ts with
      | nil => exact absurd rfl hne
      | cons => rfl
    have lpos : 0 < ts.length := List.length_pos_iff.mpr hne
    obtain ⟨xs1, hx1, hx2⟩ := hp1
    refine ifT hb ⟨_, rfl, p, 5, n, xs1, rfl, hx1, hx2, by omega, by decide, by decide, fun r ys r0 r1 hy5 => ⟨rfl, _, rfl, ?_⟩⟩
    have I2 := I1.but (but_self (o := .lst ys)) pt0
    have hp2 : upd H1 p (.lst ys) p = some (.lst ys) := upd_same
    have nap : a ≠ p := fun e => by
      rw [e, hx1] at ha1
      cases ha1
    have ha2 : upd H1 p (.lst ys) a = some (.tup [.str x, .str y]) := by rw [upd_ne nap]; exact ha1
    generalize upd H1 p (.lst ys) = H2 at I2 hp2 ha2 ⊢
    refine ite2 (fun _ => ?_) (fun _ => q a x y H2 ha2 hx hy hxy ⟨ys, hp2, hy5.mono (by omega)⟩ I2)
    have nDp : D ≠ p := fun e => pt0 (by rw [← e]; exact I.fD)
    refine ⟨_, rfl, _, rfl, p, D, n + 1, ys, _, rfl, hp2, hy5, by omega, I2.st.1, Ne.symm nDp, by rw [List.length_map]; exact lpos, by rw [List.length_map, I.ln]; omega, fun j z ys2 ej hy2 => ?_⟩
    rw [List.getElem?_map] at ej
    cases e2 : ts[j]? with
    | none =>
      rw [e2] at ej
      cases ej
    | some t =>
      rw [e2] at ej
      cases ej
      have tm := List.mem_of_getElem? e2
      obtain ⟨ok, st, se, fr⟩ := I.ok t tm
      have I3 := I2.but (but_self (o := .lst ys2)) pt0
      have hp3 : upd H2 p (.lst ys2) p = some (.lst ys2) := upd_same
      generalize upd H2 p (.lst ys2) = H3 at I3 hp3 ⊢
      have ht3 := I3.st.2 t tm
      refine ⟨_, rfl, _, rfl, t.1, _, rfl, SqT.of ht3, ?_, fun b nb => ?_⟩
      · intro z
        exact absurd (show (1 : Nat) = 0 from z.1) (by decide)
      have ec : cutV t.2.vals (some 1) (some 3) = [V.str t.2.st, V.str t.2.en] := rfl
      rw [ec]
      have s4 := same_upd (o := HO.tup [V.str t.2.st, V.str t.2.en]) nb
      have eb : upd H3 b (.tup [V.str t.2.st, V.str t.2.en]) b = some (.tup [V.str t.2.st, V.str t.2.en]) := upd_same
      have I4 := I3.same s4
      have hp4 := s4 _ _ hp3
      generalize upd H3 b (.tup [V.str t.2.st, V.str t.2.en]) = H4 at s4 eb I4 hp4 ⊢
      refine ⟨_, rfl, p, 2, n + 1 + 1, ys2, rfl, hp4, hy2, by omega, by decide, by decide, fun r' ys3 r0' r1' hy3 => ⟨rfl, _, rfl, ?_⟩⟩
      have nbp : b ≠ p := fun e => by
        rw [e, hp4] at eb
        cases eb
      have I5 := I4.but (but_self (o := .lst ys3)) pt0
      have hp5 : upd H4 p (.lst ys3) p = some (.lst ys3) := upd_same
      have eb5 : upd H4 p (.lst ys3) b = some (.tup [V.str t.2.st, V.str t.2.en]) := by rw [upd_ne nbp]; exact eb
      generalize upd H4 p (.lst ys3) = H5 at I5 hp5 eb5 ⊢
      refine ite2 (fun _ => ⟨_, rfl, q b _ _ H5 eb5 st se ok.2.2.2.1 ⟨ys3, hp5, hy3.mono (by omega)⟩ I5⟩) (fun _ => ⟨_, rfl, b, _, _, rfl, SqT.of eb5, fun c nc => ?_⟩)
      have s6 := same_upd (o := HO.tup [V.str t.2.en, V.str t.2.st]) nc
      exact q c _ _ _ upd_same se st (Ne.symm ok.2.2.2.1) ⟨ys3, s6 _ _ hp5, hy3.mono (by omega)⟩ (I5.same s6)
end
end K4
end
section
set_option Elab.async false
set_option linter.all false
set_option maxRecDepth 100000
set_option maxHeartbeats 8000000
namespace K4
open PySem PySem.Spec PyProof.Rows L2
def spStreetsOf : Sp := fun vs H Q _ => ∃ (p lc ln lp : Addr) (cs ns : List Str) (ps : List Addr) (n m : Int), vs = [.ref p, .ref lc, .ref ln, .ref lp, .int m] ∧ StG H p lc ln lp cs ns ps ∧ Pu H p n ∧ n ≤ 500000 ∧ 0 ≤ m ∧ m ≤ (ns.length : Int) ∧ m ≤ 90 ∧
  ∀ (D : Addr) (ts : List (Addr × S5)) (H' : Hp), Pu H' p (n + 8 * m) → But p H H' → H D = none → Sts H' D ts → (∀ t ∈ ts, t.2.Ok ∧ t.2.st ∈ cs ∧ t.2.en ∈ cs ∧ H t.1 = none) → ts.map (fun t => t.2.nm) = ns.take ts.length → (ts.length : Int) ≤ m → (2 ≤ cs.length → (ts.length : Int) = m) → Q (.ref D) H'
section
variable {P : Program} {w : World} {K : PySem.W.Frag} {mg : Str → Option Value} {base : Heap} {f : Addr} {cdv : Value} {A : Around} {outer : List Env} {s : Shared} {Hl : Hp} {E : XK} {p lc ln lp : Addr} {cs ns : List Str} {ps : List Addr} {H0 : Hp} {m : Int}
def tTl (p lc ln lp : Addr) (cs ns : List Str) (H0 : Hp) (m : Int) : TS := fun E σ H => ∃ (D : Addr) (i : Nat) (n : Int), i < ns.length ∧ i < 100 ∧ tMid p lc ln lp D cs ns H0 n m i (tPutS p lc ln lp D cs ns H0 (n + 3) m i) E σ H
theorem tailS (B : StG H0 p lc ln lp cs ns ps) (G : DrawZ P w K mg base) (GO : OneZ P w K mg base) (GW : WidthZ P w K mg base) (GL : LengthZ P w K mg base) (T : Tx K mg) (hr : Room 4 (A.deeper (envOfC "_law_streets_of" (defScope sStreetsOf) s.heap.objs.size f cdv))) :
    PSs (TX P w K mg base f cdv A outer s Hl E) [suS 1, suS 2] (tTl p lc ln lp cs ns H0 m) :=
  ⟨fun pins s' σ H Z I ⟨D, i, n, h1, h2, h⟩ => (midS (i := i) (n := n) B h2 G GO T hr (putS B h1 (by omega) GW GL hr)).run pins s' σ H Z I h⟩
theorem ok_streetsOf {f : Addr} {fd : FuncData} (F : FnP K "_law_streets_of" sStreetsOf f fd) (G : DrawZ P w K mg base) (GO : OneZ P w K mg base) (GP : PairZ P w K mg base) (GW : WidthZ P w K mg base) (GL : LengthZ P w K mg base) (T : Tx K mg) :
    FnOk P w K mg base CX0 5 f fd ["_law_purse_here", "_law_crossings", "_law_names", "_law_pairs", "_law_many"] spStreetsOf := by
  refine F.ok scStreetsOf (fun vs H Q E h => ?_) (fun cdv A outer s H vs Q E hr h => ?_)
  · obtain ⟨_, _, _, _, _, _, _, _, _, rfl, _⟩ := h
    rfl
  · obtain ⟨p, lc, ln, lp, cs, ns, ps, n, m, rfl, B, hp, hn, m0, mn, m90, q⟩ := h
    have gL := T.fr "len" (by decide +kernel)
    have gR := T.fr "range" (by decide +kernel)
    refine ⟨_, PSs.nox (pss_cons (ps_set (i := 5) scStreetsOf.nd rfl (Or.inl rfl) (pe_lst pa_nil))
      (pss_cons (ps_for PassesOwn.never rfl (pi_range1 rfl gR (pa_cons (pv 4) pa_nil)) (pg_name (i := 6) scStreetsOf.nd rfl (Or.inl rfl))
        (pss_one (ps_if (pt_cmpR op_gt (pe_callB call_len_seq (by rfl) gL PySem.boot_len (pa_cons (pv 1) pa_nil)) pe_int (nomark _))
          (pss_cons (ps_set (i := 7) scStreetsOf.nd rfl (Or.inl rfl) (pe_ifExp (pt_cmpR op_lt (pv 6) (pe_callB call_len_seq (by rfl) gL PySem.boot_len (pa_cons (pv 3) pa_nil)) (nomark _)) (pe_ix ix_list (pv 3) (pv 6) (fun _ _ => rfl)) (pe_fz GP hr (by rfl) (pa_cons (pv 0) (pa_cons (pv 1) pa_nil)))))
            (tailS (m := m) B G GO GW GL T hr)) pss_nil)))
      (pss_one (ps_ret (pv 5))))), ?_⟩
    have sl := sizeLine_eq
    refine ⟨Nat.zero_le _, fun D nD => ?_⟩
    have pt0 : H p ≠ none := by
      obtain ⟨xs, h⟩ := B.pt
      rw [h]
      simp
    have nDp : D ≠ p := fun e => pt0 (by rw [← e]; exact nD)
    have I0 : StI H (upd H D (.lst [])) p D cs ns 0 [] := ⟨but_new nD, nD, ⟨upd_same, fun t h => by simp at h⟩, fun t h => by simp at h, rfl, rfl⟩
    have hp0 := hp.same (same_upd (o := .lst []) nD)
    generalize upd H D (.lst []) = H1 at I0 hp0 ⊢
    refine ⟨_, rfl, _, rfl, by omega, by omega, ?_⟩
    by_cases h2 : 2 ≤ cs.length
    · refine for_range (n := m.toNat) (fun i σ H' => (∃ o6 o7, σ = [some (.ref p), some (.ref lc), some (.ref ln), some (.ref lp), some (.int m), some (.ref D), o6, o7]) ∧ Pu H' p (n + 8 * (i : Nat)) ∧ ∃ ts, StI H H' p D cs ns i ts)
        ⟨⟨_, _, rfl⟩, hp0.mono (by omega), [], I0⟩ ?_ ?_
      · rintro i σ H' hi ⟨⟨o6, o7, rfl⟩, hp1, ts, I⟩
        have hlc : Ws H' lc cs := I.bu _ _ B.nc B.hc
        have hlp : H' lp = some (.lst (ps.map V.ref)) := I.bu _ _ B.np B.hp.1
        have fin : ∀ (a : Addr) (x y : Str) (H2 : Hp), H2 a = some (.tup [.str x, .str y]) → x ∈ cs → y ∈ cs → x ≠ y → Pu H2 p (n + 8 * (i : Nat) + 2) → StI H H2 p D cs ns i ts →
            tTl p lc ln lp cs ns H m { nx := fun σ H' => (∃ o6 o7, σ = [some (.ref p), some (.ref lc), some (.ref ln), some (.ref lp), some (.int m), some (.ref D), o6, o7]) ∧ Pu H' p (n + 8 * ((i + 1 : Nat) : Int)) ∧ ∃ ts, StI H H' p D cs ns (i + 1) ts, rt := fun v H' => Q v H' } (stσ p lc ln lp D m i (some (.ref a))) H2 := fun a x y H2 h1 h2 h3 h4 h5 h6 =>
          ⟨D, i, _, by omega, by omega, a, x, y, ts, rfl, h1, h2, h3, h4, h5, by omega, h6, fun a' x' y' H3 k1 k2 k3 k4 k5 k6 => ⟨a', x', y', ts, rfl, k1, k2, k3, k4, k5, by omega, k6, fun ts' H4 l1 l2 => ⟨⟨_, _, rfl⟩, l1.mono (by push_cast; omega), ts', l2⟩⟩⟩
        refine ⟨_, rfl, lc, _, rfl, Or.inl (SqL.of hlc), _, _, rfl, rfl, _, rfl, ifT (decide_eq_true (by rw [List.length_map]; omega)) ?_⟩
        refine ⟨_, rfl, _, rfl, lp, _, rfl, Or.inl (SqL.of hlp), _, _, rfl, rfl, _, rfl, ?_⟩
        refine ite2 (fun hc => ?_) (fun _ => ?_)
        · have lt : i < ps.length := by
            have z := of_decide_eq_true hc
            rw [List.length_map] at z
            omega
          have ei : (ps.map V.ref)[i]? = some (V.ref ps[i]) := by
            rw [List.getElem?_map, List.getElem?_eq_getElem lt]
            rfl
          obtain ⟨x, y, e, hx, hy, ne⟩ := B.hp.2 ps[i] (List.getElem_mem lt)
          have e' : H' ps[i] = some (.tup [.str x, .str y]) := I.bu _ _ (fun z => by
            obtain ⟨xs, h⟩ := B.pt
            rw [z, h] at e
            cases e) e
          exact ⟨_, rfl, _, rfl, lp, _, ((i : Nat) : Int), _, rfl, by rw [Int.zero_add], SqL.of hlp, atI_nat ei, fin _ x y H' e' hx hy ne (hp1.mono (by omega)) I⟩
        · exact ⟨_, rfl, _, rfl, p, lc, _, cs, rfl, hp1, by omega, hlc, B.nc, B.cd, h2, B.l1, fun t a b H2 ha hb ne hp2 b2 nt et => fin t a b H2 et ha hb ne hp2 (I.but b2 pt0)⟩
      · rintro σ H' ⟨⟨o6, o7, rfl⟩, hp1, ts, I⟩
        refine ⟨_, rfl, q D ts H' (hp1.mono (by omega)) I.bu nD I.st I.ok (by rw [I.ln]; exact I.nm) (by have := I.ln; omega) fun _ => by have := I.ln; omega⟩
    · refine for_range (n := m.toNat) (fun i σ H' => (∃ o6 o7, σ = [some (.ref p), some (.ref lc), some (.ref ln), some (.ref lp), some (.int m), some (.ref D), o6, o7]) ∧ H' = H1) ⟨⟨_, _, rfl⟩, rfl⟩ ?_ ?_
      · rintro i σ H' hi ⟨⟨o6, o7, rfl⟩, rfl⟩
        exact ⟨_, rfl, lc, _, rfl, Or.inl (SqL.of (I0.bu _ _ B.nc B.hc)), _, _, rfl, rfl, _, rfl, ifF (fun z => by have z := of_decide_eq_true z; rw [List.length_map] at z; omega) ⟨⟨_, _, rfl⟩, rfl⟩⟩
      · rintro σ H' ⟨⟨o6, o7, rfl⟩, rfl⟩
        exact ⟨_, rfl, q D [] H' (hp0.mono (by omega)) I0.bu nD I0.st I0.ok rfl (by simpa using m0) fun z => absurd z h2⟩
end
end K4
end
section
set_option Elab.async false
set_option linter.all false
set_option maxRecDepth 100000
set_option maxHeartbeats 8000000
namespace K4
open PySem PySem.Spec PyProof.Rows L2
theorem cut_take (xs : List V) (k : Nat) : cutV xs none (some (k : Int)) = xs.take k := by
  show (xs.drop (HT.sIx xs.length 0 none)).take (HT.sIx xs.length xs.length (some (k : Int)) - HT.sIx xs.length 0 none) = _
  rw [HT.sIx_none, HT.sIx_nat, List.drop_zero, Nat.sub_zero]
  rcases Nat.le_total k xs.length with h | h
  · rw [Nat.min_eq_left h]
  · rw [Nat.min_eq_right h, List.take_length, List.take_of_length_le h]
theorem cut_drop (xs : List V) (k : Nat) : cutV xs (some (k : Int)) none = xs.drop k := by
  show (xs.drop (HT.sIx xs.length 0 (some (k : Int)))).take (HT.sIx xs.length xs.length none - HT.sIx xs.length 0 (some (k : Int))) = _
  rw [HT.sIx_none, HT.sIx_nat]
  rcases Nat.le_total k xs.length with h | h
  · rw [Nat.min_eq_left h]
    exact List.take_of_length_le (by rw [List.length_drop]; omega)
  · rw [Nat.min_eq_right h, List.drop_length, List.drop_of_length_le h]
    simp
theorem perm_map_inv {α β : Type} {g : α → β} : ∀ {us vs : List β}, us.Perm vs → ∀ l : List α, vs = l.map g → ∃ l' : List α, l'.Perm l ∧ us = l'.map g := by
  intro us vs h
  induction h with
  | nil => exact fun l e => ⟨l, List.Perm.refl _, e⟩
  | cons x _ ih =>
    intro l e
    match l, e with
    | y :: r, e =>
      rw [List.map_cons] at e
      obtain ⟨e1, e2⟩ := List.cons.inj e
      obtain ⟨l', p, e3⟩ := ih r e2
      exact ⟨y :: l', p.cons y, by rw [List.map_cons, e1, e3]⟩
  | swap x y l0 =>
    intro l e
    match l, e with
    | a :: b :: r, e =>
      rw [List.map_cons, List.map_cons] at e
      obtain ⟨e1, e2⟩ := List.cons.inj e
      obtain ⟨e3, e4⟩ := List.cons.inj e2
      exact ⟨b :: a :: r, List.Perm.swap a b r, by rw [List.map_cons, List.map_cons, e1, e3, e4]⟩
  | trans _ _ ih1 ih2 =>
    intro l e
    obtain ⟨l1, p1, e1⟩ := ih2 l e
    obtain ⟨l2, p2, e2⟩ := ih1 l1 e1
    exact ⟨l2, p2.trans p1, e2⟩
/-- a world's parts: streets, gates, crossings, names -/
structure Wo (H : Hp) (ls lg lc ln : Addr) (ts : List (Addr × S5)) (gs cs ns : List Str) : Prop where
  s : Sts H ls ts
  g : Ws H lg gs
  c : Ws H lc cs
  n : Ws H ln ns
  ok : ∀ t ∈ ts, t.2.Ok ∧ t.2.st ∈ cs ∧ t.2.en ∈ cs ∧ t.2.nm ∈ ns
  nd : (ts.map fun t => t.2.nm).Nodup
  gp : ∃ k : Nat, 1 ≤ k ∧ k ≤ 5 ∧ k ≤ cs.length ∧ gs = cs.take k
  cd : cs.Nodup
  nn : ns.Nodup
  cw : ∀ x ∈ cs, Wd x
  nw : ∀ x ∈ ns, Wd x
  l1 : cs.length ≤ 9
  l2 : ns.length ≤ 14
  l3 : ts.length ≤ ns.length
/-- all these were not there in H -/
def NewIn (H : Hp) (ls lg lc ln : Addr) (ts : List (Addr × S5)) : Prop := H ls = none ∧ H lg = none ∧ H lc = none ∧ H ln = none ∧ ∀ t ∈ ts, H t.1 = none
def spWorld : Sp := fun vs H Q _ => ∃ (p : Addr) (g i m n : Int), vs = [.ref p, .int g, .int i, .int m] ∧ Pu H p n ∧ n ≤ 400000 ∧ 1 ≤ g ∧ g ≤ 5 ∧ 0 ≤ i ∧ g + i ≤ 9 ∧ 0 ≤ m ∧ m ≤ 14 ∧
  ∀ (W ls lg lc ln : Addr) (ts : List (Addr × S5)) (gs cs ns : List Str) (H' : Hp), Pu H' p (n + 1000) → But p H H' → H W = none → H' W = some (.lst [.ref ls, .ref lg, .ref lc, .ref ln]) → Wo H' ls lg lc ln ts gs cs ns → NewIn H ls lg lc ln ts →
    (gs.length : Int) = g → (cs.length : Int) = g + i → (ns.length : Int) = m → Q (.ref W) H'
abbrev NO : List Str := ["_law_purse_here", "_law_gates", "_law_inner", "_law_most", "_law_words_here", "_law_crossings", "_law_names", "_law_pairs", "_law_many", "_law_streets"]
theorem scWorld : FnScope NO ["_law_purse_here", "_law_gates", "_law_inner", "_law_most"] (defScope sWorld) := ⟨rfl, rfl, rfl, by decide +kernel, rfl, by decide +kernel, by decide +kernel⟩
section
variable {P : Program} {w : World} {K : PySem.W.Frag} {mg : Str → Option Value} {base : Heap}
theorem ok_world {f : Addr} {fd : FuncData} (F : FnP K "_law_world" sWorld f fd) (G : DrawZ P w K mg base) (GWs : Fz P w K mg base "_law_words" 4 ["_law_purse_here", "_law_many"] spWords) (GSh : Fz P w K mg base "_law_shuffled" 3 ["_law_purse_here", "_law_some"] spShuffled)
    (GS : Fz P w K mg base "_law_shape" 3 ["_law_purse_here", "_law_gates", "_law_inner"] spShape) (GSt : Fz P w K mg base "_law_streets_of" 5 ["_law_purse_here", "_law_crossings", "_law_names", "_law_pairs", "_law_many"] spStreetsOf) (T : Tx K mg) :
    FnOk P w K mg base CX0 6 f fd ["_law_purse_here", "_law_gates", "_law_inner", "_law_most"] spWorld := by
  refine F.ok scWorld (fun vs H Q E h => ?_) (fun cdv A outer s H vs Q E hr h => ?_)
  · obtain ⟨_, _, _, _, _, rfl, _⟩ := h
    rfl
  · obtain ⟨p, g, i, m, n, rfl, hp, hn, g1, g5, i0, gi9, m0, m14, q⟩ := h
    have gL := T.fr "len" (by decide +kernel)
    have gMa := T.fr "max" (by decide +kernel)
    have r4 : Room 4 (A.deeper (envOfC "_law_world" (defScope sWorld) s.heap.objs.size f cdv)) := hr.mono (by decide)
    have r3 : Room 3 (A.deeper (envOfC "_law_world" (defScope sWorld) s.heap.objs.size f cdv)) := hr.mono (by decide)
    have r2 : Room 2 (A.deeper (envOfC "_law_world" (defScope sWorld) s.heap.objs.size f cdv)) := hr.mono (by decide)
    refine ⟨_, PSs.nox (pss_cons (ps_set (i := 4) scWorld.nd rfl (Or.inl rfl) (pe_fz GWs r4 (by rfl) (pa_cons (pv 0) (pa_cons (pe_callB (call_max2 rfl) (by rfl) gMa (by decide +kernel) (pa_cons (pe_op op_add (pv 1) (pv 2)) (pa_cons (pe_op op_add (pv 3) pe_int) pa_nil))) pa_nil))))
      (pss_cons (ps_par (i := 5) (j := 6) rfl scWorld.nd rfl rfl (by decide) rfl rfl (pa_cons (pe_slice sl_list (pv 4) po_none (po_some (pe_op op_add (pv 1) (pv 2)))) (pa_cons (pe_slice sl_list (pe_fz GSh r3 (by rfl) (pa_cons (pv 0) (pa_cons (pv 4) pa_nil))) po_none (po_some (pv 3))) pa_nil)) (by rfl))
      (pss_cons (ps_set (i := 7) scWorld.nd rfl (Or.inl rfl) (pe_slice sl_list (pe_fz GS r3 (by rfl) (pa_cons (pv 0) (pa_cons (pe_slice sl_list (pv 5) po_none (po_some (pv 1))) (pa_cons (pe_slice sl_list (pv 5) (po_some (pv 1)) po_none) pa_nil)))) po_none (po_some (pv 3))))
      (pss_cons (ps_set (i := 8) scWorld.nd rfl (Or.inl rfl) (pe_callB (call_max2 rfl) (by rfl) gMa (by decide +kernel) (pa_cons (pe_callB call_len_seq (by rfl) gL PySem.boot_len (pa_cons (pv 7) pa_nil)) (pa_cons (pe_fz G r2 (by rfl) (pa_cons (pv 0) (pa_cons (pe_op op_add (pv 3) pe_int) pa_nil))) pa_nil))))
      (pss_cons (ps_set (i := 9) scWorld.nd rfl (Or.inl rfl) (pe_fz GSt hr (by rfl) (pa_cons (pv 0) (pa_cons (pv 5) (pa_cons (pv 6) (pa_cons (pv 7) (pa_cons (pv 8) pa_nil)))))))
      (pss_one (ps_ret (pe_lst (pa_cons (pe_fz GSh r3 (by rfl) (pa_cons (pv 0) (pa_cons (pv 9) pa_nil))) (pa_cons (pe_slice sl_list (pv 5) po_none (po_some (pv 1))) (pa_cons (pv 5) (pa_cons (pv 6) pa_nil)))))))))))), ?_⟩
    have sl := sizeLine_eq
    have fr : ∀ {b : Addr} {X Y : Hp}, But p X Y → Y b = none → (∃ xs, X p = some (.lst xs)) → (∃ xs, Y p = some (.lst xs)) → X b = none := fun {b X Y} bu e hx hy => bu.free e fun z => by
      obtain ⟨ys, hy⟩ := hy
      rw [z, hy] at e
      cases e
    have np : ∀ {b : Addr} {X : Hp} {k : Int}, Pu X p k → X b = none → b ≠ p := fun {b X k} h e z => by
      obtain ⟨ys, hy, _⟩ := h
      rw [z, hy] at e
      cases e
    obtain ⟨g, rfl⟩ := Int.eq_ofNat_of_zero_le (show 0 ≤ g by omega)
    obtain ⟨i, rfl⟩ := Int.eq_ofNat_of_zero_le i0
    obtain ⟨m, rfl⟩ := Int.eq_ofNat_of_zero_le m0
    refine ⟨_, rfl, _, rfl, _, rfl, _, _, rfl, rfl, _, rfl, _, _, rfl, rfl, _, _, rfl, p, _, n, rfl, hp, by omega, ?_⟩
    have hk : ∃ k : Int, (if ((m : Int) + 2) > ((g : Int) + i) then ((m : Int) + 2) else ((g : Int) + i)) = k ∧ (g : Int) + i ≤ k ∧ (m : Int) + 2 ≤ k ∧ k ≤ 16 := by
      refine ⟨_, rfl, ?_⟩
      split <;> omega
    obtain ⟨k, ek, k1, k2, k3⟩ := hk
    rw [ek]
    refine ⟨by omega, by omega, fun D ws H1 hl nd wd hp1 b1 fD hw => ?_⟩
    have egi : (g : Int) + i = ((g + i : Nat) : Int) := by omega
    -- crossings
    refine ⟨_, rfl, _, rfl, _, rfl, _, _, rfl, rfl, _, rfl, D, _, rfl, SqL.of hw, fun lc nlc => ?_⟩
    rw [egi, cut_take, ← List.map_take]
    have s2 := same_upd (o := HO.lst ((ws.take (g + i)).map V.str)) nlc
    have hc2 : Ws (upd H1 lc (.lst ((ws.take (g + i)).map V.str))) lc (ws.take (g + i)) := upd_same
    have hp2 := hp1.same s2
    have b2 : But p H (upd H1 lc (.lst ((ws.take (g + i)).map V.str))) := b1.trans fun b o _ e => s2 b o e
    have nDp := np hp fD
    have nlcp := np hp1 nlc
    have fc : H lc = none := b1.free nlc nlcp
    generalize upd H1 lc (.lst ((ws.take (g + i)).map V.str)) = H2 at s2 hc2 hp2 b2 ⊢
    have hw2 := s2 _ _ hw
    -- names
    refine ⟨_, rfl, _, rfl, p, D, _, _, rfl, hp2, by omega, hw2, nDp, by rw [List.length_map]; omega, fun S us H3 pu hp3 b3 fS hS => ?_⟩
    obtain ⟨vs, pv, rfl⟩ := perm_map_inv pu ws rfl
    refine ⟨_, rfl, _, rfl, S, _, rfl, SqL.of hS, fun ln nln => ⟨_, _, rfl, ?_⟩⟩
    rw [cut_take, ← List.map_take]
    have s4 := same_upd (o := HO.lst ((vs.take m).map V.str)) nln
    have hn4 : Ws (upd H3 ln (.lst ((vs.take m).map V.str))) ln (vs.take m) := upd_same
    have hc4 := s4 _ _ (b3 _ _ nlcp hc2)
    have hp4 := hp3.same s4
    have b4 : But p H (upd H3 ln (.lst ((vs.take m).map V.str))) := (b2.trans b3).trans fun b o _ e => s4 b o e
    have nlnp := np hp3 nln
    have fn : H ln = none := (b2.trans b3).free nln nlnp
    generalize upd H3 ln (.lst ((vs.take m).map V.str)) = H4 at s4 hn4 hc4 hp4 b4 ⊢
    have hvl := pv.length_eq
    rw [List.length_map] at hp4
    have cl : (ws.take (g + i)).length = g + i := by rw [List.length_take]; omega
    have nl : (vs.take m).length = m := by rw [List.length_take]; omega
    have cd : (ws.take (g + i)).Nodup := (List.take_sublist _ _).nodup nd
    have nn : (vs.take m).Nodup := (List.take_sublist _ _).nodup (pv.nodup_iff.mpr nd)
    have cw : ∀ x ∈ ws.take (g + i), Wd x := fun x hx => wd x (List.mem_of_mem_take hx)
    have nw : ∀ x ∈ vs.take m, Wd x := fun x hx => wd x (pv.mem_iff.mp (List.mem_of_mem_take hx))
    generalize ws.take (g + i) = cs at hc2 hc4 cl cd cw
    generalize vs.take m = ns at hn4 nl nn nw
    -- the pairs
    refine ⟨_, rfl, _, rfl, _, rfl, _, rfl, lc, _, rfl, SqL.of hc4, fun lg nlg => ?_⟩
    rw [cut_take, ← List.map_take]
    have s5 := same_upd (o := HO.lst ((cs.take g).map V.str)) nlg
    have hg5 : Ws (upd H4 lg (.lst ((cs.take g).map V.str))) lg (cs.take g) := upd_same
    have hp5 := hp4.same s5
    have nlgp := np hp4 nlg
    have b5 := b4.trans (Same.but (p := p) s5)
    generalize upd H4 lg (.lst ((cs.take g).map V.str)) = H5 at s5 hg5 hp5 b5 ⊢
    refine ⟨_, rfl, _, rfl, _, rfl, lc, _, rfl, SqL.of (s5 _ _ hc4), fun li nli => ?_⟩
    rw [cut_drop, ← List.map_drop]
    have s6 := same_upd (o := HO.lst ((cs.drop g).map V.str)) nli
    have hi6 : Ws (upd H5 li (.lst ((cs.drop g).map V.str))) li (cs.drop g) := upd_same
    have hp6 := hp5.same s6
    have nlip := np hp5 nli
    have b6 := b5.trans (Same.but (p := p) s6)
    generalize upd H5 li (.lst ((cs.drop g).map V.str)) = H6 at s6 hi6 hp6 b6 ⊢
    have etd : cs.take g ++ cs.drop g = cs := List.take_append_drop g cs
    refine ⟨p, lg, li, cs.take g, cs.drop g, _, rfl, ⟨s6 _ _ hg5, hi6, nlgp, ?_, nlip, by rw [etd]; exact cd, by rw [etd]; exact cw, by rw [List.length_take]; omega, by rw [List.length_take]; omega, by rw [List.length_drop]; omega⟩, hp6, by omega, fun L ps H7 hp7 b67 fL hP hpl => ?_⟩
    · obtain ⟨xs, h, _⟩ := hp6
      exact ⟨xs, h⟩
    rw [etd] at hP
    have b7 := b6.trans b67
    have hc7 : Ws H7 lc cs := b67 _ _ nlcp (s6 _ _ (s5 _ _ hc4))
    have hn7 : Ws H7 ln ns := b67 _ _ nlnp (s6 _ _ (s5 _ _ hn4))
    refine ⟨_, rfl, _, rfl, L, _, rfl, SqL.of hP.1, fun lp nlp => ?_⟩
    rw [cut_take, ← List.map_take]
    have s8 := same_upd (o := HO.lst ((ps.take m).map V.ref)) nlp
    have hl8 : upd H7 lp (.lst ((ps.take m).map V.ref)) lp = some (.lst ((ps.take m).map V.ref)) := upd_same
    have hP8 : Prs (upd H7 lp (.lst ((ps.take m).map V.ref))) lp cs (ps.take m) := ⟨hl8, fun a ha => (hP.2 a (List.mem_of_mem_take ha)).keep s8⟩
    have hp8 := hp7.same s8
    have nlpp := np hp7 nlp
    have b8 := b7.trans (Same.but (p := p) s8)
    have hc8 := s8 _ _ hc7
    have hn8 := s8 _ _ hn7
    have pl : (ps.take m).length ≤ m := by rw [List.length_take]; omega
    generalize upd H7 lp (.lst ((ps.take m).map V.ref)) = H8 at s8 hl8 hP8 hp8 b8 hc8 hn8 ⊢
    generalize ps.take m = qs at hl8 hP8 pl ⊢
    obtain ⟨xs8, hx8, hu8⟩ := hp8
    refine ⟨_, rfl, lp, _, rfl, Or.inl (SqL.of hl8), _, rfl, _, rfl, _, _, rfl, rfl, p, _, _, xs8, rfl, hx8, hu8, by omega, by omega, by omega, fun r ys r0 r1 hy => ⟨_, _, rfl, ?_⟩⟩
    have b9 := b8.trans (but_self (p := p) (H := H8) (o := .lst ys))
    have hx9 : upd H8 p (.lst ys) p = some (.lst ys) := upd_same
    have hc9 : Ws (upd H8 p (.lst ys)) lc cs := by
      show upd H8 p (.lst ys) lc = _
      rw [upd_ne nlcp]
      exact hc8
    have hn9 : Ws (upd H8 p (.lst ys)) ln ns := by
      show upd H8 p (.lst ys) ln = _
      rw [upd_ne nlnp]
      exact hn8
    have hP9 : Prs (upd H8 p (.lst ys)) lp cs qs := ⟨by rw [upd_ne nlpp]; exact hl8, fun a ha => by
      obtain ⟨x, y, e, rr⟩ := hP8.2 a ha
      exact ⟨x, y, by rw [upd_ne (fun z => by rw [z, hx8] at e; cases e)]; exact e, rr⟩⟩
    generalize upd H8 p (.lst ys) = H9 at b9 hx9 hc9 hn9 hP9 ⊢
    have hk2 : ∃ k2 : Int, (if r > (((qs.map V.ref).length : Nat) : Int) then r else (((qs.map V.ref).length : Nat) : Int)) = k2 ∧ 0 ≤ k2 ∧ k2 ≤ m := by
      refine ⟨_, rfl, ?_⟩
      rw [List.length_map]
      split <;> omega
    obtain ⟨k2, ek2, k20, k2m⟩ := hk2
    rw [ek2]
    refine ⟨_, rfl, _, rfl, _, rfl, _, rfl, _, rfl, p, lc, ln, lp, cs, ns, qs, _, k2, rfl, ⟨hc9, hn9, hP9, nlcp, nlnp, nlpp, ⟨_, hx9⟩, cd, cw, nw, by omega, by omega⟩, ⟨ys, hx9, hy⟩, by omega, k20, by omega, by omega, fun T0 ts H10 hp10 b910 fT hT okT nmT lT _ => ?_⟩
    have b10 := b9.trans b910
    have hc10 : Ws H10 lc cs := b910 _ _ nlcp hc9
    have hn10 : Ws H10 ln ns := b910 _ _ nlnp hn9
    have p9 : ∀ {b : Addr}, H9 b = none → b ≠ p := fun {b} e z => by
      rw [z, hx9] at e
      cases e
    refine ⟨_, rfl, _, rfl, p, T0, _, _, rfl, hp10, by omega, hT.1, p9 fT, by rw [List.length_map]; omega, fun ls us2 H11 pu2 hp11 b11 fl hls => ?_⟩
    obtain ⟨ts2, pt2, rfl⟩ := perm_map_inv pu2 ts rfl
    have hc11 : Ws H11 lc cs := b11 _ _ nlcp hc10
    have hn11 : Ws H11 ln ns := b11 _ _ nlnp hn10
    have b011 := b10.trans b11
    rw [List.length_map] at hp11
    have nlsp := np hp10 fl
    refine ⟨_, rfl, _, rfl, _, rfl, lc, _, rfl, SqL.of hc11, fun lg2 nlg2 => ?_⟩
    rw [cut_take, ← List.map_take]
    have s12 := same_upd (o := HO.lst ((cs.take g).map V.str)) nlg2
    have hg12 : Ws (upd H11 lg2 (.lst ((cs.take g).map V.str))) lg2 (cs.take g) := upd_same
    have hp12 := hp11.same s12
    have nlg2p := np hp11 nlg2
    have b12 := b011.trans (Same.but (p := p) s12)
    have fl0 : H ls = none := b10.free fl nlsp
    have flg0 : H lg2 = none := b011.free nlg2 nlg2p
    generalize upd H11 lg2 (.lst ((cs.take g).map V.str)) = H12 at s12 hg12 hp12 b12 ⊢
    refine ⟨_, rfl, _, rfl, (by show 4 ≤ sizeLine; decide +kernel), fun W nW => ?_⟩
    have s13 := same_upd (o := HO.lst [V.ref ls, V.ref lg2, V.ref lc, V.ref ln]) nW
    have nWp := np hp12 nW
    have okN : ∀ t ∈ ts2, H9 t.1 = none := fun t ht => (okT t (pt2.mem_iff.mp ht)).2.2.2
    refine q W ls lg2 lc ln ts2 (cs.take g) cs ns _ ((hp12.same s13).mono (by omega)) (b12.trans (Same.but (p := p) s13)) (b12.free nW nWp) upd_same ⟨⟨s13 _ _ (s12 _ _ hls), fun t ht => s13 _ _ (s12 _ _ (b11 _ _ (p9 (okN t ht)) (hT.2 t (pt2.mem_iff.mp ht))))⟩, s13 _ _ hg12, s13 _ _ (s12 _ _ hc11), s13 _ _ (s12 _ _ hn11), fun t ht => ?_, ?_, ⟨g, by omega, by omega, by omega, rfl⟩, cd, nn, cw, nw, by omega, by omega, by have := pt2.length_eq; omega⟩
      ⟨fl0, flg0, fc, fn, fun t ht => b9.free (okN t ht) (p9 (okN t ht))⟩ (by rw [List.length_take]; omega) (by omega) (by omega)
    · obtain ⟨h1, h2, h3, _⟩ := okT t (pt2.mem_iff.mp ht)
      refine ⟨h1, h2, h3, ?_⟩
      have : t.2.nm ∈ ts.map fun t => t.2.nm := List.mem_map.mpr ⟨t, pt2.mem_iff.mp ht, rfl⟩
      rw [nmT] at this
      exact List.mem_of_mem_take this
    · have h1 : (ts.map fun t => t.2.nm).Nodup := by
        rw [nmT]
        exact (List.take_sublist _ _).nodup nn
      exact ((pt2.map fun t => t.2.nm).nodup_iff).mpr h1
end
end K4
end
section
set_option Elab.async false
set_option linter.all false
set_option maxRecDepth 100000
set_option maxHeartbeats 8000000
namespace K4
open PySem PySem.Spec PyProof.Rows L2
theorem one_lt {a b : Nat} (h : b ≤ a) : (!decide ((one a).cps.toList < (one b).cps.toList)) = true := by
  have : ¬ (one a).cps.toList < (one b).cps.toList := by
    show ¬ [a] < [b]
    rw [List.cons_lt_cons_iff]
    rintro (h1 | ⟨_, h2⟩)
    · omega
    · exact List.not_lt_nil _ h2
  rw [decide_eq_false this]
  rfl
theorem kfl {K : PySem.W.Frag} {a b : String} (h : kitB a b = some false) : PySem.W.kitOne K (.type a) (.type b) = some false := kit_ty h
theorem ktr {K : PySem.W.Frag} {a b : String} (h : kitB a b = some true) : PySem.W.kitOne K (.type a) (.type b) = some true := kit_ty h
section
variable {P : Program} {w : World} {K : PySem.W.Frag} {mg : Str → Option Value} {base : Heap}
/-! ### is_whole, is_count, of counts -/
def spIsWhole : Sp := fun vs H Q _ => ∃ i : Int, vs = [.int i] ∧ Q (.bl true) H
theorem scIsWhole : FnScope ["value"] ["value"] (defScope sWhole) := ⟨rfl, rfl, rfl, by decide +kernel, rfl, by decide +kernel, by decide +kernel⟩
theorem ok_isWhole {f : Addr} {fd : FuncData} (F : FnP K "is_whole" sWhole f fd) (T : Tx K mg) : FnOk P w K mg base CX0 1 f fd ["value"] spIsWhole := by
  refine F.ok scIsWhole (fun vs H Q E h => ?_) (fun cdv A outer s H vs Q E hr h => ?_)
  · obtain ⟨_, rfl, _⟩ := h
    rfl
  · obtain ⟨i, rfl, q⟩ := h
    have gIs := T.fr "isinstance" (by decide +kernel)
    have gI := T.fr "int" (by decide +kernel)
    have gB := T.fr "bool" (by decide +kernel)
    refine ⟨_, PSs.nox (pss_one (ps_ret (pe_and (pe_callB call_isi (by rfl) gIs (by decide +kernel) (pa_cons (pv 0) (pa_cons (pe_bltn (v := .ty "int") (by rfl) gI (by decide +kernel) rfl) pa_nil)))
      (pe_one (pe_not (pe_callB call_isi (by rfl) gIs (by decide +kernel) (pa_cons (pv 0) (pa_cons (pe_bltn (v := .ty "bool") (by rfl) gB (by decide +kernel) rfl) pa_nil)))))))), ?_⟩
    refine ⟨_, rfl, _, _, _, _, _, rfl, .ty _, .base (.int i), ktr (by decide +kernel), _, rfl, ifT rfl ?_⟩
    exact ⟨_, rfl, _, _, _, _, _, rfl, .ty _, .base (.int i), kfl (by decide +kernel), _, rfl, q⟩
def spIsCount : Sp := fun vs H Q _ => ∃ i : Int, vs = [.int i] ∧ 0 ≤ i ∧ Q (.bl true) H
theorem scIsCount : FnScope ["value"] ["value"] (defScope sCount) := ⟨rfl, rfl, rfl, by decide +kernel, rfl, by decide +kernel, by decide +kernel⟩
theorem ok_isCount {f : Addr} {fd : FuncData} (F : FnP K "is_count" sCount f fd) (GW : Fz P w K mg base "is_whole" 1 ["value"] spIsWhole) (T : Tx K mg) : FnOk P w K mg base CX0 2 f fd ["value"] spIsCount := by
  refine F.ok scIsCount (fun vs H Q E h => ?_) (fun cdv A outer s H vs Q E hr h => ?_)
  · obtain ⟨_, rfl, _⟩ := h
    rfl
  · obtain ⟨i, rfl, h0, q⟩ := h
    refine ⟨_, PSs.nox (pss_one (ps_ret (pe_and (pe_fz GW hr (by rfl) (pa_cons (pv 0) pa_nil)) (pe_one (pe_cmpR op_ge (pv 0) pe_int (nomark _)))))), ?_⟩
    refine ⟨_, rfl, i, rfl, _, rfl, ifT rfl ?_⟩
    refine ⟨_, rfl, _, _, rfl, rfl, ?_⟩
    show Q (.bl (decide ((0 : Int) ≤ i))) H
    rw [decide_eq_true h0]
    exact q
/-! ### is_word, of words -/
def spIsWord : Sp := fun vs H Q _ => ∃ z : Str, vs = [.str z] ∧ Wd z ∧ ∀ H', Same H H' → Q (.bl true) H'
theorem scIsWord : FnScope ["value", "letter"] ["value"] (defScope sIsWord) := ⟨rfl, rfl, rfl, by decide +kernel, rfl, by decide +kernel, by decide +kernel⟩
theorem ok_isWord {f : Addr} {fd : FuncData} (F : FnP K "is_word" sIsWord f fd) (T : Tx K mg) : FnOk P w K mg base CX0 1 f fd ["value"] spIsWord := by
  refine F.ok scIsWord (fun vs H Q E h => ?_) (fun cdv A outer s H vs Q E hr h => ?_)
  · obtain ⟨_, rfl, _⟩ := h
    rfl
  · obtain ⟨z, rfl, hz, q⟩ := h
    have gIs := T.fr "isinstance" (by decide +kernel)
    have gS := T.fr "str" (by decide +kernel)
    have gL := T.fr "len" (by decide +kernel)
    have gA := T.fr "all" (by decide +kernel)
    have lz := str_length z
    have h1 := hz.1
    have h8 := hz.2.1
    have sl := sizeLine_eq
    refine ⟨_, PSs.nox (pss_cons (ps_if (PW.pt (pw_or (pt_not (pt_val (pe_callB call_isi (by rfl) gIs (by decide +kernel) (pa_cons (pv 0) (pa_cons (pe_bltn (v := .ty "str") (by rfl) gS (by decide +kernel) rfl) pa_nil)))))
        (pw_or1 (pt_not (pt_chain op_le op_le pe_int (pe_callB call_len_str (by rfl) gL PySem.boot_len (pa_cons (pv 0) pa_nil)) pe_int))))) (pss_one (ps_ret pe_bl)) pss_nil)
      (pss_one (ps_ret (pe_callB (cr_all rfl) (by rfl) gA (by decide +kernel) (pa_cons (pe_lc (own := [("letter", 1)]) (g := gName 1) (tt := tYes) rfl scIsWord.nd (pi_str (pv 0)) (blkOk_by (own := [("letter", 1)]) (N := ["value", "letter"]) (sc := defScope sIsWord) (by decide +kernel))
        (fun _ _ _ _ _ => pg_name (i := 1) scIsWord.nd rfl (Or.inl rfl)) (fun _ _ _ _ _ => pts_nil) (fun _ _ _ _ _ => pe_chain op_le_str op_le_str pe_str (pv 1) pe_str)) pa_nil))))), ?_⟩
    refine ⟨_, rfl, _, _, _, _, _, rfl, .ty _, .base (.str z), ktr (by decide +kernel), _, rfl, ifF (by decide) ?_⟩
    refine ⟨_, rfl, z, rfl, by omega, _, _, rfl, rfl, _, rfl, ifT (decide_eq_true (by omega)) ⟨_, _, rfl, rfl, _, rfl, ?_⟩⟩
    rw [decide_eq_true (show (z.length : Int) ≤ 8 by omega)]
    refine ifF (by decide) ?_
    refine ⟨_, rfl, z, rfl, fun D nD => ?_⟩
    refine lc_it walk_str (fun j H' => Same H H' ∧ H' D = some (.lst ((List.replicate j true).map V.bl))) ⟨same_upd nD, upd_same⟩ (fun _ _ _ _ => trivial) ?_ ?_
    · rintro j x H1 H2 hj ⟨s1, hD⟩ ⟨rfl, c, hc, rfl⟩
      have mc : c ∈ z.cps.toList := by
        rw [← Array.getElem?_toList] at hc
        exact List.mem_of_getElem? hc
      have bc := hz.2.2 c mc
      refine ⟨rfl, _, rfl, _, _, rfl, rfl, _, rfl, ifT ?_ ⟨_, _, rfl, rfl, _, hD, ?_, ?_⟩⟩
      · exact one_lt (b := 97) bc.1
      · rw [List.length_map, List.length_replicate]
        have : z.cps.size = z.cps.toList.length := by simp
        omega
      · have e : (!decide (("z" : Str).cps.toList < (one c).cps.toList)) = true := one_lt (a := 122) bc.2
        have e2 : (V.bl (!decide (("z" : Str).cps.toList < (one c).cps.toList))) = V.bl true := by rw [e]
        refine ⟨fun b o eb => ?_, ?_⟩
        · rw [upd_ne (ne_of_none eb nD)]
          exact s1 _ _ eb
        · rw [upd_same, List.replicate_succ', List.map_append]
          exact congrArg (fun v => some (HO.lst ((List.replicate j true).map V.bl ++ [v]))) e2
    · rintro H' ⟨s1, hD⟩
      refine ⟨D, List.replicate z.cps.size true, rfl, SqL.of hD, ?_⟩
      have e : (List.replicate z.cps.size true).all id = true := by simp
      rw [e]
      exact q H' s1
end
end K4
end
section
set_option Elab.async false
set_option linter.all false
set_option maxRecDepth 100000
set_option maxHeartbeats 8000000
namespace K4
open PySem PySem.Spec PyProof.Rows L2
section
variable {P : Program} {w : World} {K : PySem.W.Frag} {mg : Str → Option Value} {base : Heap}
def spIsStreet : Sp := fun vs H Q _ => ∃ (t : Addr) (s : S5), vs = [.ref t] ∧ H t = some (.tup s.vals) ∧ s.Ok ∧ ∀ H', Same H H' → Q (.bl true) H'
abbrev NE : List Str := ["value", "name", "start", "end", "width", "length"]
theorem scIsStreet : FnScope NE ["value"] (defScope sIsStreet) := ⟨rfl, rfl, rfl, by decide +kernel, rfl, by decide +kernel, by decide +kernel⟩
theorem ok_isStreet {f : Addr} {fd : FuncData} (F : FnP K "is_street" sIsStreet f fd) (GC : Fz P w K mg base "is_count" 2 ["value"] spIsCount) (GW : Fz P w K mg base "is_word" 1 ["value"] spIsWord) (T : Tx K mg) : FnOk P w K mg base CX0 3 f fd ["value"] spIsStreet := by
  refine F.ok scIsStreet (fun vs H Q E h => ?_) (fun cdv A outer s H vs Q E hr h => ?_)
  · obtain ⟨_, _, rfl, _⟩ := h
    rfl
  · obtain ⟨t, z, rfl, ht, ⟨o1, o2, o3, o4, o5, o6, o7, o8⟩, q⟩ := h
    have gIs := T.fr "isinstance" (by decide +kernel)
    have gTu := T.fr "tuple" (by decide +kernel)
    have gL := T.fr "len" (by decide +kernel)
    refine ⟨_, PSs.nox (pss_cons (ps_if (PW.pt (pw_or (pt_not (pt_val (pe_callB call_isi (by rfl) gIs (by decide +kernel) (pa_cons (pv 0) (pa_cons (pe_bltn (v := .ty "tuple") (by rfl) gTu (by decide +kernel) rfl) pa_nil)))))
        (pw_or1 (pt_cmpR op_ne (pe_callB call_len_seq (by rfl) gL PySem.boot_len (pa_cons (pv 0) pa_nil)) pe_int (nomark _))))) (pss_one (ps_ret pe_bl)) pss_nil)
      (pss_cons (ps_asg (pv 0) (pg_tup rfl (pgs_cons (pg_name (i := 1) scIsStreet.nd rfl (Or.inl rfl)) (pgs_cons (pg_name (i := 2) scIsStreet.nd rfl (Or.inl rfl)) (pgs_cons (pg_name (i := 3) scIsStreet.nd rfl (Or.inl rfl)) (pgs_cons (pg_name (i := 4) scIsStreet.nd rfl (Or.inl rfl)) (pgs_cons (pg_name (i := 5) scIsStreet.nd rfl (Or.inl rfl)) pgs_nil)))))))
      (pss_cons (ps_if (pt_not (PW.pt (pw_and (pt_val (pe_fz GW (hr.mono (by decide)) (by rfl) (pa_cons (pv 1) pa_nil))) (pw_and (pt_val (pe_fz GW (hr.mono (by decide)) (by rfl) (pa_cons (pv 2) pa_nil))) (pw_and1 (pt_val (pe_fz GW (hr.mono (by decide)) (by rfl) (pa_cons (pv 3) pa_nil)))))))) (pss_one (ps_ret pe_bl)) pss_nil)
      (pss_one (ps_ret (pe_and (pe_cmpR op_ne (pv 2) (pv 3) (nomark _)) (pe_and (pe_fz GC hr (by rfl) (pa_cons (pv 4) pa_nil)) (pe_one (pe_fz GC hr (by rfl) (pa_cons (pv 5) pa_nil)))))))))), ?_⟩
    refine ⟨_, rfl, _, _, _, _, _, rfl, .ty _, .base (.tup ht), ktr (by decide +kernel), _, rfl, ifF (by decide) ?_⟩
    refine ⟨_, rfl, t, _, rfl, Or.inr (SqT.of ht), rfl, _, rfl, ifF ?_ ?_⟩
    · show ¬ (!decide (V.int 5 = V.int 5)) = true
      decide
    refine ⟨_, rfl, t, _, rfl, SqT.of ht, rfl, _, _, rfl, _, _, rfl, _, _, rfl, _, _, rfl, _, _, rfl, rfl, ?_⟩
    refine ⟨_, rfl, z.nm, rfl, o1, fun H1 s1 => ⟨_, rfl, ifT rfl ⟨_, rfl, z.st, rfl, o2, fun H2 s2 => ⟨_, rfl, ifT rfl ⟨_, rfl, z.en, rfl, o3, fun H3 s3 => ⟨_, rfl, ifF (by decide) ?_⟩⟩⟩⟩⟩⟩
    exact ⟨_, rfl, _, rfl, rfl, _, rfl, ifT (by simpa using o4) ⟨_, rfl, z.wd, rfl, o5, _, rfl, ifT rfl ⟨_, rfl, z.ln, rfl, o7, q H3 (same_trans s1 (same_trans s2 s3))⟩⟩⟩
end
end K4
end
section
set_option Elab.async false
set_option linter.all false
set_option maxRecDepth 100000
set_option maxHeartbeats 8000000
namespace K4
open PySem PySem.Spec PyProof.Rows L2
section
variable {P : Program} {w : World} {K : PySem.W.Frag} {mg : Str → Option Value} {base : Heap}
/-- a list of streets with unlike names is let -/
def spChkStreets (K : PySem.W.Frag) : Sp := fun vs H Q _ => ∃ (l : Addr) (ts : List (Addr × S5)), vs = [.ref l] ∧ Sts H l ts ∧ (∀ t ∈ ts, t.2.Ok) ∧ (ts.map fun t => t.2.nm).Nodup ∧ ts.length ≤ 100 ∧ ∀ H', Same H H' → Q .non H'
/-- are_streets -/
def spAreStreets (K : PySem.W.Frag) : Sp := fun vs H Q _ => ∃ (l : Addr) (ts : List (Addr × S5)), vs = [.ref l] ∧ Sts H l ts ∧ (∀ t ∈ ts, t.2.Ok) ∧ (ts.map fun t => t.2.nm).Nodup ∧ ts.length ≤ 100 ∧ ∀ H', Same H H' → Q (.bl true) H'
abbrev NC : List Str := ["value", "street"]
theorem scAreStreets : FnScope NC ["value"] (defScope sAreStreets) := ⟨rfl, rfl, rfl, by decide +kernel, rfl, by decide +kernel, by decide +kernel⟩
theorem ok_areStreets {f : Addr} {fd : FuncData} (F : FnP K "are_streets" sAreStreets f fd) (GS : Fz P w K mg base "is_street" 3 ["value"] spIsStreet) (T : Tx K mg) : FnOk P w K mg base CX0 4 f fd ["value"] (spAreStreets K) := by
  refine F.ok scAreStreets (fun vs H Q E h => ?_) (fun cdv A outer s H vs Q E hr h => ?_)
  · obtain ⟨_, _, rfl, _⟩ := h
    rfl
  · obtain ⟨l, ts, rfl, hl, ok, nd, h100, q⟩ := h
    have gIs := T.fr "isinstance" (by decide +kernel)
    have gLi := T.fr "list" (by decide +kernel)
    have gL := T.fr "len" (by decide +kernel)
    have gA := T.fr "all" (by decide +kernel)
    have sl := sizeLine_eq
    refine ⟨_, PSs.nox (pss_cons (ps_if (PW.pt (pw_or (pt_not (pt_val (pe_callB call_isi (by rfl) gIs (by decide +kernel) (pa_cons (pv 0) (pa_cons (pe_bltn (v := .ty "list") (by rfl) gLi (by decide +kernel) rfl) pa_nil)))))
        (pw_or1 (pt_not (pt_val (pe_callB (cr_all rfl) (by rfl) gA (by decide +kernel) (pa_cons (pe_lc (own := [("street", 1)]) (g := gName 1) (tt := tYes) rfl scAreStreets.nd (pi_list (pv 0)) (blkOk_by (own := [("street", 1)]) (N := NC) (sc := defScope sAreStreets) (by decide +kernel))
          (fun _ _ _ _ _ => pg_name (i := 1) scAreStreets.nd rfl (Or.inl rfl)) (fun _ _ _ _ _ => pts_nil) (fun _ _ _ _ _ => pe_fz GS hr (by rfl) (pa_cons (pv 1) pa_nil))) pa_nil))))))) (pss_one (ps_ret pe_bl)) pss_nil)
      (pss_one (ps_ret (pe_cmpR op_eq (pe_callB cr_lenX (by rfl) gL PySem.boot_len (pa_cons
          (pe_scX (own := [("street", 1)]) (g := gName 1) (tt := tYes) (te := tOp (rIxT K) (tVar 1) (tC (.int 0))) rfl scAreStreets.nd (pi_list (pv 0)) (blkOk_by (own := [("street", 1)]) (N := NC) (sc := defScope sAreStreets) (by decide +kernel))
            (fun _ _ _ _ _ => pg_name (i := 1) scAreStreets.nd rfl (Or.inl rfl)) (fun _ _ _ _ _ => pts_nil) (fun _ _ _ _ _ => pe_ix ix_tup (pv 1) pe_int (fun _ _ => rfl))) pa_nil)) (pe_callB call_len_seq (by rfl) gL PySem.boot_len (pa_cons (pv 0) pa_nil)) (nomark _))))), ?_⟩
    refine ⟨_, rfl, _, _, _, _, _, rfl, .ty _, .base (.lst hl.1), ktr (by decide +kernel), _, rfl, ifF (by decide) ?_⟩
    refine ⟨_, rfl, l, rfl, ⟨_, SqL.of hl.1⟩, fun D nD => ?_⟩
    refine lc_list (K := K) (a := l) (xs := ts.map fun t => V.ref t.1) (fun j H' => Same H H' ∧ H' D = some (.lst ((List.replicate j true).map V.bl))) ⟨same_upd nD, upd_same⟩ (fun j H' _ h => SqL.of (h.1 _ _ hl.1)) ?_ ?_
    · rintro j x H' hj ⟨s1, hD⟩
      rw [List.getElem?_map] at hj
      cases e : ts[j]? with
      | none =>
        rw [e] at hj
        cases hj
      | some t =>
        rw [e] at hj
        cases hj
        have tm := List.mem_of_getElem? e
        have lt := (List.getElem?_eq_some_iff.mp e).1
        refine ⟨rfl, _, rfl, t.1, t.2, rfl, s1 _ _ (hl.2 t tm), ok t tm, fun H2 s2 => ⟨_, s2 _ _ hD, by rw [List.length_map, List.length_replicate]; omega, fun b o eb => ?_, ?_⟩⟩
        · rw [upd_ne (ne_of_none eb nD)]
          exact s2 _ _ (s1 _ _ eb)
        · rw [upd_same, List.replicate_succ', List.map_append]
          rfl
    · rintro H1 ⟨s1, hD⟩
      refine ⟨D, List.replicate _ true, rfl, SqL.of hD, ?_⟩
      have e : (List.replicate (ts.map fun t => V.ref t.1).length true).all id = true := by simp
      rw [e]
      refine ⟨_, rfl, ifF (by decide) ?_⟩
      have hl1 := sts_keep hl s1
      refine ⟨_, rfl, l, rfl, ⟨_, SqL.of hl1.1⟩, fun S nS => ?_⟩
      refine scX_list (K := K) (a := l) (xs := ts.map fun t => V.ref t.1) (fun j H' => Same H1 H' ∧ H' S = some (SetX w S (((ts.map fun t => t.2.nm).take j).foldl TxSet.addL []))) ⟨same_upd nS, upd_same⟩ (fun j H' _ h => SqL.of (h.1 _ _ hl1.1)) ?_ ?_
      · rintro j x H' hj ⟨s2, hS⟩
        rw [List.getElem?_map] at hj
        cases e : ts[j]? with
        | none =>
          rw [e] at hj
          cases hj
        | some t =>
          rw [e] at hj
          cases hj
          have tm := List.mem_of_getElem? e
          have lt := (List.getElem?_eq_some_iff.mp e).1
          have en : (ts.map fun t => t.2.nm)[j]? = some t.2.nm := by
            rw [List.getElem?_map, e]
            rfl
          have et : (ts.map fun t => t.2.nm).take (j + 1) = (ts.map fun t => t.2.nm).take j ++ [t.2.nm] := by
            rw [List.take_add_one, en]
            rfl
          have ndj : ((ts.map fun t => t.2.nm).take j).Nodup := (List.take_sublist _ _).nodup nd
          have fl := TxSet.fold_fresh (ks := (ts.map fun t => t.2.nm).take j) (L := []) (by rw [List.append_nil]; exact ndj)
          refine ⟨rfl, _, rfl, t.1, _, ((0 : Nat) : Int), _, rfl, rfl, SqT.of (s2 _ _ (hl1.2 t tm)), atI_nat rfl, t.2.nm, _, rfl, hS, ?_, fun b o eb => ?_, ?_⟩
          · rw [fl, List.length_take, List.length_map]
            unfold scanBound
            simp only [List.length_nil]
            omega
          · rw [upd_ne (ne_of_none eb nS)]
            exact s2 _ _ eb
          · rw [upd_same, et, List.foldl_append]
            rfl
      · rintro H2 ⟨s2, hS⟩
        have fl := TxSet.fold_fresh (ks := ts.map fun t => t.2.nm) (L := []) (by rw [List.append_nil]; exact nd)
        have tk : (ts.map fun t => t.2.nm).take (ts.map fun t => V.ref t.1).length = ts.map fun t => t.2.nm := by
          rw [List.take_of_length_le]
          rw [List.length_map, List.length_map]
          exact Nat.le_refl _
        rw [tk] at hS
        have e3 : decide (V.int ((((ts.map fun t => t.2.nm).foldl TxSet.addL []).length : Nat) : Int) = V.int (((ts.map fun t => V.ref t.1).length : Nat) : Int)) = true := by
          rw [fl, List.length_map]
          simp
        refine ⟨S, _, rfl, hS, ?_, _, rfl, l, _, rfl, Or.inl (SqL.of (s2 _ _ hl1.1)), rfl, ?_⟩
        · rw [fl, List.length_map]
          unfold scanBound
          simp only [List.length_nil]
          omega
        · show Q (.bl (decide (V.int _ = V.int _))) H2
          rw [e3]
          exact q H2 (same_trans s1 s2)
theorem scChkStreets : FnScope ["value"] ["value"] (defScope sChkStreets) := ⟨rfl, rfl, rfl, by decide +kernel, rfl, by decide +kernel, by decide +kernel⟩
theorem ok_chkStreets {f : Addr} {fd : FuncData} (F : FnP K "check_streets" sChkStreets f fd) (GS : Fz P w K mg base "are_streets" 4 ["value"] (spAreStreets K)) (T : Tx K mg) : FnOk P w K mg base CX0 5 f fd ["value"] (spChkStreets K) := by
  refine F.ok scChkStreets (fun vs H Q E h => ?_) (fun cdv A outer s H vs Q E hr h => ?_)
  · obtain ⟨_, _, rfl, _⟩ := h
    rfl
  · obtain ⟨l, ts, rfl, hl, ok, nd, h100, q⟩ := h
    refine ⟨_, PSs.nox (pss_one (ps_if (pt_not (pt_val (pe_fz GS hr (by rfl) (pa_cons (pv 0) pa_nil)))) (pss_one ps_never) pss_nil)), ?_⟩
    exact ⟨_, rfl, l, ts, rfl, hl, ok, nd, h100, fun H' s => ⟨_, rfl, ifF (by decide) (q H' s)⟩⟩
end
end K4
end
section
set_option Elab.async false
set_option linter.all false
set_option maxRecDepth 100000
set_option maxHeartbeats 4000000
namespace K4
open PySem PySem.Spec PyProof.Rows L2
instance : DecidableEq S5 := fun a b => decidable_of_iff (a.nm = b.nm ∧ a.st = b.st ∧ a.en = b.en ∧ a.wd = b.wd ∧ a.ln = b.ln)
  ⟨fun h => by
    cases a
    cases b
    obtain ⟨h1, h2, h3, h4, h5⟩ := h
    cases h1
    cases h2
    cases h3
    cases h4
    cases h5
    rfl, fun h => by
    rw [h]
    exact ⟨rfl, rfl, rfl, rfl, rfl⟩⟩
/-! ### ascending lists -/
theorem perm_sorted {α : Type} {r : α → α → Prop} : ∀ {us vs : List α}, (∀ x ∈ us, ∀ y ∈ us, r x y → r y x → x = y) → us.Perm vs → us.Pairwise r → vs.Pairwise r → us = vs
  | [], vs, _, p, _, _ => (List.Perm.nil_eq p)
  | a :: us, [], _, p, _, _ => by
    have := p.length_eq
    simp at this
  | a :: us, b :: vs, h, p, h1, h2 => by
    have hab : a = b := by
      have ma : a ∈ b :: vs := p.mem_iff.mp List.mem_cons_self
      have mb : b ∈ a :: us := p.mem_iff.mpr List.mem_cons_self
      rcases List.mem_cons.mp ma with e | ma
      · exact e
      · rcases List.mem_cons.mp mb with e | mb
        · exact e.symm
        · exact h a List.mem_cons_self b (List.mem_cons_of_mem _ mb) ((List.pairwise_cons.mp h1).1 b mb) ((List.pairwise_cons.mp h2).1 a ma)
    subst hab
    rw [perm_sorted (fun x hx y hy => h x (List.mem_cons_of_mem _ hx) y (List.mem_cons_of_mem _ hy)) (List.Perm.cons_inv p) (List.pairwise_cons.mp h1).2 (List.pairwise_cons.mp h2).2]
/-- a is not behind b -/
abbrev leS (a b : Str) : Prop := SrtX.ltS b a = false
theorem str_ext {a b : Str} (h : a.cps.toList = b.cps.toList) : a = b := by
  cases a with
  | mk x =>
    cases b with
    | mk y =>
      have : x = y := Array.toList_inj.mp h
      rw [this]
theorem leS_antisymm {a b : Str} (h1 : leS a b) (h2 : leS b a) : a = b := by
  have a1 := List.not_lt.mp (of_decide_eq_false h1)
  have a2 := List.not_lt.mp (of_decide_eq_false h2)
  exact str_ext (List.le_antisymm a1 a2)
theorem leS_trans {a b c : Str} (h1 : leS a b) (h2 : leS b c) : leS a c := by
  have a1 := List.not_lt.mp (of_decide_eq_false h1)
  have a2 := List.not_lt.mp (of_decide_eq_false h2)
  exact decide_eq_false (List.not_lt.mpr (List.le_trans a1 a2))
abbrev Asc (ws : List Str) : Prop := ws.Pairwise leS
theorem asc_rising : ∀ {r : List Str} {p : Str}, risingS p r = true → (∀ x ∈ r, leS p x) ∧ Asc r
  | [], _, _ => ⟨fun x h => by simp at h, List.Pairwise.nil⟩
  | x :: r, p, h => by
    have h := Bool.and_eq_true_iff.mp h
    have h1 : leS p x := by
      have e := h.1
      rw [ltCps_eq] at e
      show decide (x.cps.toList < p.cps.toList) = false
      revert e
      cases decide (x.cps.toList < p.cps.toList) <;> simp
    obtain ⟨h2, h3⟩ := asc_rising h.2
    refine ⟨fun y hy => ?_, List.pairwise_cons.mpr ⟨h2, h3⟩⟩
    rcases List.mem_cons.mp hy with e | hy
    · rw [e]
      exact h1
    · exact leS_trans h1 (h2 y hy)
theorem asc_of_sortedS : ∀ {ws : List Str}, sortedS ws = true → Asc ws
  | [], _ => List.Pairwise.nil
  | x :: r, h => List.pairwise_cons.mpr (asc_rising h)
theorem asc_uniq {us vs : List Str} (p : us.Perm vs) (h1 : Asc us) (h2 : Asc vs) : us = vs := perm_sorted (fun _ _ _ _ a b => leS_antisymm a b) p h1 h2
theorem perm_of_mem {α : Type} {us vs : List α} (n1 : us.Nodup) (n2 : vs.Nodup) (h : ∀ x, x ∈ us ↔ x ∈ vs) : us.Perm vs := (List.perm_ext_iff_of_nodup n1 n2).mpr (fun {x} => h x)
theorem asc_ext {us vs : List Str} (n1 : us.Nodup) (n2 : vs.Nodup) (h : ∀ x, x ∈ us ↔ x ∈ vs) (h1 : Asc us) (h2 : Asc vs) : us = vs := asc_uniq (perm_of_mem n1 n2 h) h1 h2
theorem nodup_inj {α β : Type} {g : α → β} : ∀ {l : List α}, (l.map g).Nodup → ∀ x ∈ l, ∀ y ∈ l, g x = g y → x = y
  | [], _, x, hx, _, _, _ => by simp at hx
  | a :: l, h, x, hx, y, hy, e => by
    rw [List.map_cons] at h
    obtain ⟨h1, h2⟩ := List.nodup_cons.mp h
    rcases List.mem_cons.mp hx with ex | hx
    · rcases List.mem_cons.mp hy with ey | hy
      · rw [ex, ey]
      · exact absurd (List.mem_map.mpr ⟨y, hy, by rw [← e, ex]⟩) h1
    · rcases List.mem_cons.mp hy with ey | hy
      · exact absurd (List.mem_map.mpr ⟨x, hx, by rw [e, ey]⟩) h1
      · exact nodup_inj h2 x hx y hy e
abbrev nms (ss : List S5) : List Str := ss.map S5.nm
abbrev Asc5 (ss : List S5) : Prop := ss.Pairwise fun a b => leS a.nm b.nm
theorem asc5_uniq {us vs : List S5} (n : (nms us).Nodup) (p : us.Perm vs) (h1 : Asc5 us) (h2 : Asc5 vs) : us = vs := perm_sorted (fun x hx y hy a b => nodup_inj n x hx y hy (leS_antisymm a b)) p h1 h2
/-! ### streets as data -/
theorem eqv_s5 (a b : S5) : PyData.eqv a.data b.data = decide (a = b) := by
  obtain ⟨n, s, e, w, l⟩ := a
  obtain ⟨n', s', e', w', l'⟩ := b
  have k : PyData.eqv (S5.data ⟨n, s, e, w, l⟩) (S5.data ⟨n', s', e', w', l'⟩) = ((n == n') && ((s == s') && ((e == e') && ((w == w') && ((l == l') && true))))) := by
    simp only [S5.data, PyData.eqv, PyData.eqvAll]
  rw [k]
  by_cases h : (⟨n, s, e, w, l⟩ : S5) = ⟨n', s', e', w', l'⟩
  · cases h
    simp
  · rw [decide_eq_false h]
    apply Bool.eq_false_iff.mpr
    intro z
    simp only [Bool.and_eq_true, beq_iff_eq, and_true] at z
    obtain ⟨rfl, rfl, rfl, rfl, rfl⟩ := z
    exact h rfl
theorem eqvAll_s5 : ∀ ss ss' : List S5, PyData.eqvAll (ss.map S5.data) (ss'.map S5.data) = decide (ss = ss')
  | [], [] => by simp [PyData.eqvAll]
  | [], _ :: _ => by simp [PyData.eqvAll]
  | _ :: _, [] => by simp [PyData.eqvAll]
  | a :: ss, b :: ss' => by
    rw [List.map_cons, List.map_cons, PyData.eqvAll, eqv_s5, eqvAll_s5 ss ss']
    by_cases h1 : a = b
    · by_cases h2 : ss = ss'
      · simp [h1, h2]
      · simp [h1, h2]
    · simp [h1]
theorem eqv_sts (ss ss' : List S5) : PyData.eqv (.list (ss.map S5.data)) (.list (ss'.map S5.data)) = decide (ss = ss') := by
  rw [PyData.eqv, eqvAll_s5]
theorem eqvAll_strs : ∀ us vs : List Str, PyData.eqvAll (us.map PyData.str) (vs.map PyData.str) = decide (us = vs)
  | [], [] => by simp [PyData.eqvAll]
  | [], _ :: _ => by simp [PyData.eqvAll]
  | _ :: _, [] => by simp [PyData.eqvAll]
  | a :: ss, b :: ss' => by
    rw [List.map_cons, List.map_cons, PyData.eqvAll, eqvAll_strs ss ss', PyData.eqv]
    by_cases h1 : a = b
    · by_cases h2 : ss = ss'
      · simp [h1, h2]
      · simp [h1, h2]
    · simp [h1]
theorem eqv_strs (us vs : List Str) : PyData.eqv (.list (us.map PyData.str)) (.list (vs.map PyData.str)) = decide (us = vs) := by
  rw [PyData.eqv, eqvAll_strs]
end K4
end
section
set_option Elab.async false
set_option linter.all false
set_option maxRecDepth 100000
set_option maxHeartbeats 8000000
namespace K4
open PySem PySem.Spec PyProof.Rows L2
/-! ### values that are data, told by the heap -/
mutual
inductive Dt (H : Hp) : V → PyData → Prop
  | bl (b : Bool) : Dt H (.bl b) (.bool b)
  | int (i : Int) : Dt H (.int i) (.int i)
  | str (x : Str) : Dt H (.str x) (.str x)
  | lst {a : Addr} {xs : List V} {ds : List PyData} (h : H a = some (.lst xs)) (hs : DtAll H xs ds) : Dt H (.ref a) (.list ds)
  | tup {a : Addr} {xs : List V} {ds : List PyData} (h : H a = some (.tup xs)) (hs : DtAll H xs ds) : Dt H (.ref a) (.tuple ds)
inductive DtAll (H : Hp) : List V → List PyData → Prop
  | nil : DtAll H [] []
  | cons {v : V} {vs : List V} {d : PyData} {ds : List PyData} (h : Dt H v d) (hs : DtAll H vs ds) : DtAll H (v :: vs) (d :: ds)
end
mutual
theorem Dt.keep {H H' : Hp} (s : Same H H') : ∀ (d : PyData) (v : V), Dt H v d → Dt H' v d
  | .none, _, h => by cases h
  | .bool b, _, h => by cases h; exact .bl b
  | .int i, _, h => by cases h; exact .int i
  | .str x, _, h => by cases h; exact .str x
  | .list ds, _, h => by
    cases h with
    | lst h hs => exact .lst (s _ _ h) (DtAll.keep s ds _ hs)
  | .tuple ds, _, h => by
    cases h with
    | tup h hs => exact .tup (s _ _ h) (DtAll.keep s ds _ hs)
  | .dict ds, _, h => by cases h
theorem DtAll.keep {H H' : Hp} (s : Same H H') : ∀ (ds : List PyData) (vs : List V), DtAll H vs ds → DtAll H' vs ds
  | [], _, h => by cases h; exact .nil
  | d :: ds, _, h => by
    cases h with
    | cons h hs => exact .cons (Dt.keep s d _ h) (DtAll.keep s ds _ hs)
end
theorem DtAll.len {H : Hp} : ∀ {vs : List V} {ds : List PyData}, DtAll H vs ds → vs.length = ds.length
  | [], _, h => by cases h; rfl
  | _ :: _, _, h => by
    cases h with
    | cons _ hs => rw [List.length_cons, List.length_cons, hs.len]
theorem DtAll.get {H : Hp} : ∀ {vs : List V} {ds : List PyData} {i : Nat} {v : V}, DtAll H vs ds → vs[i]? = some v → ∃ d, ds[i]? = some d ∧ Dt H v d
  | [], _, i, v, _, e => by simp at e
  | x :: vs, _, 0, v, h, e => by
    cases h with
    | cons h hs =>
      cases e
      exact ⟨_, rfl, h⟩
  | x :: vs, _, i + 1, v, h, e => by
    cases h with
    | cons h hs =>
      obtain ⟨d, e2, h2⟩ := hs.get (i := i) (v := v) (by simpa using e)
      exact ⟨d, by simpa using e2, h2⟩
theorem depthAll_get : ∀ {ds : List PyData} {i : Nat} {d : PyData}, ds[i]? = some d → PyData.depth d ≤ PyData.depthAll ds
  | [], i, d, e => by simp at e
  | x :: ds, 0, d, e => by
    cases e
    exact Nat.le_max_left _ _
  | x :: ds, i + 1, d, e => Nat.le_trans (depthAll_get (i := i) (by simpa using e)) (Nat.le_max_right _ _)
mutual
/-- no list of it is longer -/
def wid : PyData → Nat
  | .list ds => max ds.length (widAll ds)
  | .tuple ds => max ds.length (widAll ds)
  | _ => 0
def widAll : List PyData → Nat
  | [] => 0
  | d :: ds => max (wid d) (widAll ds)
end
theorem widAll_get : ∀ {ds : List PyData} {i : Nat} {d : PyData}, ds[i]? = some d → wid d ≤ widAll ds
  | [], i, d, e => by simp at e
  | x :: ds, 0, d, e => by
    cases e
    rw [widAll]
    exact Nat.le_max_left _ _
  | x :: ds, i + 1, d, e => by
    rw [widAll]
    exact Nat.le_trans (widAll_get (i := i) (by simpa using e)) (Nat.le_max_right _ _)
/-- the tuples of a zip -/
theorem walk_zipT {K : PySem.W.Frag} {a b : Addr} {xs ys : List V} {n : Nat} (hn : n = min xs.length ys.length) : Walk (RZ.ItzT K a b) n (fun H => SqT K H a xs ∧ SqT K H b ys) (YPair (fun i => xs[i]?) (fun i => ys[i]?)) := by
  subst hn
  refine ⟨fun i _ hi q => ?_, fun _ q => ⟨xs, ys, q.1, q.2, by omega⟩, fun i H v H' _ q y => ?_⟩
  · have h1 : i < xs.length := by omega
    have h2 : i < ys.length := by omega
    exact ⟨xs, ys, xs[i], ys[i], q.1, q.2, by simp [h1], by simp [h2]⟩
  · obtain ⟨T, x, z, h1, h2, h3, h4, h5⟩ := y
    exact ⟨T, x, z, h1, h2, h3, h4 xs q.1, h5 ys q.2⟩
/-- both are the same data of at most n levels -/
def spExact (n : Nat) : Sp := fun vs H Q _ => ∃ (x y : V) (d : PyData), vs = [x, y] ∧ Dt H x d ∧ Dt H y d ∧ PyData.depth d ≤ n ∧ wid d ≤ 1000 ∧ ∀ H', Same H H' → Q (.bl true) H'
abbrev NX : List Str := ["_law_one", "_law_other", "_law_alike", "_law_a", "_law_b"]
theorem scExact : FnScope NX ["_law_one", "_law_other"] (defScope sExact) := ⟨rfl, rfl, rfl, by decide +kernel, rfl, by decide +kernel, by decide +kernel⟩
inductive TyD : V → PyData → String → Prop
  | bl (b : Bool) : TyD (.bl b) (.bool b) "bool"
  | int (i : Int) : TyD (.int i) (.int i) "int"
  | str (x : Str) : TyD (.str x) (.str x) "str"
section
variable {P : Program} {w : World} {K : PySem.W.Frag} {mg : Str → Option Value} {base : Heap}
theorem same_new {H H' : Hp} {a : Addr} {o : HO} (s : Same H H') (n : H' a = none) : Same H (upd H' a o) := same_trans s (same_upd n)
theorem ok_exact {f : Addr} {fd : FuncData} (F : FnP K "_law_exact" sExact f fd) (hm : mg "_law_exact" = some (.ref f)) (hk : PySem.W.keepIn K (.ref f) = true) (hb : Binds K fd ["_law_one", "_law_other"] []) (T : Tx K mg) :
    ∀ n, FnOk P w K mg base CX0 (n + 1) f fd ["_law_one", "_law_other"] (spExact n) := by
  intro n
  induction n with
  | zero =>
    refine F.ok scExact (fun vs H Q E h => ?_) (fun cdv A outer s H vs Q E hr h => ?_)
    · obtain ⟨_, _, _, rfl, _⟩ := h
      rfl
    · obtain ⟨x, y, d, rfl, hx, hy, hd, hw, q⟩ := h
      have gIs := T.fr "isinstance" (by decide +kernel)
      have gLi := T.fr "list" (by decide +kernel)
      have gTu := T.fr "tuple" (by decide +kernel)
      have gDi := T.fr "dict" (by decide +kernel)
      have gBo := T.fr "bool" (by decide +kernel)
      refine ⟨_, PSs.nox (pss_cons (ps_if (pt_val (pe_callB call_isiT (by rfl) gIs (by decide +kernel) (pa_cons (pv 0) (pa_cons (pe_tup (pa_cons (pe_bltn (v := .ty "list") (by rfl) gLi (by decide +kernel) rfl) (pa_cons (pe_bltn (v := .ty "tuple") (by rfl) gTu (by decide +kernel) rfl) pa_nil))) pa_nil)))) (pss_cons ps_never (pss_one ps_never)) pss_nil)
        (pss_cons (ps_if (pt_val (pe_callB call_isi (by rfl) gIs (by decide +kernel) (pa_cons (pv 0) (pa_cons (pe_bltn (v := .ty "dict") (by rfl) gDi (by decide +kernel) rfl) pa_nil)))) (pss_cons ps_never (pss_one ps_never)) pss_nil)
        (pss_one (ps_ret (pe_and (pe_cmpR op_eq (pe_callB call_isi (by rfl) gIs (by decide +kernel) (pa_cons (pv 0) (pa_cons (pe_bltn (v := .ty "bool") (by rfl) gBo (by decide +kernel) rfl) pa_nil))) (pe_callB call_isi (by rfl) gIs (by decide +kernel) (pa_cons (pv 1) (pa_cons (pe_bltn (v := .ty "bool") (by rfl) gBo (by decide +kernel) rfl) pa_nil))) (nomark _)) (pe_one (pe_cmpR op_eq (pv 0) (pv 1) (nomark _)))))))), ?_⟩
      have kd : ∃ (t : String) (b : Bool), (∀ H, TyX K H x (.type t)) ∧ x = y ∧ scal x x = true ∧ kitB t "list" = some false ∧ kitB t "tuple" = some false ∧ kitB t "dict" = some false ∧ kitB t "bool" = some b := by
        cases hx with
        | bl b =>
          cases hy
          exact ⟨"bool", true, fun H => .base (.bl b), rfl, rfl, by decide +kernel, by decide +kernel, by decide +kernel, by decide +kernel⟩
        | int b =>
          cases hy
          exact ⟨"int", false, fun H => .base (.int b), rfl, rfl, by decide +kernel, by decide +kernel, by decide +kernel, by decide +kernel⟩
        | str b =>
          cases hy
          exact ⟨"str", false, fun H => .base (.str b), rfl, rfl, by decide +kernel, by decide +kernel, by decide +kernel, by decide +kernel⟩
        | lst h hs =>
          simp [PyData.depth] at hd
        | tup h hs =>
          simp [PyData.depth] at hd
      obtain ⟨t, b, ty, e, e2, k1, k2, k3, k4⟩ := kd
      subst e
      refine ⟨_, rfl, (by show 2 ≤ sizeLine; decide +kernel), fun tp ntp => ?_⟩
      refine ⟨_, _, _, _, _, _, rfl, upd_same, .cons (.ty _) (.cons (.ty _) .nil), ty _, kitAny_cons (kit_ty k1) (fun _ => kitAny_cons (kit_ty k2) (fun _ => kitAny_nil) (fun z => nomatch z)) (fun z => nomatch z), _, rfl, ifF (by decide) ?_⟩
      refine ⟨_, rfl, _, _, _, _, _, rfl, .ty _, ty _, kit_ty k3, _, rfl, ifF (by decide) ?_⟩
      refine ⟨_, rfl, _, _, _, _, _, rfl, .ty _, ty _, kit_ty k4, _, rfl, _, _, _, _, _, rfl, .ty _, ty _, kit_ty k4, rfl, _, rfl, ifT (by simp) ?_⟩
      refine ⟨_, rfl, _, rfl, e2, ?_⟩
      rw [decide_eq_true rfl]
      exact q _ (same_upd ntp)
  | succ n ih =>
    refine F.ok scExact (fun vs H Q E h => ?_) (fun cdv A outer s H vs Q E hr h => ?_)
    · obtain ⟨_, _, _, rfl, _⟩ := h
      rfl
    · obtain ⟨x, y, d, rfl, hx, hy, hd, hw, q⟩ := h
      have gIs := T.fr "isinstance" (by decide +kernel)
      have gLi := T.fr "list" (by decide +kernel)
      have gTu := T.fr "tuple" (by decide +kernel)
      have gDi := T.fr "dict" (by decide +kernel)
      have gL := T.fr "len" (by decide +kernel)
      have gA := T.fr "all" (by decide +kernel)
      have gZ := T.fr "zip" (by decide +kernel)
      have GR : Fz P w K mg base "_law_exact" (n + 1) ["_law_one", "_law_other"] (spExact n) := ⟨f, fd, ih, hm, hk, hb⟩
      have gBo := T.fr "bool" (by decide +kernel)
      refine ⟨_, PSs.nox (pss_cons (ps_if (pt_val (pe_callB call_isiT (by rfl) gIs (by decide +kernel) (pa_cons (pv 0) (pa_cons (pe_tup (pa_cons (pe_bltn (v := .ty "list") (by rfl) gLi (by decide +kernel) rfl) (pa_cons (pe_bltn (v := .ty "tuple") (by rfl) gTu (by decide +kernel) rfl) pa_nil))) pa_nil)))) (pss_cons (ps_set (i := 2) scExact.nd rfl (Or.inl rfl) (pe_and (pe_cmpR op_eq (pe_callB call_isi (by rfl) gIs (by decide +kernel) (pa_cons (pv 1) (pa_cons (pe_bltn (v := .ty "list") (by rfl) gLi (by decide +kernel) rfl) pa_nil))) (pe_callB call_isi (by rfl) gIs (by decide +kernel) (pa_cons (pv 0) (pa_cons (pe_bltn (v := .ty "list") (by rfl) gLi (by decide +kernel) rfl) pa_nil))) (nomark _)) (pe_one (pe_cmpR op_eq (pe_callB call_isi (by rfl) gIs (by decide +kernel) (pa_cons (pv 1) (pa_cons (pe_bltn (v := .ty "tuple") (by rfl) gTu (by decide +kernel) rfl) pa_nil))) (pe_callB call_isi (by rfl) gIs (by decide +kernel) (pa_cons (pv 0) (pa_cons (pe_bltn (v := .ty "tuple") (by rfl) gTu (by decide +kernel) rfl) pa_nil))) (nomark _)))))
          (pss_one (ps_ret (pe_and (pv 2) (pe_and (pe_cmpR op_eq (pe_callB call_len_seq (by rfl) gL PySem.boot_len (pa_cons (pv 0) pa_nil)) (pe_callB call_len_seq (by rfl) gL PySem.boot_len (pa_cons (pv 1) pa_nil)) (nomark _)) (pe_one (pe_callB (cr_all rfl) (by rfl) gA (by decide +kernel)
            (pa_cons (pe_lc (own := [("_law_a", 3), ("_law_b", 4)]) (g := gTup K 2 (gCons (gName 3) (gCons (gName 4) gNil))) (tt := tYes) rfl scExact.nd (RZ.pi_zipA (by rfl) gZ (pa_cons (pv 0) (pa_cons (pv 1) pa_nil))) (blkOk_by (own := [("_law_a", 3), ("_law_b", 4)]) (N := NX) (sc := defScope sExact) (by decide +kernel))
              (fun _ _ _ _ _ => pg_tup rfl (pgs_cons (pg_name (i := 3) scExact.nd rfl (Or.inl rfl)) (pgs_cons (pg_name (i := 4) scExact.nd rfl (Or.inl rfl)) pgs_nil))) (fun _ _ _ _ _ => pts_nil) (fun _ _ _ _ _ => pe_fz GR hr (by rfl) (pa_cons (pv 3) (pa_cons (pv 4) pa_nil)))) pa_nil)))))))) pss_nil)
        (pss_cons (ps_if (pt_val (pe_callB call_isi (by rfl) gIs (by decide +kernel) (pa_cons (pv 0) (pa_cons (pe_bltn (v := .ty "dict") (by rfl) gDi (by decide +kernel) rfl) pa_nil)))) (pss_cons ps_never (pss_one ps_never)) pss_nil)
        (pss_one (ps_ret (pe_and (pe_cmpR op_eq (pe_callB call_isi (by rfl) gIs (by decide +kernel) (pa_cons (pv 0) (pa_cons (pe_bltn (v := .ty "bool") (by rfl) gBo (by decide +kernel) rfl) pa_nil))) (pe_callB call_isi (by rfl) gIs (by decide +kernel) (pa_cons (pv 1) (pa_cons (pe_bltn (v := .ty "bool") (by rfl) gBo (by decide +kernel) rfl) pa_nil))) (nomark _)) (pe_one (pe_cmpR op_eq (pv 0) (pv 1) (nomark _)))))))), ?_⟩
      have kd : (∃ (t : String) (b : Bool), (∀ H, TyX K H x (.type t)) ∧ x = y ∧ scal x x = true ∧ kitB t "list" = some false ∧ kitB t "tuple" = some false ∧ kitB t "dict" = some false ∧ kitB t "bool" = some b) ∨ (∃ a b xs ys ds, x = .ref a ∧ y = .ref b ∧ H a = some (.lst xs) ∧ H b = some (.lst ys) ∧ DtAll H xs ds ∧ DtAll H ys ds ∧ PyData.depthAll ds ≤ n ∧ ds.length ≤ 1000 ∧ widAll ds ≤ 1000) ∨ (∃ a b xs ys ds, x = .ref a ∧ y = .ref b ∧ H a = some (.tup xs) ∧ H b = some (.tup ys) ∧ DtAll H xs ds ∧ DtAll H ys ds ∧ PyData.depthAll ds ≤ n ∧ ds.length ≤ 1000 ∧ widAll ds ≤ 1000) := by
        cases hx with
        | bl b =>
          cases hy
          exact .inl ⟨"bool", true, fun H => .base (.bl b), rfl, rfl, by decide +kernel, by decide +kernel, by decide +kernel, by decide +kernel⟩
        | int b =>
          cases hy
          exact .inl ⟨"int", false, fun H => .base (.int b), rfl, rfl, by decide +kernel, by decide +kernel, by decide +kernel, by decide +kernel⟩
        | str b =>
          cases hy
          exact .inl ⟨"str", false, fun H => .base (.str b), rfl, rfl, by decide +kernel, by decide +kernel, by decide +kernel, by decide +kernel⟩
        | lst h hs =>
          cases hy with
          | lst h2 hs2 =>
            rw [PyData.depth] at hd
            rw [wid] at hw
            exact .inr (.inl ⟨_, _, _, _, _, rfl, rfl, h, h2, hs, hs2, by omega, by omega, by omega⟩)
        | tup h hs =>
          cases hy with
          | tup h2 hs2 =>
            rw [PyData.depth] at hd
            rw [wid] at hw
            exact .inr (.inr ⟨_, _, _, _, _, rfl, rfl, h, h2, hs, hs2, by omega, by omega, by omega⟩)
      rcases kd with kd | ⟨a, b, xs, ys, ds, rfl, rfl, ha, hb', hs, hs2, hd, hl, hw⟩ | ⟨a, b, xs, ys, ds, rfl, rfl, ha, hb', hs, hs2, hd, hl, hw⟩
      · obtain ⟨t, b, ty, e, e2, k1, k2, k3, k4⟩ := kd
        subst e
        refine ⟨_, rfl, (by show 2 ≤ sizeLine; decide +kernel), fun tp ntp => ?_⟩
        refine ⟨_, _, _, _, _, _, rfl, upd_same, .cons (.ty _) (.cons (.ty _) .nil), ty _, kitAny_cons (kit_ty k1) (fun _ => kitAny_cons (kit_ty k2) (fun _ => kitAny_nil) (fun z => nomatch z)) (fun z => nomatch z), _, rfl, ifF (by decide) ?_⟩
        refine ⟨_, rfl, _, _, _, _, _, rfl, .ty _, ty _, kit_ty k3, _, rfl, ifF (by decide) ?_⟩
        refine ⟨_, rfl, _, _, _, _, _, rfl, .ty _, ty _, kit_ty k4, _, rfl, _, _, _, _, _, rfl, .ty _, ty _, kit_ty k4, rfl, _, rfl, ifT (by simp) ?_⟩
        refine ⟨_, rfl, _, rfl, e2, ?_⟩
        rw [decide_eq_true rfl]
        exact q _ (same_upd ntp)
      · have sl := sizeLine_eq
        have lx := hs.len
        have ly := hs2.len
        refine ⟨_, rfl, (by show 2 ≤ sizeLine; decide +kernel), fun tp ntp => ?_⟩
        have s0 := same_upd (o := HO.tup [V.ty "list", V.ty "tuple"]) ntp
        refine ⟨_, _, _, _, _, _, rfl, upd_same, .cons (.ty _) (.cons (.ty _) .nil), .base (.lst (s0 _ _ ha)), kitAny_cons (kit_ty (r := true) (by decide +kernel)) (fun z => nomatch z) (fun _ => rfl), _, rfl, ifT rfl ?_⟩
        generalize upd H tp (.tup [V.ty "list", V.ty "tuple"]) = H1 at s0 ⊢
        have ha1 := s0 _ _ ha
        have hb1 := s0 _ _ hb'
        refine ⟨_, rfl, _, _, _, _, _, rfl, .ty _, .base (.lst hb1), kit_ty (r := true) (by decide +kernel), _, rfl, _, _, _, _, _, rfl, .ty _, .base (.lst ha1), kit_ty (r := true) (by decide +kernel), rfl, _, rfl, ifT (by simp) ?_⟩
        refine ⟨_, rfl, _, _, _, _, _, rfl, .ty _, .base (.lst hb1), kit_ty (r := false) (by decide +kernel), _, rfl, _, _, _, _, _, rfl, .ty _, .base (.lst ha1), kit_ty (r := false) (by decide +kernel), rfl, ?_⟩
        refine ⟨_, rfl, _, rfl, ifT (by simp) ?_⟩
        refine ⟨_, rfl, a, xs, rfl, Or.inl (SqL.of ha1), _, rfl, b, ys, rfl, Or.inl (SqL.of hb1), rfl, _, rfl, ifT ?_ ?_⟩
        · rw [lx, ly]
          simp
        refine ⟨_, rfl, _, rfl, a, b, xs, ys, rfl, Or.inl ⟨SqL.of ha1, SqL.of hb1, fun D nD => ?_⟩⟩
        refine lc_it (walk_zip (K := K) (a := a) (b := b) (xs := xs) (ys := ys) (n := ds.length) (by omega)) (fun j H' => Same H1 H' ∧ H' D = some (.lst ((List.replicate j true).map V.bl))) ⟨same_upd nD, upd_same⟩ (fun j H' _ h => ⟨SqL.of (h.1 _ _ ha1), SqL.of (h.1 _ _ hb1)⟩) ?_ ?_
        · rintro j v H2 H3 hj ⟨s1, hD⟩ ⟨Tp, u, z, rfl, nT, rfl, hu, hz⟩
          obtain ⟨d, hd1, hd2⟩ := hs.get hu
          obtain ⟨d', hd3, hd4⟩ := hs2.get hz
          rw [hd1] at hd3
          cases hd3
          have s3 := same_upd (o := HO.tup [u, z]) nT
          have hT : upd H2 Tp (.tup [u, z]) Tp = some (.tup [u, z]) := upd_same
          generalize upd H2 Tp (.tup [u, z]) = H3 at s3 hT ⊢
          have s13 := same_trans s0 (same_trans s1 s3)
          refine ⟨Tp, _, rfl, SqT.of hT, rfl, _, _, rfl, _, _, rfl, rfl, rfl, _, rfl, _, rfl, u, z, d, rfl, hd2.keep s13, hd4.keep s13, Nat.le_trans (depthAll_get hd1) hd, Nat.le_trans (widAll_get hd1) hw, fun H4 s4 => ?_⟩
          have hD4 := s4 _ _ (s3 _ _ hD)
          refine ⟨_, hD4, by rw [List.length_map, List.length_replicate]; omega, fun b o eb => ?_, ?_⟩
          · rw [upd_ne (ne_of_none eb nD)]
            exact s4 _ _ (s3 _ _ (s1 _ _ eb))
          · rw [upd_same, List.replicate_succ', List.map_append]
            rfl
        · rintro H2 ⟨s1, hD⟩
          refine ⟨D, List.replicate _ true, rfl, SqL.of hD, ?_⟩
          have e : (List.replicate ds.length true).all id = true := by simp
          rw [e]
          exact q H2 (same_trans s0 s1)
      · have sl := sizeLine_eq
        have lx := hs.len
        have ly := hs2.len
        refine ⟨_, rfl, (by show 2 ≤ sizeLine; decide +kernel), fun tp ntp => ?_⟩
        have s0 := same_upd (o := HO.tup [V.ty "list", V.ty "tuple"]) ntp
        refine ⟨_, _, _, _, _, _, rfl, upd_same, .cons (.ty _) (.cons (.ty _) .nil), .base (.tup (s0 _ _ ha)), kitAny_cons (kit_ty (r := false) (by decide +kernel)) (fun _ => kitAny_cons (kit_ty (r := true) (by decide +kernel)) (fun z => nomatch z) (fun _ => rfl)) (fun z => nomatch z), _, rfl, ifT rfl ?_⟩
        generalize upd H tp (.tup [V.ty "list", V.ty "tuple"]) = H1 at s0 ⊢
        have ha1 := s0 _ _ ha
        have hb1 := s0 _ _ hb'
        refine ⟨_, rfl, _, _, _, _, _, rfl, .ty _, .base (.tup hb1), kit_ty (r := false) (by decide +kernel), _, rfl, _, _, _, _, _, rfl, .ty _, .base (.tup ha1), kit_ty (r := false) (by decide +kernel), rfl, _, rfl, ifT (by simp) ?_⟩
        refine ⟨_, rfl, _, _, _, _, _, rfl, .ty _, .base (.tup hb1), kit_ty (r := true) (by decide +kernel), _, rfl, _, _, _, _, _, rfl, .ty _, .base (.tup ha1), kit_ty (r := true) (by decide +kernel), rfl, ?_⟩
        refine ⟨_, rfl, _, rfl, ifT (by simp) ?_⟩
        refine ⟨_, rfl, a, xs, rfl, Or.inr (SqT.of ha1), _, rfl, b, ys, rfl, Or.inr (SqT.of hb1), rfl, _, rfl, ifT ?_ ?_⟩
        · rw [lx, ly]
          simp
        refine ⟨_, rfl, _, rfl, a, b, xs, ys, rfl, Or.inr ⟨SqT.of ha1, SqT.of hb1, fun D nD => ?_⟩⟩
        refine lc_it (walk_zipT (K := K) (a := a) (b := b) (xs := xs) (ys := ys) (n := ds.length) (by omega)) (fun j H' => Same H1 H' ∧ H' D = some (.lst ((List.replicate j true).map V.bl))) ⟨same_upd nD, upd_same⟩ (fun j H' _ h => ⟨SqT.of (h.1 _ _ ha1), SqT.of (h.1 _ _ hb1)⟩) ?_ ?_
        · rintro j v H2 H3 hj ⟨s1, hD⟩ ⟨Tp, u, z, rfl, nT, rfl, hu, hz⟩
          obtain ⟨d, hd1, hd2⟩ := hs.get hu
          obtain ⟨d', hd3, hd4⟩ := hs2.get hz
          rw [hd1] at hd3
          cases hd3
          have s3 := same_upd (o := HO.tup [u, z]) nT
          have hT : upd H2 Tp (.tup [u, z]) Tp = some (.tup [u, z]) := upd_same
          generalize upd H2 Tp (.tup [u, z]) = H3 at s3 hT ⊢
          have s13 := same_trans s0 (same_trans s1 s3)
          refine ⟨Tp, _, rfl, SqT.of hT, rfl, _, _, rfl, _, _, rfl, rfl, rfl, _, rfl, _, rfl, u, z, d, rfl, hd2.keep s13, hd4.keep s13, Nat.le_trans (depthAll_get hd1) hd, Nat.le_trans (widAll_get hd1) hw, fun H4 s4 => ?_⟩
          have hD4 := s4 _ _ (s3 _ _ hD)
          refine ⟨_, hD4, by rw [List.length_map, List.length_replicate]; omega, fun b o eb => ?_, ?_⟩
          · rw [upd_ne (ne_of_none eb nD)]
            exact s4 _ _ (s3 _ _ (s1 _ _ eb))
          · rw [upd_same, List.replicate_succ', List.map_append]
            rfl
        · rintro H2 ⟨s1, hD⟩
          refine ⟨D, List.replicate _ true, rfl, SqL.of hD, ?_⟩
          have e : (List.replicate ds.length true).all id = true := by simp
          rw [e]
          exact q H2 (same_trans s0 s1)
end
end K4
end
section
set_option Elab.async false
set_option linter.all false
set_option maxRecDepth 100000
set_option maxHeartbeats 4000000
/-! == and != where one side is an instance of a class with an own == (and no own !=), the other side anything of the common kinds. -/
namespace OwnQ
open PySem PySem.Spec PyProof.Rows PySem.W
/-- what is known of the class -/
structure Facts (K : Frag) (C fE : Addr) : Prop where
  eq : findIn K (.ref C) "__eq__" = some (some (.ref fE))
  fn : isFn K (.ref fE) = true
  ne : findIn K (.ref C) "__ne__" = some (some (.builtin "object.__ne__"))
  ob : subIn K (.ref C) (.type "object") = some true
  sN : subIn K (.ref C) (.type "NoneType") = some false
  sI : subIn K (.ref C) (.type "int") = some false
  sB : subIn K (.ref C) (.type "bool") = some false
  sS : subIn K (.ref C) (.type "str") = some false
  sL : subIn K (.ref C) (.type "list") = some false
  sT : subIn K (.ref C) (.type "tuple") = some false
  sD : subIn K (.ref C) (.type "dict") = some false
section
variable {prog : Program} {w : World} {A : Around} {E : Value → Shared → Prop} {s : Shared} {K : Frag} {x y C f : Addr} {ox oy : Obj} {od : Option Obj} {name : Str} {b tb : Value} {id : String}
theorem ifBound_B {M : Model} {args : List Value} {Q : Option Value → Shared → Prop} (X : K.In s.heap) (I : InstAt s.heap x ox C od) (hs : findIn K (.ref C) name = some (some (.builtin id))) (hb : ∀ self, bindSpecial (.builtin id) self = pure (.builtin id, [self]))
    (h : wpAny M A (call (.builtin id) (.ref x :: args)) (fun v => Q (some v)) E s) : wpAny M A (callSpecialIfBound? (.ref x) name args) Q E s := by
  simp only [callSpecialIfBound?, bindSpecialIfBound?]
  refine wpAny_holding (wpAny_bind (wpAny_bind (wpAny_bind (I.type.here ((looks_findIn X hs).here ?_)))))
  simp only [hb]
  refine wpAny_bind (wpAny_askSetting (wpAny_ite ?_))
  have fin : wpAny M A (call (.builtin id) ([.ref x] ++ args) >>= fun v => pure (some v)) Q E s := wpAny_bind (wpAny_mono h (fun v s' h' => wpAny_pure h') fun _ _ h' => h')
  split
  · exact wpAny_bind (wpAny_pure (wpAny_pure fin))
  · exact wpAny_tryCatch (wpAny_bind (wpAny_pure (wpAny_pure fin)))
theorem check_inst {M : Model} {owner n : String} {rest : List Value} {Q : Unit → Shared → Prop} (X : K.In s.heap) (I : InstAt s.heap x ox C od) (hk : builtinKind id = some .slot) (hs : splitId id = some (owner, n))
    (ha : argsOk id ⟨.ref x :: rest, []⟩) (hob : subIn K (.ref C) (.type owner) = some true) (hq : Q () s) : wpAny M A (checkBuiltinCall id ⟨.ref x :: rest, []⟩) Q E s := by
  simp only [checkBuiltinCall, hk, hs]
  refine wpAny_bind ?_
  unfold isInstance
  refine wpAny_bind (I.type.here ((looks_subIn X hob).here ?_))
  simp only [Bool.not_true, Bool.false_eq_true, if_false]
  cases hsig : Manifest.signature? id with
  | none => exact wpAny_pure hq
  | some sig =>
    simp only [argsOk, hsig] at ha
    have h2 : Bind.checkArgs id sig ⟨.ref x :: rest, []⟩ = pure () := ha
    show wpAny M A (Bind.checkArgs id sig ⟨.ref x :: rest, []⟩) Q E _
    rw [h2]; exact wpAny_pure hq
theorem ne_entry (X : K.In s.heap) (I : InstAt s.heap x ox C od) (Fa : Facts K C f) (hu : A.units < cLine) {Q : Fin → Shared → Prop}
    (hcall : wpAny (model prog w) A (call (.ref f) [.ref x, b]) (fun v s' => ∃ k, v = .bool k ∧ Q (.done (.ret (.bool (!k)))) s') E s) :
    wpAny (model prog w) A (Builtin.«object.__ne__» ⟨[.ref x, b], []⟩) Q E s := by
  unfold Builtin.«object.__ne__»
  repeat (first
    | with_reducible refine wpAny_cRoomFor hu ?_
    | (refine wpAny_bind (m := callSpecialIfBound? (.ref x) (Str.ofString "__eq__") [b])
        (ifBound_K X I Fa.eq Fa.fn (wpAny_mono hcall (fun r s' hr => by
          obtain ⟨k, rfl, hq⟩ := hr
          repeat (first | exact hq | exact wpAny_pure hq | exact wpAny_truthy_bool hq | (refine wpAny_bind (m := truthy (.bool _)) (wpAny_truthy_bool ?_)) | wp_step)) fun _ _ e => e)))
    | wp_step)
/-- how the instance's own way of comparing ends -/
theorem try_ne (X : K.In s.heap) (I : InstAt s.heap x ox C od) (Fa : Facts K C f) (hu : A.units + 1 < cLine) {Q : Option Value → Shared → Prop}
    (hcall : wpAny (model prog w) A.in1 (call (.ref f) [.ref x, b]) (fun v s' => ∃ k, v = .bool k ∧ Q (some (.bool (!k))) s') E s) : wpAny (model prog w) A (tryCompare (.ref x) "__ne__" b) Q E s := by
  simp only [tryCompare]
  refine wpAny_bind (ifBound_B X I Fa.ne F.cmp_object.ne.bind (wpAny_call (codeAny_call_builtin F.cmp_object.ne.plain F.cmpEntry_ne
    (check_inst X I F.cmpKind_ne F.cmpSplit_ne (F.cmpArgs_ne _ _) Fa.ob (ne_entry (A := A.in1) X I Fa hu (wpAny_mono hcall (fun v s' hv => ?_) fun _ _ e => e))))))
  obtain ⟨k, rfl, hq⟩ := hv
  first | exact ⟨k, rfl, wpAny_pure hq⟩ | exact ⟨k, rfl, wpAny_pure (wpAny_pure hq)⟩ | exact ⟨k, rfl, hq⟩
end
end OwnQ
namespace OwnQ
open PySem PySem.Spec PyProof.Rows PySem.W
section
variable {prog : Program} {w : World} {A : Around} {E : Value → Shared → Prop} {s : Shared} {K : Frag} {x y C f : Addr} {ox oy : Obj} {od : Option Obj} {name : Str} {a b tb : Value} {id T : String}
/-- the instance stands left -/
theorem cmp_left {op : CmpOp} {Q : Value → Shared → Prop} (hu : A.units < cLine) (X : K.In s.heap) (I : InstAt s.heap x ox C od) (hb : Looks (model prog w) s.heap (typeOf b) tb) (hn : notFirst K C tb = true)
    (one : wpAny (model prog w) A (tryCompare (.ref x) (cmpInfo op).2.1 b) (fun r s' => ∃ v, r = some v ∧ Q v s') E s) : wpAny (model prog w) A (richCompare op (.ref x) b) Q E s := by
  unfold richCompare
  simp only [oneThing_ref]
  refine wpAny_holding (wpAny_bind (wpAny_cRoomFor hu ?_))
  refine wpAny_bind (I.type.here (wpAny_bind (hb.here ?_)))
  split
  · rename_i q
    have e : subIn K tb (.ref C) = some false := by
      rcases Bool.or_eq_true_iff.mp hn with e | e
      · rw [beq_iff_eq.mp e] at q; simp at q
      · exact beq_iff_eq.mp e
    refine wpAny_bind ((looks_subIn X e).here ?_)
    simp only [Bool.false_eq_true, if_false]
    refine wpAny_bind (wpAny_mono one (fun r s' z => ?_) fun _ _ e => e)
    obtain ⟨v, rfl, hq⟩ := z
    exact wpAny_pure hq
  · refine wpAny_bind (wpAny_pure ?_)
    simp only [Bool.false_eq_true, if_false]
    refine wpAny_bind (wpAny_mono one (fun r s' z => ?_) fun _ _ e => e)
    obtain ⟨v, rfl, hq⟩ := z
    exact wpAny_pure hq
/-- the instance stands right of a value of a built-in type that declines -/
theorem cmp_right {op : CmpOp} {Q : Value → Shared → Prop} (hu : A.units < cLine) (X : K.In s.heap) (I : InstAt s.heap x ox C od) (ha : s.TypeIs a T) (hn : subIn K (.ref C) (.type T) = some false) (h1 : Slot T (cmpInfo op).2.1 id)
    (dec : ∀ Q' : Value → Shared → Prop, Q' .notImplemented s → wpAny (model prog w) A (call (.builtin id) [a, .ref x]) Q' E s)
    (one : wpAny (model prog w) A (tryCompare (.ref x) (cmpInfo op).2.2 a) (fun r s' => ∃ v, r = some v ∧ Q v s') E s) : wpAny (model prog w) A (richCompare op a (.ref x)) Q E s := by
  rcases hi : cmpInfo op with ⟨sym, g, r⟩
  rw [hi] at h1 one
  simp only [richCompare, hi, ha.oneThing_none]
  refine wpAny_holding (wpAny_bind (wpAny_cRoomFor hu ?_))
  refine wpAny_bind (wpAny_typeOf ha (wpAny_bind (I.type.here ?_)))
  have hne : (Value.type T != Value.ref C) = true := by
    simp
  simp only [hne, if_true]
  refine wpAny_bind ((looks_subIn X hn).here ?_)
  simp only [Bool.false_eq_true, if_false, Bool.not_false, if_true]
  refine wpAny_bind (m := tryCompare a _ _) (wpAny_tryCompare_declines ha h1 (dec _ ⟨rfl, ?_⟩))
  refine wpAny_bind (wpAny_mono one (fun r s' z => ?_) fun _ _ e => e)
  obtain ⟨v, rfl, hq⟩ := z
  exact wpAny_pure hq
/-- isinstance of the instance by a built-in type that it isn't of -/
theorem inst_no {M : Model} {U : String} {Q : Bool → Shared → Prop} (X : K.In s.heap) (I : InstAt s.heap x ox C od) (h : subIn K (.ref C) (.type U) = some false) (hq : Q false s) : wpAny M A (isInstance (.ref x) (.type U)) Q E s := by
  unfold isInstance
  exact wpAny_bind (I.type.here ((looks_subIn X h).here hq))
end
section
variable {prog : Program} {w : World} {A : Around} {E : Value → Shared → Prop} {s : Shared} {K : Frag} {x C f : Addr} {dx : Addr} {od : Option Obj}
open Builtin
theorem dec_none (i : String) {B : Builtin} {op : CmpOp} (S : Slot "NoneType" (cmpInfo op).2.1 i) (hB : entryFor table i = some B) (ha : argsOk i ⟨[.none, .ref x], []⟩) (hb : B = Builtin.«NoneType.__eq__» ∨ B = Builtin.«NoneType.__ne__»)
    (Q : Value → Shared → Prop) (q : Q .notImplemented s) : wpAny (model prog w) A (call (.builtin i) [.none, .ref x]) Q E s := by
  refine GQ.call_here S rfl hB ha ?_
  rcases hb with rfl | rfl
  · obtain ⟨hp, g, d, tk, os⟩ := s
    wp_walk
    exact q
  · obtain ⟨hp, g, d, tk, os⟩ := s
    wp_walk
    exact q
theorem dec_int {a : Value} {T : String} (hT : s.TypeIs a T) (hv : (∃ k t, a = .int k t) ∨ ∃ k, a = .bool k) (I : InstAt s.heap x (instObj C dx) C od) (i : String) {B : Builtin} {op : CmpOp} (S : Slot T (cmpInfo op).2.1 i) (hB : entryFor table i = some B) (ha : argsOk i ⟨[a, .ref x], []⟩) (hb : B = Builtin.«int.__eq__» ∨ B = Builtin.«int.__ne__»)
    (Q : Value → Shared → Prop) (q : Q .notImplemented s) : wpAny (model prog w) A (call (.builtin i) [a, .ref x]) Q E s := by
  refine GQ.call_here S hT hB ha ?_
  obtain ⟨hx, _, _, _⟩ := I
  rcases hb with rfl | rfl <;> rcases hv with ⟨k, t, rfl⟩ | ⟨k, rfl⟩ <;>
  · obtain ⟨hp, g, d, tk, os⟩ := s
    wp_walk using MeetsSeq.wpAny_loadPart' hx
    exact q
theorem dec_str {a : Str} {t : Tok} (I : InstAt s.heap x (instObj C dx) C od) (i : String) {B : Builtin} {op : CmpOp} (S : Slot "str" (cmpInfo op).2.1 i) (hB : entryFor table i = some B) (ha : argsOk i ⟨[.str a t, .ref x], []⟩) (hb : B = Builtin.«str.__eq__» ∨ B = Builtin.«str.__ne__»)
    (Q : Value → Shared → Prop) (q : Q .notImplemented s) : wpAny (model prog w) A (call (.builtin i) [.str a t, .ref x]) Q E s := by
  refine GQ.call_here S (typeIs_str _ _ _) hB ha ?_
  obtain ⟨hx, _, _, _⟩ := I
  rcases hb with rfl | rfl <;>
  · obtain ⟨hp, g, d, tk, os⟩ := s
    wp_walk using MeetsSeq.wpAny_loadPart' hx
    exact q
theorem dec_list {l : Addr} (X : K.In s.heap) (I : InstAt s.heap x (instObj C dx) C od) (hn : subIn K (.ref C) (.type "list") = some false) (hl : s.TypeIs (.ref l) "list") (i : String) {B : Builtin} {op : CmpOp} (S : Slot "list" (cmpInfo op).2.1 i) (hB : entryFor table i = some B) (ha : argsOk i ⟨[.ref l, .ref x], []⟩)
    (hb : B = Builtin.«list.__eq__» ∨ B = Builtin.«list.__ne__») (Q : Value → Shared → Prop) (q : Q .notImplemented s) : wpAny (model prog w) A (call (.builtin i) [.ref l, .ref x]) Q E s := by
  refine GQ.call_here S hl hB ha ?_
  have one : ∀ (A : Around) (E : Value → Shared → Prop) (Q : Bool → Shared → Prop), Q false s → wpAny (model prog w) A (isInstance (.ref x) (.type "list")) Q E s := fun A E Q q => inst_no X I hn q
  obtain ⟨hp, g, d, tk, os⟩ := s
  rcases hb with rfl | rfl <;>
  · wp_walk using one
    exact q
theorem dec_tuple {l : Addr} (X : K.In s.heap) (I : InstAt s.heap x (instObj C dx) C od) (hn : subIn K (.ref C) (.type "tuple") = some false) (hl : s.TypeIs (.ref l) "tuple") (i : String) {B : Builtin} {op : CmpOp} (S : Slot "tuple" (cmpInfo op).2.1 i) (hB : entryFor table i = some B) (ha : argsOk i ⟨[.ref l, .ref x], []⟩)
    (hb : B = Builtin.«tuple.__eq__» ∨ B = Builtin.«tuple.__ne__») (Q : Value → Shared → Prop) (q : Q .notImplemented s) : wpAny (model prog w) A (call (.builtin i) [.ref l, .ref x]) Q E s := by
  refine GQ.call_here S hl hB ha ?_
  have one : ∀ (A : Around) (E : Value → Shared → Prop) (Q : Bool → Shared → Prop), Q false s → wpAny (model prog w) A (isInstance (.ref x) (.type "tuple")) Q E s := fun A E Q q => inst_no X I hn q
  obtain ⟨hp, g, d, tk, os⟩ := s
  rcases hb with rfl | rfl <;>
  · wp_walk using one
    exact q
theorem dec_dict {l : Addr} (X : K.In s.heap) (I : InstAt s.heap x (instObj C dx) C od) (hn : subIn K (.ref C) (.type "dict") = some false) (hl : s.TypeIs (.ref l) "dict") (i : String) {B : Builtin} {op : CmpOp} (S : Slot "dict" (cmpInfo op).2.1 i) (hB : entryFor table i = some B) (ha : argsOk i ⟨[.ref l, .ref x], []⟩)
    (hb : B = Builtin.«dict.__eq__» ∨ B = Builtin.«dict.__ne__») (Q : Value → Shared → Prop) (q : Q .notImplemented s) : wpAny (model prog w) A (call (.builtin i) [.ref l, .ref x]) Q E s := by
  refine GQ.call_here S hl hB ha ?_
  have one : ∀ (A : Around) (E : Value → Shared → Prop) (Q : Bool → Shared → Prop), Q false s → wpAny (model prog w) A (isInstance (.ref x) (.type "dict")) Q E s := fun A E Q q => inst_no X I hn q
  obtain ⟨hp, g, d, tk, os⟩ := s
  rcases hb with rfl | rfl <;>
  · wp_walk using one
    exact q
end
end OwnQ
end
section


set_option Elab.async false
set_option linter.all false
set_option maxRecDepth 100000
set_option maxHeartbeats 4000000
namespace L2
open PySem PySem.Spec PyProof.Rows PySem.W
/-- of which type a value is, told by the abstract heap -/
inductive KindV (H : Hp) : V → Value → Prop
  | non : KindV H .non (.type "NoneType")
  | int (i : Int) : KindV H (.int i) (.type "int")
  | bl (b : Bool) : KindV H (.bl b) (.type "bool")
  | str (z : PySem.Str) : KindV H (.str z) (.type "str")
  | lst {a : Addr} {xs : List V} (h : H a = some (.lst xs)) : KindV H (.ref a) (.type "list")
  | tup {a : Addr} {xs : List V} (h : H a = some (.tup xs)) : KindV H (.ref a) (.type "tuple")
  | dct {a : Addr} {kvs : List (Key × V)} (h : H a = some (.dK kvs)) : KindV H (.ref a) (.type "dict")
  | ins {a D dx : Addr} {fs : List (PySem.Str × V)} (h : H a = some (.ins D dx fs)) : KindV H (.ref a) (.ref D)
theorem KindV.keep {H H' : Hp} {x : V} {t : Value} (k : KindV H x t) (h : ∀ a o, H a = some o → H' a = some o) : KindV H' x t := by
  cases k with
  | non => exact .non
  | int i => exact .int i
  | bl b => exact .bl b
  | str z => exact .str z
  | lst e => exact .lst (h _ _ e)
  | tup e => exact .tup (h _ _ e)
  | dct e => exact .dct (h _ _ e)
  | ins e => exact .ins (h _ _ e)
section
variable {X : Cx} {pins : List (Addr × Obj)} {σ : St} {H : Hp} {s : Shared} {x : V} {u t : Value} {T : String}
theorem kind_type (I : Inv X pins σ H s) (r : RelV x u) (k : KindV H x (.type T)) : s.TypeIs u T := by
  cases k with
  | non => cases r; rfl
  | int i => obtain ⟨t, rfl⟩ := r; exact typeIs_int s i t
  | bl b => cases r; rfl
  | str z => obtain ⟨t, rfl⟩ := r; exact typeIs_str s z t
  | lst e =>
    cases r
    obtain ⟨_, its, n, _, ho⟩ := I.hok _ _ e
    exact ⟨_, ho, rfl⟩
  | tup e =>
    cases r
    obtain ⟨_, its, _, ho⟩ := I.hok _ _ e
    exact ho.typeIs
  | dct e =>
    cases r
    obtain ⟨_, _, vs, _, ho⟩ := I.hok _ _ e
    exact ho.typeIs
theorem kind_looks {M : Model} (I : Inv X pins σ H s) (r : RelV x u) (k : KindV H x t) : Looks M s.heap (typeOf u) t := by
  have rf : ∀ (a : Addr) (T : String), s.TypeIs (.ref a) T → Looks M s.heap (typeOf (.ref a)) (.type T) := fun a T h => by
    obtain ⟨o, ho, hc⟩ := h
    exact hc ▸ (Looks.ld ho).andThen .now
  cases k with
  | non => cases r; exact Looks.of_pure rfl
  | int i => obtain ⟨t, rfl⟩ := r; exact Looks.of_pure rfl
  | bl b => cases r; exact Looks.of_pure rfl
  | str z => obtain ⟨t, rfl⟩ := r; exact Looks.of_pure rfl
  | lst e => have h := kind_type I r (.lst e); cases r; exact rf _ _ h
  | tup e => have h := kind_type I r (.tup e); cases r; exact rf _ _ h
  | dct e => have h := kind_type I r (.dct e); cases r; exact rf _ _ h
  | ins e =>
    cases r
    obtain ⟨mA, J, _⟩ := ins_get I.hok e
    obtain ⟨od, J, _⟩ := J.look
    exact J.type
end
/-- == (neg: !=) where the left or the right one is an instance of C with its own == -/
def rOwnEq (K : PySem.W.Frag) (C : Addr) (sp : Sp) (E : XK) (neg : Bool) : R2 := fun x y H Q =>
  (∃ a dx fs t, x = .ref a ∧ H a = some (.ins C dx fs) ∧ KindV H y t ∧ notFirst K C t = true ∧ sp [x, y] H (fun v H' => ∃ k, v = .bl k ∧ Q (.bl (k != neg)) H') E) ∨
  (∃ b dx fs T, y = .ref b ∧ H b = some (.ins C dx fs) ∧ KindV H x (.type T) ∧ sp [y, x] H (fun v H' => ∃ k, v = .bl k ∧ Q (.bl (k != neg)) H') E)
section
variable {X : Cx} {CX : CXT} {n : Nat} {C f : Addr} {fd : FuncData} {ps : List PySem.Str} {sp : Sp} {E : XK} {pins : List (Addr × Obj)} {σ : St} {H : Hp} {s : Shared} {A : Around}
theorem run_eqf (F : FnOk X.prog X.w X.K X.mg X.base CX n f fd ps sp) (hb : Binds X.K fd ps []) (hx : Passes CX X E) (sb : Sub X n A) (I : Inv X pins σ H s) {x y : V} {u v : Value} (ru : RelV x u) (rv : RelV y v) {Qv : VK} {R : Value → Shared → Prop}
    (h : sp [x, y] H Qv E) (fin : ∀ z w H' s', Inv X pins σ H' s' → RelV z w → Qv z H' → R w s') : wpAny (model X.prog X.w) A (call (.ref f) [u, v]) R X.xe s := by
  have e0 : Env0 X.prog X.w X.K X.mg X.base A X.stack s H := by
    have e := I.env0
    exact ⟨by rw [sb.fr]; exact e.frames, e.mod, e.bs, e.bsz, e.funs, e.frf, e.hok, e.bare⟩
  have hl := F.len _ _ _ _ h
  have r2 : Vals [x, y] [u, v] := .cons ru (.cons rv .nil)
  refine wpAny_call (codeAny_mono (F.run A X.stack s H ⟨[u, v], []⟩ [u, v] [x, y] _ E sb.room e0 (by
    have := hb s [u, v] I.kIn (by simpa using hl)
    simpa using this) r2 h) fun r s' hq => ?_)
  cases r with
  | error e => exact hx pins σ H s e s' I hq
  | ok fl =>
    cases fl with
    | ret w =>
      obtain ⟨z, H', I', rz, q⟩ := I.after hq
      exact fin z w H' s' I' rz q
    | next => exact False.elim hq
    | brk => exact False.elim hq
    | cont => exact False.elim hq
theorem call_decl {B : Builtin} {T id : String} {op : CmpOp} (Fa : OwnQ.Facts X.K C f) {x : V} {u : Value} {b dx : Addr} {fs : List (PySem.Str × V)} (I : Inv X pins σ H s) (r : RelV x u) (k : KindV H x (.type T)) (e : H b = some (.ins C dx fs)) (ho : op = .Eq ∨ op = .NotEq) :
    subIn X.K (.ref C) (.type T) = some false ∧ ∃ id, Slot T (cmpInfo op).2.1 id ∧ ∀ (A : Around) (E' Q' : Value → Shared → Prop), Q' .notImplemented s → wpAny (model X.prog X.w) A (call (.builtin id) [u, .ref b]) Q' E' s := by
  have hT := kind_type I r k
  obtain ⟨mA, J, _⟩ := ins_get I.hok e
  obtain ⟨od, J, _⟩ := J.look
  cases k with
  | non =>
    cases r
    rcases ho with rfl | rfl
    · exact ⟨Fa.sN, _, PySem.F.slot_NoneType_eq, fun A E' Q' q => OwnQ.dec_none _ (op := .Eq) PySem.F.slot_NoneType_eq PySem.F.entry_NoneType_eq (PySem.F.args_NoneType_eq_2 _ _) (.inl rfl) Q' q⟩
    · exact ⟨Fa.sN, _, PySem.F.slot_NoneType_ne, fun A E' Q' q => OwnQ.dec_none _ (op := .NotEq) PySem.F.slot_NoneType_ne PySem.F.entry_NoneType_ne (PySem.F.args_NoneType_ne_2 _ _) (.inr rfl) Q' q⟩
  | int i =>
    obtain ⟨t, rfl⟩ := r
    rcases ho with rfl | rfl
    · exact ⟨Fa.sI, _, PySem.F.slot_int_eq, fun A E' Q' q => OwnQ.dec_int hT (.inl ⟨_, _, rfl⟩) J _ (op := .Eq) PySem.F.slot_int_eq PySem.F.entry_int_eq (PySem.F.args_int_eq_2 _ _) (.inl rfl) Q' q⟩
    · exact ⟨Fa.sI, _, PySem.F.slot_int_ne, fun A E' Q' q => OwnQ.dec_int hT (.inl ⟨_, _, rfl⟩) J _ (op := .NotEq) PySem.F.slot_int_ne PySem.F.entry_int_ne (PySem.F.args_int_ne_2 _ _) (.inr rfl) Q' q⟩
  | bl b =>
    cases r
    rcases ho with rfl | rfl
    · exact ⟨Fa.sB, _, PySem.F.slot_bool_eq, fun A E' Q' q => OwnQ.dec_int hT (.inr ⟨_, rfl⟩) J _ (op := .Eq) PySem.F.slot_bool_eq PySem.F.entry_int_eq (PySem.F.args_int_eq_2 _ _) (.inl rfl) Q' q⟩
    · exact ⟨Fa.sB, _, PySem.F.slot_bool_ne, fun A E' Q' q => OwnQ.dec_int hT (.inr ⟨_, rfl⟩) J _ (op := .NotEq) PySem.F.slot_bool_ne PySem.F.entry_int_ne (PySem.F.args_int_ne_2 _ _) (.inr rfl) Q' q⟩
  | str z =>
    obtain ⟨t, rfl⟩ := r
    rcases ho with rfl | rfl
    · exact ⟨Fa.sS, _, PySem.F.slot_str_eq, fun A E' Q' q => OwnQ.dec_str J _ (op := .Eq) PySem.F.slot_str_eq PySem.F.entry_str_eq (PySem.F.args_str_eq_2 _ _) (.inl rfl) Q' q⟩
    · exact ⟨Fa.sS, _, PySem.F.slot_str_ne, fun A E' Q' q => OwnQ.dec_str J _ (op := .NotEq) PySem.F.slot_str_ne PySem.F.entry_str_ne (PySem.F.args_str_ne_2 _ _) (.inr rfl) Q' q⟩
  | lst e =>
    cases r
    rcases ho with rfl | rfl
    · exact ⟨Fa.sL, _, PySem.F.slot_list_eq, fun A E' Q' q => OwnQ.dec_list I.kIn J Fa.sL hT _ (op := .Eq) PySem.F.slot_list_eq PySem.F.entry_list_eq (PySem.F.args_list_eq_2 _ _) (.inl rfl) Q' q⟩
    · exact ⟨Fa.sL, _, PySem.F.slot_list_ne, fun A E' Q' q => OwnQ.dec_list I.kIn J Fa.sL hT _ (op := .NotEq) PySem.F.slot_list_ne PySem.F.entry_list_ne (PySem.F.args_list_ne_2 _ _) (.inr rfl) Q' q⟩
  | tup e =>
    cases r
    rcases ho with rfl | rfl
    · exact ⟨Fa.sT, _, PySem.F.slot_tuple_eq, fun A E' Q' q => OwnQ.dec_tuple I.kIn J Fa.sT hT _ (op := .Eq) PySem.F.slot_tuple_eq PySem.F.entry_tuple_eq (PySem.F.args_tuple_eq_2 _ _) (.inl rfl) Q' q⟩
    · exact ⟨Fa.sT, _, PySem.F.slot_tuple_ne, fun A E' Q' q => OwnQ.dec_tuple I.kIn J Fa.sT hT _ (op := .NotEq) PySem.F.slot_tuple_ne PySem.F.entry_tuple_ne (PySem.F.args_tuple_ne_2 _ _) (.inr rfl) Q' q⟩
  | dct e =>
    cases r
    rcases ho with rfl | rfl
    · exact ⟨Fa.sD, _, PySem.F.slot_dict_eq, fun A E' Q' q => OwnQ.dec_dict I.kIn J Fa.sD hT _ (op := .Eq) PySem.F.slot_dict_eq PySem.F.entry_dict_eq (PySem.F.args_dict_eq_2 _ _) (.inl rfl) Q' q⟩
    · exact ⟨Fa.sD, _, PySem.F.slot_dict_ne, fun A E' Q' q => OwnQ.dec_dict I.kIn J Fa.sD hT _ (op := .NotEq) PySem.F.slot_dict_ne PySem.F.entry_dict_ne (PySem.F.args_dict_ne_2 _ _) (.inr rfl) Q' q⟩
theorem op_ownEq (F : FnOk X.prog X.w X.K X.mg X.base CX n f fd ps sp) (Fa : OwnQ.Facts X.K C f) (hb : Binds X.K fd ps []) (hx : Passes CX X E) (hr : Room n X.A) : OpR X (compareOp .Eq) (rOwnEq X.K C sp E false) := by
  intro pins s σ H x y v u Q I rx ry h
  have sb : Sub X n X.A := ⟨hr, rfl⟩
  have fin : ∀ z w H' s', Inv X pins σ H' s' → RelV z w → (∃ k, z = .bl k ∧ Q (.bl (k != false)) H') → ∃ v', some w = some v' ∧ EP X pins σ Q v' s' := fun z w H' s' I' rz q => by
    obtain ⟨k, rfl, q⟩ := q
    cases rz
    rw [Bool.bne_false] at q
    exact ⟨_, rfl, .bl k, H', I', rfl, q⟩
  show wpAny (model X.prog X.w) X.A (richCompare .Eq v u) (EP X pins σ Q) X.xe s
  rcases h with ⟨a, dx, fs, t, rfl, ha, hk, hn, q⟩ | ⟨b, dx, fs, T, rfl, hb', hk, q⟩
  · cases rx
    obtain ⟨mA, J, _⟩ := ins_get I.hok ha
    obtain ⟨od, J, _⟩ := J.look
    refine OwnQ.cmp_left (op := .Eq) hr.units0 I.kIn J (kind_looks I ry hk) hn ?_
    unfold tryCompare
    refine wpAny_bind (ifBound_K I.kIn J Fa.eq Fa.fn (run_eqf (x := .ref a) F hb hx sb I rfl ry q fun z w H' s' I' rz q' => ?_))
    obtain ⟨k, rfl, q'⟩ := q'
    cases rz
    exact wpAny_pure (fin (.bl k) _ _ _ I' rfl ⟨k, rfl, q'⟩)
  · cases ry
    obtain ⟨mA, J, _⟩ := ins_get I.hok hb'
    obtain ⟨od, J, _⟩ := J.look
    obtain ⟨hs, id, S, dec⟩ := call_decl (B := Builtin.«object.__ne__») (T := T) (id := "") Fa I rx hk hb' (op := .Eq) (.inl rfl)
    refine OwnQ.cmp_right (op := .Eq) hr.units0 I.kIn J (kind_type I rx hk) hs S (fun Q' q' => dec X.A X.xe Q' q') ?_
    unfold tryCompare
    refine wpAny_bind (ifBound_K I.kIn J Fa.eq Fa.fn (run_eqf (x := .ref b) F hb hx sb I rfl rx q fun z w H' s' I' rz q' => ?_))
    obtain ⟨k, rfl, q'⟩ := q'
    cases rz
    exact wpAny_pure (fin (.bl k) _ _ _ I' rfl ⟨k, rfl, q'⟩)
theorem op_ownNe (F : FnOk X.prog X.w X.K X.mg X.base CX n f fd ps sp) (Fa : OwnQ.Facts X.K C f) (hb : Binds X.K fd ps []) (hx : Passes CX X E) (hr : Room (n + 1) X.A) : OpR X (compareOp .NotEq) (rOwnEq X.K C sp E true) := by
  intro pins s σ H x y v u Q I rx ry h
  have sb : Sub X n X.A.in1 := ⟨hr.in1, rfl⟩
  have hu : X.A.units + 1 < cLine := by
    have := hr.units
    omega
  have fin : ∀ z w H' s', Inv X pins σ H' s' → RelV z w → (∃ k, z = .bl k ∧ Q (.bl (k != true)) H') → ∃ k, w = .bool k ∧ ∃ v', some (Value.bool (!k)) = some v' ∧ EP X pins σ Q v' s' := fun z w H' s' I' rz q => by
    obtain ⟨k, rfl, q⟩ := q
    cases rz
    rw [Bool.bne_true] at q
    exact ⟨k, rfl, _, rfl, .bl (!k), H', I', rfl, q⟩
  show wpAny (model X.prog X.w) X.A (richCompare .NotEq v u) (EP X pins σ Q) X.xe s
  rcases h with ⟨a, dx, fs, t, rfl, ha, hk, hn, q⟩ | ⟨b, dx, fs, T, rfl, hb', hk, q⟩
  · cases rx
    obtain ⟨mA, J, _⟩ := ins_get I.hok ha
    obtain ⟨od, J, _⟩ := J.look
    refine OwnQ.cmp_left (op := .NotEq) hr.units0 I.kIn J (kind_looks I ry hk) hn ?_
    exact OwnQ.try_ne I.kIn J Fa hu (run_eqf (x := .ref a) F hb hx sb I rfl ry q fun z w H' s' I' rz q' => fin z w H' s' I' rz q')
  · cases ry
    obtain ⟨mA, J, _⟩ := ins_get I.hok hb'
    obtain ⟨od, J, _⟩ := J.look
    obtain ⟨hs, id, S, dec⟩ := call_decl (B := Builtin.«object.__ne__») (T := T) (id := "") Fa I rx hk hb' (op := .NotEq) (.inr rfl)
    refine OwnQ.cmp_right (op := .NotEq) hr.units0 I.kIn J (kind_type I rx hk) hs S (fun Q' q' => dec X.A X.xe Q' q') ?_
    exact OwnQ.try_ne I.kIn J Fa hu (run_eqf (x := .ref b) F hb hx sb I rfl rx q fun z w H' s' I' rz q' => fin z w H' s' I' rz q')
end
end L2
end
section
set_option Elab.async false
set_option linter.all false
set_option maxRecDepth 100000
set_option maxHeartbeats 8000000
namespace K4
open PySem PySem.Spec PyProof.Rows L2
abbrev sQInit : Stmt := inClass (top 18) 0
abbrev sQStreets : Stmt := inClass (top 18) 1
abbrev sQGates : Stmt := inClass (top 18) 2
abbrev sQEq : Stmt := inClass (top 18) 3
abbrev FnM (K : PySem.W.Frag) (x q : Str) (st : Stmt) (f : Addr) (fd : FuncData) : Prop := FunD K x q (defArgs st) (defBody st) (defScope st) [] [] f fd
def kinds : List String := ["NoneType", "int", "bool", "str", "list", "tuple", "dict"]
/-- what is known of a class of the text -/
structure ClsF (K : PySem.W.Frag) (C fI fE : Addr) : Prop where
  cl : Cls K C
  mkr : Mk K C fI
  ow : OwnQ.Facts K C fE
  n1 : NoAttr K C "_streets"
  n2 : NoAttr K C "_gates"
  ha : PySem.W.findIn K (.ref C) "__class__" = some (some (.builtin "object.__class__"))
  hn : PySem.W.specialIn K (.builtin "object.__class__") "__get__" = some (some (.builtin "getset_descriptor.__get__"))
  htk : PySem.W.takesIn K (.builtin "object.__class__") = some true
  hm : PySem.W.mroIn K C (.type "object") = some true
  kC : PySem.W.kitOne K (.ref C) (.ref C) = some true
  kk : ∀ T ∈ kinds, PySem.W.kitOne K (.type T) (.ref C) = some false ∧ PySem.W.notFirst K C (.type T) = true
/-- the class -/
structure Klz (K : PySem.W.Frag) (mg : Str → Option Value) (CQ iQ eQ sQ gQ : Addr) : Prop where
  q : ClsF K CQ iQ eQ
  mQ : mg "Quarter" = some (.ref CQ)
  qs : Meth K CQ "streets" sQ
  qg : Meth K CQ "gates" gQ
theorem ClsF.ty {K : PySem.W.Frag} {C fI fE a dx : Addr} {fs : List (Str × V)} {H : Hp} (c : ClsF K C fI fE) (e : H a = some (.ins C dx fs)) : TyX K H (.ref a) (.ref C) := .base (.ins e c.cl c.ha c.hn c.htk c.hm)
theorem kind_ty {K : PySem.W.Frag} {H : Hp} {x : V} {T : String} (k : KindV H x (.type T)) : TyX K H x (.type T) ∧ T ∈ kinds := by
  cases k with
  | non => exact ⟨.base .non, by decide +kernel⟩
  | int i => exact ⟨.base (.int i), by decide +kernel⟩
  | bl i => exact ⟨.base (.bl i), by decide +kernel⟩
  | str i => exact ⟨.base (.str i), by decide +kernel⟩
  | lst e => exact ⟨.base (.lst e), by decide +kernel⟩
  | tup e => exact ⟨.base (.tup e), by decide +kernel⟩
  | dct e => exact ⟨.base (.dK e), by decide +kernel⟩
/-- a quarter at q -/
structure QuP (H : Hp) (C q dx l g : Addr) (ts : List (Addr × S5)) (gs : List Str) : Prop where
  at_ : H q = some (.ins C dx [("_streets", .ref l), ("_gates", .ref g)])
  s : Sts H l ts
  g : Ws H g gs
/-- right streets -/
structure SOk (ss : List S5) : Prop where
  ok : ∀ s ∈ ss, s.Ok
  nd : (nms ss).Nodup
  l : ss.length ≤ 60
/-- right gates -/
structure GOk (gs : List Str) : Prop where
  wd : ∀ x ∈ gs, Wd x
  nd : gs.Nodup
  ne : gs ≠ []
  l : gs.length ≤ 60
abbrev snds (ts : List (Addr × S5)) : List S5 := ts.map fun t => t.2
theorem nms_snds (ts : List (Addr × S5)) : (ts.map fun t => t.2.nm) = nms (snds ts) := by
  show _ = (ts.map fun t => t.2).map S5.nm
  rw [List.map_map]
  rfl
def nameAt (H : Hp) : V → Str
  | .ref a => match H a with
    | some (.tup (.str z :: _)) => z
    | _ => ""
  | _ => ""
theorem nameAt_sts {H : Hp} {l : Addr} {ts : List (Addr × S5)} (h : Sts H l ts) : ∀ t ∈ ts, nameAt H (.ref t.1) = t.2.nm := fun t ht => by
  have e := h.2 t ht
  unfold nameAt
  simp only [e, S5.vals]
theorem Sts.keep {H H' : Hp} {l : Addr} {ts : List (Addr × S5)} (h : Sts H l ts) (s : Same H H') : Sts H' l ts := ⟨s _ _ h.1, fun t ht => s _ _ (h.2 t ht)⟩
theorem QuP.keep {H H' : Hp} {C q dx l g : Addr} {ts : List (Addr × S5)} {gs : List Str} (h : QuP H C q dx l g ts gs) (s : Same H H') : QuP H' C q dx l g ts gs := ⟨s _ _ h.at_, h.s.keep s, s _ _ h.g⟩
section
variable {P : Program} {w : World} {K : PySem.W.Frag} {mg : Str → Option Value} {base : Heap}
/-! ### check_gates, of right ones -/
def spChkGates : Sp := fun vs H Q _ => ∃ (l : Addr) (gs : List Str), vs = [.ref l] ∧ Ws H l gs ∧ GOk gs ∧ ∀ H', Same H H' → Q .non H'
abbrev NCG : List Str := ["value", "gate"]
/-- are_gates -/
def spAreGates : Sp := fun vs H Q _ => ∃ (l : Addr) (gs : List Str), vs = [.ref l] ∧ Ws H l gs ∧ GOk gs ∧ ∀ H', Same H H' → Q (.bl true) H'
theorem scAreGates : FnScope NCG ["value"] (defScope sAreGates) := ⟨rfl, rfl, rfl, by decide +kernel, rfl, by decide +kernel, by decide +kernel⟩
theorem ok_areGates {f : Addr} {fd : FuncData} (F : FnP K "are_gates" sAreGates f fd) (GW : Fz P w K mg base "is_word" 1 ["value"] spIsWord) (T : Tx K mg) : FnOk P w K mg base CX0 2 f fd ["value"] spAreGates := by
  refine F.ok scAreGates (fun vs H Q E h => ?_) (fun cdv A outer s H vs Q E hr h => ?_)
  · obtain ⟨_, _, rfl, _⟩ := h
    rfl
  · obtain ⟨l, gs, rfl, hl, ok, q⟩ := h
    have gIs := T.fr "isinstance" (by decide +kernel)
    have gLi := T.fr "list" (by decide +kernel)
    have gL := T.fr "len" (by decide +kernel)
    have gA := T.fr "all" (by decide +kernel)
    have gS := T.fr "set" (by decide +kernel)
    have sl := sizeLine_eq
    have h60 := ok.l
    refine ⟨_, PSs.nox (pss_cons (ps_if (PW.pt (pw_or (pt_not (pt_val (pe_callB call_isi (by rfl) gIs (by decide +kernel) (pa_cons (pv 0) (pa_cons (pe_bltn (v := .ty "list") (by rfl) gLi (by decide +kernel) rfl) pa_nil)))))
        (pw_or1 (pt_not (pt_val (pe_callB (cr_all rfl) (by rfl) gA (by decide +kernel) (pa_cons (pe_lc (own := [("gate", 1)]) (g := gName 1) (tt := tYes) rfl scAreGates.nd (pi_list (pv 0)) (blkOk_by (own := [("gate", 1)]) (N := NCG) (sc := defScope sAreGates) (by decide +kernel))
          (fun _ _ _ _ _ => pg_name (i := 1) scAreGates.nd rfl (Or.inl rfl)) (fun _ _ _ _ _ => pts_nil) (fun _ _ _ _ _ => pe_fz GW hr (by rfl) (pa_cons (pv 1) pa_nil))) pa_nil))))))) (pss_one (ps_ret pe_bl)) pss_nil)
      (pss_one (ps_ret (pe_chain op_lt op_eq pe_int (pe_callB call_len_seq (by rfl) gL PySem.boot_len (pa_cons (pv 0) pa_nil)) (pe_callB cr_lenX (by rfl) gL PySem.boot_len (pa_cons (pe_callTy (cr_setX rfl) (by rfl) gS (by decide +kernel) (pa_cons (pv 0) pa_nil)) pa_nil)))))), ?_⟩
    refine ⟨_, rfl, _, _, _, _, _, rfl, .ty _, .base (.lst hl), ktr (by decide +kernel), _, rfl, ifF (by decide) ?_⟩
    refine ⟨_, rfl, l, rfl, ⟨_, SqL.of hl⟩, fun D nD => ?_⟩
    refine lc_list (K := K) (a := l) (xs := gs.map V.str) (fun j H' => Same H H' ∧ H' D = some (.lst ((List.replicate j true).map V.bl))) ⟨same_upd nD, upd_same⟩ (fun j H' _ h => SqL.of (h.1 _ _ hl)) ?_ ?_
    · rintro j x H' hj ⟨s1, hD⟩
      rw [List.getElem?_map] at hj
      cases e : gs[j]? with
      | none =>
        rw [e] at hj
        cases hj
      | some t =>
        rw [e] at hj
        cases hj
        have tm := List.mem_of_getElem? e
        have lt := (List.getElem?_eq_some_iff.mp e).1
        refine ⟨rfl, _, rfl, t, rfl, ok.wd t tm, fun H2 s2 => ⟨_, s2 _ _ hD, by rw [List.length_map, List.length_replicate]; omega, fun b o eb => ?_, ?_⟩⟩
        · rw [upd_ne (ne_of_none eb nD)]
          exact s2 _ _ (s1 _ _ eb)
        · rw [upd_same, List.replicate_succ', List.map_append]
          rfl
    · rintro H1 ⟨s1, hD⟩
      refine ⟨D, List.replicate _ true, rfl, SqL.of hD, ?_⟩
      have e : (List.replicate (gs.map V.str).length true).all id = true := by simp
      rw [e]
      have hl1 := s1 _ _ hl
      have fl := TxSet.fold_fresh (ks := gs) (L := []) (by rw [List.append_nil]; exact ok.nd)
      have ne : 0 < gs.length := List.length_pos_iff.mpr ok.ne
      refine ⟨_, rfl, ifF (by decide) ?_⟩
      refine ⟨_, rfl, l, _, rfl, Or.inl (SqL.of hl1), _, _, rfl, rfl, _, rfl, ifT (decide_eq_true (by rw [List.length_map]; omega)) ?_⟩
      refine ⟨_, rfl, l, gs, rfl, SqL.of hl1, by unfold scanBound; omega, fun S nS => ?_⟩
      refine ⟨S, _, rfl, upd_same, by rw [fl]; unfold scanBound; simp only [List.length_nil]; omega, rfl, ?_⟩
      have e3 : decide (V.int ((gs.map V.str).length : Nat) = V.int (((gs.foldl TxSet.addL []).length : Nat) : Int)) = true := by
        rw [fl, List.length_map]
        simp
      show Q (.bl (decide (V.int _ = V.int _))) _
      rw [e3]
      exact q _ (same_trans s1 (same_upd nS))
theorem scChkGates : FnScope ["value"] ["value"] (defScope sChkGates) := ⟨rfl, rfl, rfl, by decide +kernel, rfl, by decide +kernel, by decide +kernel⟩
theorem ok_chkGates {f : Addr} {fd : FuncData} (F : FnP K "check_gates" sChkGates f fd) (GA : Fz P w K mg base "are_gates" 2 ["value"] spAreGates) (T : Tx K mg) : FnOk P w K mg base CX0 3 f fd ["value"] spChkGates := by
  refine F.ok scChkGates (fun vs H Q E h => ?_) (fun cdv A outer s H vs Q E hr h => ?_)
  · obtain ⟨_, _, rfl, _⟩ := h
    rfl
  · obtain ⟨l, gs, rfl, hl, ok, q⟩ := h
    refine ⟨_, PSs.nox (pss_one (ps_if (pt_not (pt_val (pe_fz GA hr (by rfl) (pa_cons (pv 0) pa_nil)))) (pss_one ps_never) pss_nil)), ?_⟩
    exact ⟨_, rfl, l, gs, rfl, hl, ok, fun H' s => ⟨_, rfl, ifF (by decide) (q H' s)⟩⟩
/-! ### Quarter and Town -/
def spInitQ (C : Addr) : Sp := fun vs H Q _ => ∃ (x dx l g : Addr) (ts : List (Addr × S5)) (gs : List Str), vs = [.ref x, .ref l, .ref g] ∧ H x = some (.ins C dx []) ∧ Sts H l ts ∧ SOk (snds ts) ∧ Ws H g gs ∧ GOk gs ∧
  ∀ H' l' g' ts' gs', But x H H' → H l' = none → H g' = none → QuP H' C x dx l' g' ts' gs' → ts'.Perm ts → Asc5 (snds ts') → gs'.Perm gs → Asc gs' → Q .non H'
theorem scQInit : FnScope ["self", "streets", "gates"] ["self", "streets", "gates"] (defScope sQInit) := ⟨rfl, rfl, rfl, by decide +kernel, rfl, by decide +kernel, by decide +kernel⟩
/-- what sorted(streets) asks and tells -/
theorem sort_a {H : Hp} {l : Addr} {ts : List (Addr × S5)} (h : Sts H l ts) : ∀ x ∈ ts.map (fun t => V.ref t.1), ∃ t r, x = V.ref t ∧ SqT K H t (V.str (nameAt H x) :: r) := fun x hx => by
  have nm := nameAt_sts h
  obtain ⟨t, ht, rfl⟩ := List.mem_map.mp hx
  refine ⟨t.1, [.str t.2.st, .str t.2.en, .int t.2.wd, .int t.2.ln], rfl, ?_⟩
  rw [nm t ht]
  exact SqT.of (h.2 t ht)
theorem sort_b {H : Hp} {l : Addr} {ts : List (Addr × S5)} (h : Sts H l ts) (nd : (nms (snds ts)).Nodup) : ∀ x ∈ ts.map (fun t => V.ref t.1), ∀ y ∈ ts.map (fun t => V.ref t.1), nameAt H x = nameAt H y → x = y := fun x hx y hy e => by
  have nm := nameAt_sts h
  obtain ⟨t, ht, rfl⟩ := List.mem_map.mp hx
  obtain ⟨u, hu, rfl⟩ := List.mem_map.mp hy
  rw [nm t ht, nm u hu] at e
  rw [← nms_snds] at nd
  rw [nodup_inj nd t ht u hu e]
theorem sort_c {H : Hp} {l : Addr} {ts : List (Addr × S5)} {ys : List V} (h : Sts H l ts) (pm : ys.Perm (ts.map fun t => V.ref t.1)) (pw : ys.Pairwise fun x y => SrtX.ltS (nameAt H y) (nameAt H x) = false) : ∃ ts' : List (Addr × S5), ts'.Perm ts ∧ Asc5 (snds ts') ∧ ys = ts'.map fun t => V.ref t.1 := by
  have nm := nameAt_sts h
  obtain ⟨ts', pt, rfl⟩ := perm_map_inv pm ts rfl
  refine ⟨ts', pt, ?_, rfl⟩
  rw [List.pairwise_map] at pw
  show ((ts'.map fun t => t.2).Pairwise fun a b => leS a.nm b.nm)
  rw [List.pairwise_map]
  refine List.Pairwise.imp_of_mem (fun {a b} ha hb hab => ?_) pw
  rw [nm a (pt.mem_iff.mp ha), nm b (pt.mem_iff.mp hb)] at hab
  exact hab
theorem ok_qInit {C iQ eQ : Addr} {f : Addr} {fd : FuncData} (F : FnM K "__init__" "Quarter.__init__" sQInit f fd) (c : ClsF K C iQ eQ) (GS : Fz P w K mg base "check_streets" 5 ["value"] (spChkStreets K)) (GG : Fz P w K mg base "check_gates" 3 ["value"] spChkGates) (T : Tx K mg) :
    FnOk P w K mg base CX0 6 f fd ["self", "streets", "gates"] (spInitQ C) := by
  refine F.ok scQInit (fun vs H Q E h => ?_) (fun cdv A outer s H vs Q E hr h => ?_)
  · obtain ⟨_, _, _, _, _, _, rfl, _⟩ := h
    rfl
  · obtain ⟨x, dx, l, g, ts, gs, rfl, hx, hl, so, hg, go, q⟩ := h
    have gSo := T.fr "sorted" (by decide +kernel)
    have h60 := go.l
    have s60 := so.l
    refine ⟨_, PSs.nox (pss_cons (ps_expr (pe_fz GS hr (by rfl) (pa_cons (pv 1) pa_nil))) (pss_cons (ps_expr (pe_fz GG (hr.mono (by decide)) (by rfl) (pa_cons (pv 2) pa_nil)))
      (pss_cons (ps_fld (pv 0) (pe_callB cr_sortedTx (by rfl) gSo (by decide +kernel) (pa_cons (pv 1) pa_nil)) rfl) (pss_one (ps_fld (pv 0) (pe_callB cr_sortedS (by rfl) gSo (by decide +kernel) (pa_cons (pv 2) pa_nil)) rfl))))), ?_⟩
    refine ⟨_, rfl, l, ts, rfl, hl, fun t ht => so.ok _ (List.mem_map.mpr ⟨t, ht, rfl⟩), by rw [nms_snds]; exact so.nd, by rw [List.length_map] at s60; omega, fun H1 s1 => ?_⟩
    refine ⟨_, rfl, g, gs, rfl, s1 _ _ hg, go, fun H2 s2 => ?_⟩
    have s02 := same_trans s1 s2
    have hl2 := hl.keep s02
    refine ⟨_, rfl, l, _, nameAt H2, rfl, SqL.of hl2.1, sort_a hl2, sort_b hl2 so.nd, fun ys l' pm pw nl' => ?_⟩
    obtain ⟨ts', pt, as, rfl⟩ := sort_c hl2 pm pw
    have s3 := same_upd (o := .lst (ts'.map fun t => V.ref t.1)) nl'
    refine ⟨_, rfl, x, C, dx, _, rfl, s3 _ _ (s02 _ _ hx), c.cl, c.n1, by decide, ?_⟩
    have hl3 : upd H2 l' (.lst (ts'.map fun t => V.ref t.1)) l' = some (.lst (ts'.map fun t => V.ref t.1)) := upd_same
    have hx2 := s02 _ _ hx
    have s03 := same_trans s02 s3
    have nlx : l' ≠ x := fun e => by rw [e, hx2] at nl'; cases nl'
    have nl0 := s02.free nl'
    have hts : ∀ t ∈ ts', H t.1 = some (.tup t.2.vals) := fun t ht => hl.2 t (pt.mem_iff.mp ht)
    generalize upd H2 l' (.lst (ts'.map fun t => V.ref t.1)) = H3 at hl3 s03 ⊢
    have hg3 := s03 _ _ hg
    have ngx : g ≠ x := fun e => by rw [e] at hg; rw [hg] at hx; cases hx
    have b4 : But x H (upd H3 x (.ins C dx (putF "_streets" (.ref l') []))) := fun b o nb e => by
      rw [upd_ne nb]
      exact s03 _ _ e
    have hx4 : upd H3 x (.ins C dx (putF "_streets" (.ref l') [])) x = some (.ins C dx [("_streets", .ref l')]) := upd_same
    have hl4 : upd H3 x (.ins C dx (putF "_streets" (.ref l') [])) l' = some (.lst (ts'.map fun t => V.ref t.1)) := by
      rw [upd_ne nlx]
      exact hl3
    have hg4 := b4 _ _ ngx hg
    generalize upd H3 x (.ins C dx (putF "_streets" (.ref l') [])) = H4 at b4 hx4 hl4 hg4 ⊢
    refine ⟨_, rfl, g, gs, rfl, SqL.of hg4, by omega, fun gs' g' pg sg ng' => ?_⟩
    have s5 := same_upd (o := .lst (gs'.map V.str)) ng'
    refine ⟨_, rfl, x, C, dx, _, rfl, s5 _ _ hx4, c.cl, c.n2, (by show 1 < 1000; omega), ?_⟩
    have ngx' : g' ≠ x := fun e => by rw [e, hx4] at ng'; cases ng'
    have ng0 : H g' = none := b4.free ng' ngx'
    have b5 := b4.trans (Same.but (p := x) s5)
    have hg5 : upd H4 g' (.lst (gs'.map V.str)) g' = some (.lst (gs'.map V.str)) := upd_same
    have hl5 := s5 _ _ hl4
    generalize upd H4 g' (.lst (gs'.map V.str)) = H5 at b5 hg5 hl5 ⊢
    have b6 := b5.trans (but_self (p := x) (H := H5) (o := .ins C dx (putF "_gates" (.ref g') [("_streets", .ref l')])))
    refine q _ l' g' ts' gs' b6 nl0 ng0 ⟨?_, ⟨?_, fun t ht => b6 _ _ (fun e => ?_) (hts t ht)⟩, ?_⟩ pt as pg (asc_of_sortedS sg)
    · rw [upd_same]
      rfl
    · rw [upd_ne nlx]
      exact hl5
    · have h1 := hts t ht
      rw [e, hx] at h1
      cases h1
    · show upd _ _ _ g' = _
      rw [upd_ne ngx']
      exact hg5
end
end K4
end
section
set_option Elab.async false
set_option linter.all false
set_option maxRecDepth 100000
set_option maxHeartbeats 8000000
namespace K4
open PySem PySem.Spec PyProof.Rows L2
section
variable {P : Program} {w : World} {K : PySem.W.Frag} {mg : Str → Option Value} {base : Heap}
/-! ### streets(), gates() -/
/-- the list of the field comes back as a new one -/
def spFld (C : Addr) (fl : Str) : Sp := fun vs H Q _ => ∃ (x dx l : Addr) (fs : List (Str × V)) (xs : List V), vs = [.ref x] ∧ H x = some (.ins C dx fs) ∧ fs.lookup fl = some (.ref l) ∧ H l = some (.lst xs) ∧ ∀ D, H D = none → Q (.ref D) (upd H D (.lst xs))
theorem scQS : FnScope ["self"] ["self"] (defScope sQStreets) := ⟨rfl, rfl, rfl, by decide +kernel, rfl, by decide +kernel, by decide +kernel⟩
theorem scQG : FnScope ["self"] ["self"] (defScope sQGates) := ⟨rfl, rfl, rfl, by decide +kernel, rfl, by decide +kernel, by decide +kernel⟩
theorem ok_qStreets {C iQ eQ : Addr} {f : Addr} {fd : FuncData} (F : FnM K "streets" "Quarter.streets" sQStreets f fd) (c : ClsF K C iQ eQ) (T : Tx K mg) : FnOk P w K mg base CX0 1 f fd ["self"] (spFld C "_streets") := by
  refine F.ok scQS (fun vs H Q E h => ?_) (fun cdv A outer s H vs Q E hr h => ?_)
  · obtain ⟨_, _, _, _, _, rfl, _⟩ := h
    rfl
  · obtain ⟨x, dx, l, fs, xs, rfl, hx, hf, hl, q⟩ := h
    have gLi := T.fr "list" (by decide +kernel)
    refine ⟨_, PSs.nox (pss_one (ps_ret (pe_callTy call_list_of (by rfl) gLi (by decide +kernel) (pa_cons (pe_fld (pv 0) rfl) pa_nil)))), ?_⟩
    exact ⟨_, rfl, x, C, dx, fs, _, rfl, hx, c.cl, c.n1, hf, l, _, rfl, Or.inl (SqL.of hl), fun D nD => q D nD⟩
theorem ok_qGates {C iQ eQ : Addr} {f : Addr} {fd : FuncData} (F : FnM K "gates" "Quarter.gates" sQGates f fd) (c : ClsF K C iQ eQ) (T : Tx K mg) : FnOk P w K mg base CX0 1 f fd ["self"] (spFld C "_gates") := by
  refine F.ok scQG (fun vs H Q E h => ?_) (fun cdv A outer s H vs Q E hr h => ?_)
  · obtain ⟨_, _, _, _, _, rfl, _⟩ := h
    rfl
  · obtain ⟨x, dx, l, fs, xs, rfl, hx, hf, hl, q⟩ := h
    have gLi := T.fr "list" (by decide +kernel)
    refine ⟨_, PSs.nox (pss_one (ps_ret (pe_callTy call_list_of (by rfl) gLi (by decide +kernel) (pa_cons (pe_fld (pv 0) rfl) pa_nil)))), ?_⟩
    exact ⟨_, rfl, x, C, dx, fs, _, rfl, hx, c.cl, c.n2, hf, l, _, rfl, Or.inl (SqL.of hl), fun D nD => q D nD⟩
/-! ### == -/
/-- of two quarters, of a quarter and something else -/
def spEqQ (CQ : Addr) : Sp := fun vs H Q _ => ∃ (a : Addr) (y : V) (dx l g : Addr) (ts : List (Addr × S5)) (gs : List Str), vs = [.ref a, y] ∧ QuP H CQ a dx l g ts gs ∧ SOk (snds ts) ∧ GOk gs ∧
  ∃ b dx' l' g' ts' gs', y = .ref b ∧ QuP H CQ b dx' l' g' ts' gs' ∧ SOk (snds ts') ∧ GOk gs' ∧ Q (.bl (decide (snds ts = snds ts' ∧ gs = gs'))) H
theorem scQEq : FnScope ["self", "other"] ["self", "other"] (defScope sQEq) := ⟨rfl, rfl, rfl, by decide +kernel, rfl, by decide +kernel, by decide +kernel⟩
theorem dp_of {H : Hp} {l : Addr} {ts : List (Addr × S5)} (h : Sts H l ts) : Dp K H (.ref l) (.list ((snds ts).map S5.data)) := by
  refine .lst (SqL.of h.1) ?_
  have := dp_sts (K := K) h.2
  show DpAll K H _ ((ts.map fun t => t.2).map S5.data)
  rw [List.map_map]
  exact this
theorem dp_ws {H : Hp} {l : Addr} {gs : List Str} (h : Ws H l gs) : Dp K H (.ref l) (.list (gs.map PyData.str)) := .lst (SqL.of h) (dp_strs gs)
theorem ok_qEq {CQ iQ eQ sQ gQ : Addr} {f : Addr} {fd : FuncData} (F : FnM K "__eq__" "Quarter.__eq__" sQEq f fd) (Z : Klz K mg CQ iQ eQ sQ gQ) (T : Tx K mg) : FnOk P w K mg base CX0 1 f fd ["self", "other"] (spEqQ CQ) := by
  refine F.ok scQEq (fun vs H Q E h => ?_) (fun cdv A outer s H vs Q E hr h => ?_)
  · obtain ⟨_, _, _, _, _, _, _, rfl, _⟩ := h
    rfl
  · obtain ⟨a, y, dx, l, g, ts, gs, rfl, ha, so, go, h⟩ := h
    have gIs := T.fr "isinstance" (by decide +kernel)
    refine ⟨_, PSs.nox (pss_one (ps_ret (pe_and (pe_callB call_isi (by rfl) gIs (by decide +kernel) (pa_cons (pv 1) (pa_cons (C8.pe_gc (v := .ref CQ) (by rfl) ⟨_, Z.mQ, rfl⟩) pa_nil)))
      (pe_and (pe_cmpR (op_eqD hr.units) (pe_fld (pv 0) rfl) (pe_fld (pv 1) rfl) (nomark _)) (pe_one (pe_cmpR (op_eqD hr.units) (pe_fld (pv 0) rfl) (pe_fld (pv 1) rfl) (nomark _))))))), ?_⟩
    obtain ⟨b, dx', l', g', ts', gs', rfl, hb, so', go', q⟩ := h
    · refine ⟨_, rfl, _, _, _, _, _, rfl, .own _, Z.q.ty hb.at_, Z.q.kC, _, rfl, ifT rfl ?_⟩
      refine ⟨_, rfl, a, CQ, dx, _, _, rfl, ha.at_, Z.q.cl, Z.q.n1, rfl, _, rfl, b, CQ, dx', _, _, rfl, hb.at_, Z.q.cl, Z.q.n1, rfl, _, _, dp_of ha.s, dp_of hb.s, sts_shaped so.ok, sts_shaped so'.ok, ?_⟩
      rw [eqv_sts]
      refine ⟨_, rfl, ite2 (fun e => ?_) (fun e => ?_)⟩
      · have e1 := of_decide_eq_true e
        refine ⟨_, rfl, a, CQ, dx, _, _, rfl, ha.at_, Z.q.cl, Z.q.n2, rfl, _, rfl, b, CQ, dx', _, _, rfl, hb.at_, Z.q.cl, Z.q.n2, rfl, _, _, dp_ws ha.g, dp_ws hb.g, strs_shaped go.wd, strs_shaped go'.wd, ?_⟩
        rw [eqv_strs]
        have e2 : decide (gs = gs') = decide (snds ts = snds ts' ∧ gs = gs') := by
          congr 1
          exact propext ⟨fun z => ⟨e1, z⟩, fun z => z.2⟩
        rw [e2]
        exact q
      · have e1 : ¬ (snds ts = snds ts') := fun z => e (decide_eq_true z)
        rw [decide_eq_false (fun z => e1 z.1)] at q
        exact q
end
end K4
end
section
set_option Elab.async false
set_option linter.all false
set_option maxRecDepth 100000
set_option maxHeartbeats 8000000
namespace K4
open PySem PySem.Spec PyProof.Rows L2
/-- a method of the class as it is called -/
def Mz (P : Program) (w : World) (K : PySem.W.Frag) (mg : Str → Option Value) (base : Heap) (C : Addr) (m : Str) (k : Nat) (sp : Sp) : Prop :=
  Cls K C ∧ ∃ (g : Addr) (fd : FuncData), Meth K C m g ∧ FnOk P w K mg base CX0 k g fd ["self"] sp ∧ Binds K fd ["self"] []
section
variable {X : Cx} {m : Str} {k : Nat} {C : Addr} {sp : Sp} {pos apos : Pos} {o : Expr} {ta : TE}
theorem pe_mz {pl : Sem Bool} (Z : Mz X.prog X.w X.K X.mg X.base C m k sp) (he : PE X o ta) (hr : Room k X.A)
    (ht : eval (.Call (.Attribute o m apos) [] [] pos) X.env = (do
      let ov ← eval o X.env
      standAt apos.atName
      let (f, first) ← holding [ov] (getMethod ov m pl)
      callWith pos f first (backTo pos (starEach [] X.env)) (backToKw pos (keywordEach [] X.env))) := by rfl) :
    PE X (.Call (.Attribute o m apos) [] [] pos) (tMeth C m sp [] E0 ta tNil) := by
  obtain ⟨c, g, fd, M, F, b⟩ := Z
  exact pe_meth0 he c M F hr b .nil pass0 ht
end
section
variable {P : Program} {w : World} {K : PySem.W.Frag} {mg : Str → Option Value} {base : Heap}
/-! ### check_quarter, check_town -/
def spIns (C : Addr) : Sp := fun vs H Q _ => ∃ (q dx : Addr) (fs : List (Str × V)), vs = [.ref q] ∧ H q = some (.ins C dx fs) ∧ Q .non H
theorem scChkQ : FnScope ["value"] ["value"] (defScope sChkQuarter) := ⟨rfl, rfl, rfl, by decide +kernel, rfl, by decide +kernel, by decide +kernel⟩
theorem ok_chkQ {CQ iQ eQ : Addr} {f : Addr} {fd : FuncData} (F : FnP K "check_quarter" sChkQuarter f fd) (c : ClsF K CQ iQ eQ) (hm : mg "Quarter" = some (.ref CQ)) (T : Tx K mg) : FnOk P w K mg base CX0 1 f fd ["value"] (spIns CQ) := by
  refine F.ok scChkQ (fun vs H Q E h => ?_) (fun cdv A outer s H vs Q E hr h => ?_)
  · obtain ⟨_, _, _, rfl, _⟩ := h
    rfl
  · obtain ⟨q, dx, fs, rfl, hq, z⟩ := h
    have gIs := T.fr "isinstance" (by decide +kernel)
    refine ⟨_, PSs.nox (pss_one (ps_if (pt_not (pt_val (pe_callB call_isi (by rfl) gIs (by decide +kernel) (pa_cons (pv 0) (pa_cons (C8.pe_gc (v := .ref CQ) (by rfl) ⟨_, hm, rfl⟩) pa_nil))))) (pss_one ps_never) pss_nil)), ?_⟩
    exact ⟨_, rfl, _, _, _, _, _, rfl, .own _, c.ty hq, c.kC, _, rfl, ifF (by decide) z⟩
end
end K4
end
section
set_option Elab.async false
set_option linter.all false
set_option maxRecDepth 100000
set_option maxHeartbeats 4000000
/-! list(reversed(xs)), xs a list: a new list. -/
namespace RT
open PySem PySem.Spec PyProof.Rows
section
variable {prog : Program} {w : World} {A : Around} {E : Value → Shared → Prop} {s : Shared} {R : Result → Shared → Prop}
theorem extend_rev {it l : Addr} {items : Array Value} (hh : A.handled = none) (hit : s.heap.IsRevIter it l ((items.size : Int) - 1)) (hl : s.heap.IsList l items) (hne : l ≠ it) (hn : items.size ≤ sizeLine) (S : Addr) (res : Value) (c₀ : Nat)
    (hSi : S ≠ it) (hSl : S ≠ l) (hS : s.heap.get? S = some { cls := .type "list", data := .seq #[] c₀ })
    (hR : ∀ s' acc' c', Moved [S, it] (fun a b => b = a) s s' → s'.heap.get? S = some { cls := .type "list", dict := none, data := .seq acc' c', slots := #[] } → ItemsOf (fun i v => items[items.size - 1 - i]? = some v) acc' items.size → R (.ok (.ret res)) s') :
    wpAny (model prog w) A.in1 (Builtin.List.listExtendWith (.ref S) (.ref it) res)
      (fun fin s' => match fin with | .done f => R (.ok f) s' | .again c' => c'.quiet = true ∧ codeAny (model prog w) A c' R s') (fun e s' => R (.error e) s') s := by
  have W := (Walks.listRev (prog := prog) (w := w) (A := A.in1) hh it l hne items).toS
  have hSf : S ∉ [it, l] := by simp only [List.mem_cons, List.not_mem_nil, or_false, not_or]; exact ⟨hSi, hSl⟩
  have hT : s.TypeIs (.ref it) "list_reverseiterator" := hit.typeIs
  have h1 : Builtin.List.listSameRef (.ref S) (.ref it) = false := by simp [Builtin.List.listSameRef, hSi]
  unfold Builtin.List.listExtendWith
  refine wpAny_bind (wpAny_typeOf hT ?_)
  rw [if_neg (by rw [h1]; decide)]
  refine wpAny_bind (wpAny_pyIter_revIter hit ?_)
  refine wpAny_bind (wpAny_holding ?_)
  unfold Builtin.List.listLengthHint
  refine wpAny_bind (wpAny_specialOf hT nolen_lri ?_)
  show wpAny _ A.in1 (specialOf (Value.ref it) (Str.ofString "__length_hint__") >>= _) _ _ _
  refine wpAny_bind (wpAny_specialOf hT hint_lri ?_)
  generalize hid : ("list_reverseiterator.__length_hint__" : String) = id0
  wp_delta
  rw [show splitId id0 = some ("list_reverseiterator", "__length_hint__") from by subst hid; decide +kernel]
  subst hid
  refine wpAny_bind (wpAny_isInstance (b := true) hT (by rw [isSubtype_type]; kernel_rfl) ?_)
  refine wpAny_pure ?_
  rw [if_neg (by decide)]
  have e0 : ((items.size : Nat) : Int) - 1 - ((0 : Nat) : Int) = (items.size : Int) - 1 := by omega
  refine wpAny_pure ⟨plainId_quiet F.plain_extend_loop _, codeAny_extend_loopS W hn _ hSf _ items.size 0 _ _ _ rfl (Nat.zero_le _) ⟨Nat.zero_le _, by rw [e0]; exact hit, hl⟩ hS (ItemsOf.nil _) fun s' acc' c' hm hS' hacc => ?_⟩
  exact hR s' acc' c' hm hS' hacc
theorem call_list_rev {it l : Addr} {items : Array Value} {Q : Value → Shared → Prop} (hh : A.handled = none) (hit : s.heap.IsRevIter it l ((items.size : Int) - 1)) (hl : s.heap.IsList l items) (hne : l ≠ it) (hn : items.size ≤ sizeLine)
    (hQ : ∀ (h' : Heap) (tk : Nat) (acc : Array Value) (c : Nat), (∀ b o, b ≠ it → s.heap.get? b = some o → h'.get? b = some o) → h'.get? s.heap.objs.size = some { cls := .type "list", dict := none, data := .seq acc c, slots := #[] } → ItemsOf (fun i v => items[items.size - 1 - i]? = some v) acc items.size →
      Q (.ref s.heap.objs.size) { s with heap := h', toks := tk }) :
    wpAny (model prog w) A (call (.type "list") [.ref it]) Q E s := by
  obtain ⟨oi, hoi, _⟩ := id hit
  obtain ⟨ol, hol, _⟩ := id hl
  have hSi : s.heap.objs.size ≠ it := Nat.ne_of_gt (Heap.lt_size hoi)
  have hSl : s.heap.objs.size ≠ l := Nat.ne_of_gt (Heap.lt_size hol)
  refine callType_codes (Q₁ := fun obj s₁ => obj = .ref s.heap.objs.size ∧ s₁ = { s with heap := s.heap.push { cls := .type "list", data := .seq #[] } }) F.called_list (F.typeCall_list_1 _) F.entry_list_init
    (code_list_new _ ⟨rfl, rfl⟩) fun obj s₁ h₁ => ?_
  obtain ⟨rfl, rfl⟩ := h₁
  have hS : (s.heap.push { cls := .type "list", data := .seq #[] }).get? s.heap.objs.size = some { cls := .type "list", data := .seq #[] } := Heap.get?_push_size _ rfl
  refine ⟨⟨_, hS, rfl⟩, F.args_list_init_2 _ _, ?_⟩
  show wpAny _ A.in1.in1 (do let old ← Builtin.List.listItems (.ref s.heap.objs.size); Builtin.List.listUpdate (.ref s.heap.objs.size) (fun _ => #[]); letGo old.toList.reverse; Builtin.List.listExtendWith (.ref s.heap.objs.size) (.ref it) .none) _ _ _
  refine wpAny_bind ?_
  unfold Builtin.List.listItems
  refine wpAny_bind (wpAny_seqItems hS rfl (wpAny_pure ?_))
  show wpAny _ A.in1.in1 (updateSeq s.heap.objs.size (fun _ => #[]) >>= fun _ => letGo (#[] : Array Value).toList.reverse >>= fun _ => Builtin.List.listExtendWith (.ref s.heap.objs.size) (.ref it) .none) _ _ _
  refine wpAny_bind (wpAny_updateSeq hS rfl ?_)
  have hS₂ := Heap.get?_update_self (Obj.mapSeq (fun _ => (#[] : Array Value))) hS rfl
  have oth : ∀ b o, b ≠ s.heap.objs.size → s.heap.get? b = some o → ((s.heap.push { cls := .type "list", data := .seq #[] }).update s.heap.objs.size (Obj.mapSeq (fun _ => (#[] : Array Value)))).get? b = some o :=
    fun b o hb e => (Heap.get?_update_other _ _ (Ne.symm hb)).trans (Heap.get?_push_of_some _ e)
  refine wpAny_bind (wpAny_letGo ?_)
  have hit1 : ((s.heap.push { cls := .type "list", data := .seq #[] }).update s.heap.objs.size (Obj.mapSeq (fun _ => (#[] : Array Value)))).IsRevIter it l ((items.size : Int) - 1) := hit.at fun o e => oth _ _ (Ne.symm hSi) e
  have hl1 : ((s.heap.push { cls := .type "list", data := .seq #[] }).update s.heap.objs.size (Obj.mapSeq (fun _ => (#[] : Array Value)))).IsList l items := by
    obtain ⟨o, ho, r⟩ := hl
    exact ⟨o, oth _ _ (Ne.symm hSl) ho, r⟩
  refine extend_rev (A := A.in1) (s := { s with heap := (s.heap.push { cls := .type "list", data := .seq #[] }).update s.heap.objs.size (Obj.mapSeq (fun _ => (#[] : Array Value))) }) (R := wants (fun r s₂ => r = .none ∧ Q (.ref s.heap.objs.size) s₂) E) hh hit1 hl1 hne hn _ .none _ hSi hSl hS₂ fun s' acc' c' hm hS' hacc => ?_
  refine ⟨rfl, ?_⟩
  rw [Moved.eq_with hm]
  refine hQ s'.heap s'.toks acc' c' (fun b o hb e => hm.heap b o (fun hmem => ?_) (oth b o ?_ e)) hS' hacc
  · rcases List.mem_cons.mp hmem with e' | hmem
    · exact absurd (Heap.lt_size e) (by rw [e']; exact Nat.lt_irrefl _)
    · exact hb (List.mem_singleton.mp hmem)
  · exact Nat.ne_of_lt (Heap.lt_size e)
end
end RT
namespace L2
open PySem PySem.Spec PyProof.Rows RT
/-- list(reversed(x)), x a list -/
def tLstRev (K : PySem.W.Frag) (te : TE) : TE := fun σ H Q => te σ H fun v H1 => ∃ (a : Addr) (xs : List V), v = .ref a ∧ SqL K H1 a xs ∧ ∀ q, H1 q = none → Q (.ref q) (upd H1 q (.lst xs.reverse))
section
variable {X : Cx}
theorem pe_lstRev {e : Expr} {te : TE} {p p2 pos pos2 : Pos} (hc : X.calm = true) (hg : Gl X "list") (hm : X.mg "list" = none) (hg2 : Gl X "reversed") (hm2 : X.mg "reversed" = none) (he : PE X e te)
    (hs : starEach [e] X.env = (false, eval e X.env) :: starEach [] X.env := by rfl)
    (hs2 : starEach [.Call (.Name "reversed" p2) [e] [] pos2] X.env = (false, eval (.Call (.Name "reversed" p2) [e] [] pos2) X.env) :: starEach [] X.env := by rfl) :
    PE X (.Call (.Name "list" p) [.Call (.Name "reversed" p2) [e] [] pos2] [] pos) (tLstRev X.K te) := by
  refine ⟨fun pins s σ H Q I h => ?_⟩
  refine Call_ (ld_blt I hg hm boot_list (PyProof.Rows.callWith_type1 (args_cons (Call_ (ld_blt I hg2 hm2 PyProof.Rows.boot_reversed (PyProof.Rows.callWith_type1 (args_cons (thn (he.run pins s σ H _ I h) fun u s1 ⟨v, H1, I1, r1, q1⟩ => args_nil ?_) hs) hs rfl))) hs2) hs2 rfl))
  obtain ⟨a, xs, ev, hq, q⟩ := q1
  subst ev
  obtain rfl : u = Value.ref a := r1
  obtain ⟨its, rv, p', hz⟩ := I1.list hq
  refine call_reversed_list p'.isList (args_nil ?_)
  have k0 : ∀ b o, s1.heap.get? b = some o → (s1.heap.push (revObj a ((its.toArray.size : Int) - 1))).get? b = some o := fun b o e => Heap.get?_push_of_some _ e
  have I2 : Inv X pins σ H1 { s1 with heap := s1.heap.push (revObj a ((its.toArray.size : Int) - 1)) } := I1.kept (t' := s1.toks) k0
  obtain ⟨f0, f1, f2, f3, f4, f5⟩ := I1.fpOk (H' := H1) (b := s1.heap.objs.size) (Nat.le_refl _) (I1.hok.fresh (Nat.le_refl _))
  have hl := p'.isList
  obtain ⟨ol, hol, _⟩ := id hl
  have hne : a ≠ s1.heap.objs.size := Nat.ne_of_lt (Heap.lt_size hol)
  have hn : its.toArray.size ≤ sizeLine := by rw [List.size_toArray, ← rv.length]; exact hz
  refine call_list_rev (s := { s1 with heap := s1.heap.push (revObj a ((its.toArray.size : Int) - 1)) }) (I1.ok.hd hc) ⟨_, Heap.get?_push_size _ rfl, rfl, rfl⟩ (hl.push _) hne hn fun h' tk acc c hk hS hi => ?_
  have I3 : Inv X pins σ (upd H1 (s1.heap.push (revObj a ((its.toArray.size : Int) - 1))).objs.size (.lst xs.reverse)) { s1 with heap := h', toks := tk } := by
    refine I2.turnedNew (t' := tk) (ch := [s1.heap.objs.size]) (fun b o hb e => hk b o (fun z => hb (by rw [z]; simp)) e) (fun b hb => ?_) (Nat.le_refl _) ?_
    · rw [List.mem_singleton.mp hb]
      exact ⟨f0, f1, f2, f3, f4, f5⟩
    · exact ⟨by rw [List.length_reverse]; exact hz, acc.toList, c, vals_rev rv hi, by rw [Array.toArray_toList]; exact hS⟩
  exact ⟨.ref _, _, I3, rfl, q _ (I2.hok.fresh (Nat.le_refl _))⟩
end
end L2
end
section
set_option Elab.async false
set_option linter.all false
set_option maxRecDepth 100000
set_option maxHeartbeats 8000000
namespace K4
open PySem PySem.Spec PyProof.Rows L2
theorem kbN {K : PySem.W.Frag} {x qual : Str} {params : Arguments} {body : List Stmt} {scope : Scope} {f : Addr} {fd : FuncData} {ps ks : List Str} {n : Nat} (F : FunD K x qual params body scope [] [] f fd) (g : {α : Type} → List α → List α → List α)
    (hrel : ∀ {vs zs : List V} {us ws : List Value}, Vals vs us → Vals zs ws → Vals (g vs zs) (g us ws))
    (h : ∀ (kV doc pm : Value) (an : Option Addr) (cdv ct : Value) (us ws : List Value), us.length = n → ws.length = ks.length → bindArgs (PySem.W.fnOf x qual params body scope .none kV doc pm an cdv ct) ⟨us, ks.zip ws⟩ = pure (ps.zip (g us ws))) :
    KBn K fd ps n ks (fun us ws => g us ws) (fun vs zs => g vs zs) := by
  obtain ⟨oc, od, dV, kV, doc, pm, an, cdv, ct, osl, rfl, lk, hcd, hD, hK⟩ := F.ex
  rcases hD with ⟨_, rfl⟩ | ⟨e, _⟩
  · exact ⟨fun s us ws _ l1 l2 => .of_eq (h kV doc pm an cdv ct us ws l1 l2), fun r1 r2 => hrel r1 r2⟩
  · exact absurd rfl e
/-- a new quarter of right lists -/
def spQuarter (CQ : Addr) : Sp := fun vs H Q _ => ∃ (l g : Addr) (ts : List (Addr × S5)) (gs : List Str), vs = [.ref l, .ref g] ∧ Sts H l ts ∧ SOk (snds ts) ∧ Ws H g gs ∧ GOk gs ∧
  ∀ q dx l' g' ts' gs' H', Same H H' → H q = none → H l' = none → H g' = none → QuP H' CQ q dx l' g' ts' gs' → ts'.Perm ts → Asc5 (snds ts') → gs'.Perm gs → Asc gs' → Q (.ref q) H'
theorem init_of {CQ : Addr} {H1 : Hp} {vs : List V} {Q : VK} (q : spQuarter CQ vs H1 Q E0) (x dx : Addr) (nx : H1 x = none) (ndx : H1 dx = none) (nex : dx ≠ x) :
    spInitQ CQ (.ref x :: vs) (upd (upd H1 dx (.own x)) x (.ins CQ dx [])) (fun v H2 => v = .non ∧ Q (.ref x) H2) E0 := by
  obtain ⟨l, g, ts, gs, rfl, hl, so, hg, go, q⟩ := q
  have s1 : Same H1 (upd (upd H1 dx (.own x)) x (.ins CQ dx [])) := same_trans (same_upd ndx) (same_upd (by rw [upd_ne (Ne.symm nex)]; exact nx))
  refine ⟨x, dx, l, g, ts, gs, rfl, upd_same, hl.keep s1, so, s1 _ _ hg, go, fun H' l' g' ts' gs' b nl ng hq pt as pg ag => ⟨rfl, ?_⟩⟩
  refine q x dx l' g' ts' gs' H' (fun a o e => b a o (ne_of_none e nx) (s1 _ _ e)) nx (s1.free nl) (s1.free ng) hq pt as pg ag
/-- how a class is made -/
structure MkZ (P : Program) (w : World) (K : PySem.W.Frag) (mg : Str → Option Value) (base : Heap) (x : Str) (C : Addr) (ps : List Str) (ks : List Str) (sp : Sp) : Prop where
  ex : ∃ (f : Addr) (fd : FuncData), Mk K C f ∧ FnOk P w K mg base CX0 6 f fd ps sp ∧ Binds K fd ps []
  mg : mg x = some (.ref C)
section
variable {X : Cx} {x : Str} {C : Addr} {p pos : Pos} {e : Expr} {es : List Expr} {kws : List Keyword} {t tk : TA} {ks : List Str}
theorem pe_qu (Z : MkZ X.prog X.w X.K X.mg X.base "Quarter" C ["self", "streets", "gates"] ks (spInitQ C)) (hr : Room 7 X.A) (hg : Gl X "Quarter") (ha : PA X (e :: es) t)
    (he : starEach (e :: es) X.env = (false, eval e X.env) :: starEach es X.env := by rfl) (hpl : (backTo pos (starEach es X.env)).any (·.1) = false := by rfl) :
    PE X (.Call (.Name "Quarter" p) (e :: es) [] pos) (tCall (spQuarter C) [] E0 t) := by
  obtain ⟨f, fd, M, F, hb⟩ := Z.ex
  refine ⟨fun pins s σ H Q I h => ?_⟩
  refine wpAny_Call_Name_kw (ld_glob I hg Z.mg ?_ (by decide))
  refine PySem.W.callWith_K (h₀ := X.base) I.ok.mod.kin M.kp (thn (ha.run pos pins s σ H _ I h) fun us s1 ⟨vs, H1, I1, r, q⟩ => ⟨I1.kIn, ?_⟩) he hpl
  have q : spQuarter C vs H1 Q E0 := by
    have q' : spQuarter C (vs ++ []) H1 Q E0 := q
    rw [List.append_nil] at q'
    exact q'
  refine run_make M F hr hb (dvs := []) .nil pass0 I1 r fun x dx nx ndx nex => ?_
  rw [List.append_nil]
  exact init_of q x dx nx ndx nex
end
section
variable {P : Program} {w : World} {K : PySem.W.Frag} {mg : Str → Option Value} {base : Heap}
abbrev MkQ (P : Program) (w : World) (K : PySem.W.Frag) (mg : Str → Option Value) (base : Heap) (CQ : Addr) : Prop := MkZ P w K mg base "Quarter" CQ ["self", "streets", "gates"] ["gates", "streets"] (spInitQ CQ)
theorem mkQ_of {CQ f : Addr} {fd : FuncData} (F : FnM K "__init__" "Quarter.__init__" sQInit f fd) (M : Mk K CQ f) (hm : mg "Quarter" = some (.ref CQ)) (G : FnOk P w K mg base CX0 6 f fd ["self", "streets", "gates"] (spInitQ CQ)) : MkQ P w K mg base CQ := by
  exact ⟨⟨f, fd, M, G, FunD.bindsN F fun _ _ _ _ _ _ us hl => match us, hl with | [_, _, _], _ => rfl⟩, hm⟩
end
end K4
end
section
set_option Elab.async false
set_option linter.all false
set_option maxRecDepth 100000
set_option maxHeartbeats 8000000
namespace K4
open PySem PySem.Spec PyProof.Rows L2
/-! ### lists as data -/
theorem dt_sts {H : Hp} : ∀ {ts : List (Addr × S5)}, (∀ t ∈ ts, H t.1 = some (.tup t.2.vals)) → DtAll H (ts.map fun t => V.ref t.1) ((snds ts).map S5.data)
  | [], _ => .nil
  | t :: ts, h => .cons (.tup (h t List.mem_cons_self) (.cons (.str _) (.cons (.str _) (.cons (.str _) (.cons (.int _) (.cons (.int _) .nil)))))) (dt_sts fun u hu => h u (List.mem_cons_of_mem _ hu))
theorem Sts.dt {H : Hp} {l : Addr} {ts : List (Addr × S5)} (h : Sts H l ts) : Dt H (.ref l) (.list ((snds ts).map S5.data)) := .lst h.1 (dt_sts h.2)
theorem dt_strs {H : Hp} : ∀ ws : List Str, DtAll H (ws.map V.str) (ws.map PyData.str)
  | [] => .nil
  | w :: ws => .cons (.str w) (dt_strs ws)
theorem dt_ws {H : Hp} {l : Addr} {gs : List Str} (h : Ws H l gs) : Dt H (.ref l) (.list (gs.map PyData.str)) := .lst h (dt_strs gs)
theorem widAll_sts : ∀ ss : List S5, widAll (ss.map S5.data) ≤ 5
  | [] => by simp [widAll]
  | s :: ss => by
    have ih := widAll_sts ss
    have h : wid s.data ≤ 5 := by simp [S5.data, wid, widAll]
    rw [List.map_cons, widAll]
    omega
theorem widAll_strs : ∀ ws : List Str, widAll (ws.map PyData.str) = 0
  | [] => by simp [widAll]
  | s :: ss => by
    have h : wid (.str s) = 0 := by simp [wid]
    rw [List.map_cons, widAll, widAll_strs ss, h]
    rfl
theorem wid_sts {ss : List S5} (h : ss.length ≤ 1000) : wid (.list (ss.map S5.data)) ≤ 1000 := by
  have := widAll_sts ss
  rw [wid, List.length_map]
  omega
theorem wid_strs {ws : List Str} (h : ws.length ≤ 1000) : wid (.list (ws.map PyData.str)) ≤ 1000 := by
  rw [wid, List.length_map, widAll_strs]
  omega
theorem dep_sts (ss : List S5) : PyData.depth (.list (ss.map S5.data)) ≤ 4 := by
  have := depth_sts ss
  rw [PyData.depth]
  omega
theorem dep_strs (ws : List Str) : PyData.depth (.list (ws.map PyData.str)) ≤ 4 := by
  have := depth_strs ws
  rw [PyData.depth]
  omega
theorem dep_two {a b : PyData} (ha : PyData.depth a ≤ 4) (hb : PyData.depth b ≤ 4) : PyData.depth (.list [a, b]) ≤ 5 := by
  simp only [PyData.depth, PyData.depthAll]
  omega
theorem dep_three {a b c : PyData} (ha : PyData.depth a ≤ 4) (hb : PyData.depth b ≤ 4) (hc : PyData.depth c ≤ 4) : PyData.depth (.list [a, b, c]) ≤ 5 := by
  simp only [PyData.depth, PyData.depthAll]
  omega
theorem wid_two {a b : PyData} (ha : wid a ≤ 1000) (hb : wid b ≤ 1000) : wid (.list [a, b]) ≤ 1000 := by
  simp only [wid, widAll, List.length_cons, List.length_nil]
  omega
theorem wid_three {a b c : PyData} (ha : wid a ≤ 1000) (hb : wid b ≤ 1000) (hc : wid c ≤ 1000) : wid (.list [a, b, c]) ≤ 1000 := by
  simp only [wid, widAll, List.length_cons, List.length_nil]
  omega
/-- q is the quarter of these -/
structure IsQ (H : Hp) (CQ q : Addr) (ss : List S5) (gs : List Str) : Prop where
  ex : ∃ dx l g ts hs, QuP H CQ q dx l g ts hs ∧ (snds ts).Perm ss ∧ Asc5 (snds ts) ∧ hs.Perm gs ∧ Asc hs
  so : SOk ss
  go : GOk gs
theorem IsQ.keep {H H' : Hp} {CQ q : Addr} {ss : List S5} {gs : List Str} (h : IsQ H CQ q ss gs) (s : Same H H') : IsQ H' CQ q ss gs := by
  obtain ⟨⟨dx, l, g, ts, hs, a, r⟩, so, go⟩ := h
  exact ⟨⟨dx, l, g, ts, hs, a.keep s, r⟩, so, go⟩
theorem SOk.perm {ss ss' : List S5} (h : SOk ss) (p : ss'.Perm ss) : SOk ss' := ⟨fun s hs => h.ok s (p.mem_iff.mp hs), (p.map S5.nm).nodup_iff.mpr h.nd, by rw [p.length_eq]; exact h.l⟩
theorem GOk.perm {gs gs' : List Str} (h : GOk gs) (p : gs'.Perm gs) : GOk gs' := ⟨fun s hs => h.wd s (p.mem_iff.mp hs), p.nodup_iff.mpr h.nd, fun e => h.ne (by rw [e] at p; exact p.symm.eq_nil), by rw [p.length_eq]; exact h.l⟩
theorem asc5_eq {ss ss' ts ts' : List S5} (so : SOk ss) (so' : SOk ss') (p : ts.Perm ss) (p' : ts'.Perm ss') (a : Asc5 ts) (a' : Asc5 ts') : ts = ts' ↔ ss.Perm ss' := by
  constructor
  · intro e
    exact p.symm.trans (by rw [e]; exact p')
  · intro h
    exact asc5_uniq (so.perm p).nd (p.trans (h.trans p'.symm)) a a'
theorem asc_eq {ss ss' ts ts' : List Str} (p : ts.Perm ss) (p' : ts'.Perm ss') (a : Asc ts) (a' : Asc ts') : ts = ts' ↔ ss.Perm ss' := by
  constructor
  · intro e
    exact p.symm.trans (by rw [e]; exact p')
  · intro h
    exact asc_uniq (p.trans (h.trans p'.symm)) a a'
theorem at_map {α : Type} {g : α → V} {l : List α} {i : Nat} {x : V} (h : (l.map g)[i]? = some x) : ∃ t, l[i]? = some t ∧ x = g t := by
  rw [List.getElem?_map] at h
  cases e : l[i]? with
  | none =>
    rw [e] at h
    cases h
  | some t =>
    rw [e] at h
    cases h
    exact ⟨t, rfl, rfl⟩
/-- [x for x in ws if x not in (an expression)] -/
theorem lc_notinE {K : PySem.W.Frag} {J : It} {G : Hp → Prop} {ws bs : List Str} (wk : Walk J ws.length G (YAt (ws.map V.str))) {σ : L2.St} {i : Nat} {F D : Addr} {H1 : Hp} {Qd : Hp → Prop} {tb : TE} (nD : H1 D = none) (hG : ∀ H', Same H1 H' → G H')
    (hF : Ws H1 F bs) (hl : ws.length ≤ 1000) (hi : ∀ v, ((wipe σ [i]).set i (some v))[i]? = some (some v)) (hb : ∀ v H' Q, Same H1 H' → Q (.ref F) H' → tb ((wipe σ [i]).set i (some v)) H' Q) (hw : ∀ v, wipe ((wipe σ [i]).set i (some v)) [i] = wipe σ [i])
    (fin : ∀ H', Same H1 H' → Ws H' D (ws.filter fun x => decide (x ∉ bs)) → Qd H') :
    ∃ W : Nat → Nat → Hp → Prop, (∃ m, W 0 m (upd H1 D (.lst []))) ∧ ∀ n m H, W n m H →
      (J.stop n H ∧ Qd H) ∨ (J.go n H ∧ ∃ Nx : Hp → Prop, (∀ H', Nx H' → ∃ m', m' < m ∧ W (n + 1) m' H') ∧ ∀ x H', J.yld n H x H' → gName i x (wipe σ [i]) H' fun σ2 H2 => wipe σ2 [i] = wipe σ [i] ∧ tTest (tOp (rIn K true) (tVar i) tb) σ2 H2 fun b H3 =>
        if b = true then tVar i σ2 H3 fun y H4 => ∃ acc, H4 D = some (.lst acc) ∧ acc.length < sizeLine ∧ Nx (upd H4 D (.lst (acc ++ [y]))) else Nx H3) := by
  have sl := sizeLine_eq
  refine lc_it wk (fun n H' => Same H1 H' ∧ H' D = some (.lst (((ws.take n).filter fun x => decide (x ∉ bs)).map V.str))) ⟨same_upd nD, upd_same⟩ (fun n H' _ h => hG H' h.1) ?_ ?_
  · rintro n x H' H2 hn ⟨s1, hD⟩ ⟨rfl, hx⟩
    obtain ⟨c, hc, rfl⟩ := at_map hx
    have et : ws.take (n + 1) = ws.take n ++ [c] := by
      rw [List.take_add_one, hc]
      rfl
    have ll : ((ws.take n).filter fun x => decide (x ∉ bs)).length ≤ n := Nat.le_trans (List.length_filter_le _ _) (by rw [List.length_take]; omega)
    refine ⟨hw _, _, hi _, hb _ _ _ s1 ⟨F, bs.map V.str, rfl, Or.inl (SqL.of (s1 _ _ hF)), rfl, flat_strs bs, _, rfl, ?_⟩⟩
    rw [inV_str]
    by_cases hb : c ∈ bs
    · refine ifF (by show ¬ (!decide (c ∈ bs)) = true; rw [decide_eq_true hb]; decide) ⟨s1, ?_⟩
      rw [et, List.filter_append]
      simp [hD, hb]
    · refine ifT (by show (!decide (c ∈ bs)) = true; rw [decide_eq_false hb]; rfl) ⟨_, hi _, _, hD, by rw [List.length_map]; omega, fun b o eb => ?_, ?_⟩
      · rw [upd_ne (ne_of_none eb nD)]
        exact s1 _ _ eb
      · rw [upd_same, et, List.filter_append]
        simp [hb]
  · rintro H' ⟨s1, hD⟩
    rw [List.take_length] at hD
    exact fin H' s1 hD
/-- a world at W whose parts aren't the purse -/
structure WoP (H : Hp) (p W ls lg lc ln : Addr) (ts : List (Addr × S5)) (gs cs ns : List Str) : Prop where
  at_ : H W = some (.lst [.ref ls, .ref lg, .ref lc, .ref ln])
  wo : Wo H ls lg lc ln ts gs cs ns
  nW : W ≠ p
  ns_ : ls ≠ p
  ng : lg ≠ p
  nc : lc ≠ p
  nn : ln ≠ p
theorem Sts.but {H H' : Hp} {p l : Addr} {ts : List (Addr × S5)} (h : Sts H l ts) (b : But p H H') (nl : l ≠ p) (hp : ∃ xs, H p = some (.lst xs)) : Sts H' l ts := by
  refine ⟨b _ _ nl h.1, fun t ht => b _ _ (fun e => ?_) (h.2 t ht)⟩
  obtain ⟨xs, hp⟩ := hp
  have e1 := h.2 t ht
  rw [e, hp] at e1
  cases e1
theorem WoP.but {H H' : Hp} {p W ls lg lc ln : Addr} {ts : List (Addr × S5)} {gs cs ns : List Str} (h : WoP H p W ls lg lc ln ts gs cs ns) (b : But p H H') (hp : ∃ xs, H p = some (.lst xs)) : WoP H' p W ls lg lc ln ts gs cs ns := by
  obtain ⟨h1, ⟨s, g, c, n, r1, r2, r3, r4, r5, r6, r7, r8, r9, r10⟩, a, a1, a2, a3, a4⟩ := h
  exact ⟨b _ _ a h1, ⟨s.but b a1 hp, b _ _ a2 g, b _ _ a3 c, b _ _ a4 n, r1, r2, r3, r4, r5, r6, r7, r8, r9, r10⟩, a, a1, a2, a3, a4⟩
theorem WoP.keep {H H' : Hp} {p W ls lg lc ln : Addr} {ts : List (Addr × S5)} {gs cs ns : List Str} (h : WoP H p W ls lg lc ln ts gs cs ns) (b : Same H H') : WoP H' p W ls lg lc ln ts gs cs ns := by
  obtain ⟨h1, ⟨s, g, c, n, r1, r2, r3, r4, r5, r6, r7, r8, r9, r10⟩, a, a1, a2, a3, a4⟩ := h
  exact ⟨b _ _ h1, ⟨s.keep b, b _ _ g, b _ _ c, b _ _ n, r1, r2, r3, r4, r5, r6, r7, r8, r9, r10⟩, a, a1, a2, a3, a4⟩
theorem Pu.lst {H : Hp} {p : Addr} {n : Int} (h : Pu H p n) : ∃ xs, H p = some (.lst xs) := by
  obtain ⟨xs, h, _⟩ := h
  exact ⟨xs, h⟩
theorem Wo.gnd {H : Hp} {ls lg lc ln : Addr} {ts : List (Addr × S5)} {gs cs ns : List Str} (h : Wo H ls lg lc ln ts gs cs ns) : gs.Nodup ∧ (∀ x ∈ gs, x ∈ cs) ∧ gs ≠ [] ∧ gs.length ≤ 5 := by
  obtain ⟨k, k1, k5, kc, rfl⟩ := h.gp
  refine ⟨(List.take_sublist _ _).nodup h.cd, fun x hx => List.mem_of_mem_take hx, fun e => ?_, by rw [List.length_take]; omega⟩
  have := congrArg List.length e
  rw [List.length_take, List.length_nil] at this
  omega
theorem Wo.sok {H : Hp} {ls lg lc ln : Addr} {ts : List (Addr × S5)} {gs cs ns : List Str} (h : Wo H ls lg lc ln ts gs cs ns) : SOk (snds ts) := by
  refine ⟨fun s hs => ?_, ?_, ?_⟩
  · obtain ⟨t, ht, rfl⟩ := List.mem_map.mp hs
    exact (h.ok t ht).1
  · rw [← nms_snds]
    exact h.nd
  · have := h.l2
    have := h.l3
    rw [List.length_map]
    omega
theorem Wo.gok {H : Hp} {ls lg lc ln : Addr} {ts : List (Addr × S5)} {gs cs ns : List Str} (h : Wo H ls lg lc ln ts gs cs ns) : GOk gs := by
  obtain ⟨h1, h2, h3, h4⟩ := h.gnd
  exact ⟨fun x hx => h.cw x (h2 x hx), h1, h3, by omega⟩
theorem nodup_filter_app {α : Type} [DecidableEq α] {cs ws : List α} (h1 : cs.Nodup) (h2 : ws.Nodup) : (cs ++ ws.filter fun x => decide (x ∉ cs)).Nodup :=
  List.nodup_append.mpr ⟨h1, List.filter_sublist.nodup h2, fun x hx y hy e => by
    subst e
    exact of_decide_eq_true (List.mem_filter.mp hy).2 hx⟩
section
variable {P : Program} {w : World} {K : PySem.W.Frag} {mg : Str → Option Value} {base : Heap}
/-- the quarter's part of a world -/
structure Wq (H : Hp) (W ls lg : Addr) (ts : List (Addr × S5)) (gs : List Str) : Prop where
  at_ : ∃ x y, H W = some (.lst [.ref ls, .ref lg, .ref x, .ref y])
  s : Sts H ls ts
  g : Ws H lg gs
  so : SOk (snds ts)
  go : GOk gs
theorem Wq.keep {H H' : Hp} {W ls lg : Addr} {ts : List (Addr × S5)} {gs : List Str} (h : Wq H W ls lg ts gs) (b : Same H H') : Wq H' W ls lg ts gs := by
  obtain ⟨⟨x, y, h1⟩, h2, h3, h4, h5⟩ := h
  exact ⟨⟨x, y, b _ _ h1⟩, h2.keep b, b _ _ h3, h4, h5⟩
theorem WoP.wq {H : Hp} {p W ls lg lc ln : Addr} {ts : List (Addr × S5)} {gs cs ns : List Str} (h : WoP H p W ls lg lc ln ts gs cs ns) : Wq H W ls lg ts gs := ⟨⟨_, _, h.at_⟩, h.wo.s, h.wo.g, h.wo.sok, h.wo.gok⟩
/-! ### _law_quarter -/
def spLQuarter (CQ : Addr) : Sp := fun vs H Q _ => ∃ (W ls lg : Addr) (ts : List (Addr × S5)) (gs : List Str), vs = [.ref W] ∧ Wq H W ls lg ts gs ∧ ∀ q H', Same H H' → H q = none → IsQ H' CQ q (snds ts) gs → Q (.ref q) H'
theorem scLQuarter : FnScope ["_law_world_here"] ["_law_world_here"] (defScope sQuarter) := ⟨rfl, rfl, rfl, by decide +kernel, rfl, by decide +kernel, by decide +kernel⟩
theorem ok_lQuarter {CQ : Addr} {f : Addr} {fd : FuncData} (F : FnP K "_law_quarter" sQuarter f fd) (M : MkQ P w K mg base CQ) (T : Tx K mg) : FnOk P w K mg base CX0 8 f fd ["_law_world_here"] (spLQuarter CQ) := by
  refine F.ok scLQuarter (fun vs H Q E h => ?_) (fun cdv A outer s H vs Q E hr h => ?_)
  · obtain ⟨_, _, _, _, _, rfl, _⟩ := h
    rfl
  · obtain ⟨W, ls, lg, ts, gs, rfl, hW, q⟩ := h
    have gLi := T.fr "list" (by decide +kernel)
    refine ⟨_, PSs.nox (pss_one (ps_ret (pe_qu M hr (by rfl) (pa_cons (pe_callTy call_list_of (by rfl) gLi (by decide +kernel) (pa_cons (pe_ix ix_list (pv 0) pe_int (fun _ _ => rfl)) pa_nil)) (pa_cons (pe_callTy call_list_of (by rfl) gLi (by decide +kernel) (pa_cons (pe_ix ix_list (pv 0) pe_int (fun _ _ => rfl)) pa_nil)) pa_nil))))), ?_⟩
    obtain ⟨⟨x, y, h0⟩, hs, hg, so, go⟩ := hW
    refine ⟨_, rfl, W, _, ((0 : Nat) : Int), _, rfl, rfl, SqL.of h0, atI_nat rfl, ls, _, rfl, Or.inl (SqL.of hs.1), fun D1 n1 => ?_⟩
    have s1 := same_upd (o := .lst (ts.map fun t => V.ref t.1)) n1
    have h1 : Sts (upd H D1 (.lst (ts.map fun t => V.ref t.1))) D1 ts := ⟨upd_same, fun t ht => s1 _ _ (hs.2 t ht)⟩
    generalize upd H D1 (.lst (ts.map fun t => V.ref t.1)) = H1 at s1 h1 ⊢
    refine ⟨_, rfl, W, _, ((1 : Nat) : Int), _, rfl, rfl, SqL.of (s1 _ _ h0), atI_nat rfl, lg, _, rfl, Or.inl (SqL.of (s1 _ _ hg)), fun D2 n2 => ?_⟩
    have s2 := same_upd (o := .lst (gs.map V.str)) n2
    have h2 : Ws (upd H1 D2 (.lst (gs.map V.str))) D2 gs := upd_same
    generalize upd H1 D2 (.lst (gs.map V.str)) = H2 at s2 h2 ⊢
    have s02 := same_trans s1 s2
    exact ⟨D1, D2, ts, gs, rfl, h1.keep s2, so, h2, go, fun q' dx l' g' ts' gs' H' s3 nq _ _ hq pt as pg ag => q q' H' (same_trans s02 s3) (s02.free nq) ⟨⟨dx, l', g', ts', gs', hq, pt.map fun t => t.2, as, pg, ag⟩, so, go⟩⟩
/-! ### == of quarters -/
structure EqZ (P : Program) (w : World) (K : PySem.W.Frag) (mg : Str → Option Value) (base : Heap) (CQ : Addr) : Prop where
  ex : ∃ (iQ eQ sQ gQ : Addr) (fQ : FuncData), Klz K mg CQ iQ eQ sQ gQ ∧ FnOk P w K mg base CX0 1 eQ fQ ["self", "other"] (spEqQ CQ) ∧ Binds K fQ ["self", "other"] []
end
def rQq (CQ : Addr) (neg : Bool) : R2 := fun x y H Q => ∃ (a b : Addr) (ss ss' : List S5) (gs gs' : List Str), x = .ref a ∧ y = .ref b ∧ IsQ H CQ a ss gs ∧ IsQ H CQ b ss' gs' ∧ ∀ k : Bool, (k = true ↔ ss.Perm ss' ∧ gs.Perm gs') → Q (.bl (k != neg)) H
theorem first_self {K : PySem.W.Frag} {C : Addr} : PySem.W.notFirst K C (.ref C) = true := by simp [PySem.W.notFirst]
theorem eq_qq {P : Program} {w : World} {K : PySem.W.Frag} {mg : Str → Option Value} {base : Heap} {CQ iQ eQ sQ gQ : Addr} (Z : Klz K mg CQ iQ eQ sQ gQ) {H : Hp} {x y : V} {Q : VK} {neg : Bool} (h : rQq CQ neg x y H Q) : rOwnEq K CQ (spEqQ CQ) E0 neg x y H Q := by
  obtain ⟨b1, b2, ss, ss2, gs, gs2, rfl, rfl, h, h2, q⟩ := h
  obtain ⟨⟨dx, l, g, ts, hs, hq, pt, as, pg, ag⟩, so, go⟩ := h
  have so' := so.perm pt
  have go' := go.perm pg
  obtain ⟨⟨dx2, l2, g2, ts2, hs2, hq2, pt2, as2, pg2, ag2⟩, so2, go2⟩ := h2
  refine .inl ⟨_, _, _, _, rfl, hq.at_, .ins hq2.at_, first_self, _, _, _, _, _, _, _, rfl, hq, so', go', _, _, _, _, _, _, rfl, hq2, so2.perm pt2, go2.perm pg2, _, rfl, q _ ?_⟩
  rw [decide_eq_true_eq, asc5_eq so so2 pt pt2 as as2, asc_eq pg pg2 ag ag2]
section
variable {X : Cx} {CQ : Addr}
theorem op_qEq (Z : EqZ X.prog X.w X.K X.mg X.base CQ) (hr : Room 1 X.A) : OpR X (compareOp .Eq) (rQq CQ false) := by
  obtain ⟨iQ, eQ, sQ, gQ, fQ, k, F1, b1⟩ := Z.ex
  intro pins s σ H x y v u Q I rx ry h
  exact (op_ownEq F1 k.q.ow b1 pass0 hr) pins s σ H x y v u Q I rx ry (eq_qq (P := X.prog) (w := X.w) (mg := X.mg) (base := X.base) k h)
theorem op_qNe (Z : EqZ X.prog X.w X.K X.mg X.base CQ) (hr : Room 2 X.A) : OpR X (compareOp .NotEq) (rQq CQ true) := by
  obtain ⟨iQ, eQ, sQ, gQ, fQ, k, F1, b1⟩ := Z.ex
  intro pins s σ H x y v u Q I rx ry h
  exact (op_ownNe F1 k.q.ow b1 pass0 hr) pins s σ H x y v u Q I rx ry (eq_qq (P := X.prog) (w := X.w) (mg := X.mg) (base := X.base) k h)
end
end K4
end
section
set_option Elab.async false
set_option linter.all false
set_option maxRecDepth 100000
set_option maxHeartbeats 4000000
/-! Own rules: an own exception class with an own __init__, called with positional values and keywords, its object kept as a value. -/
namespace PySem
namespace Xv
open PySem.W PySem.Calls PyProof.Rows PySem.HandSPX
section
variable {M : Model} {A : Around} {E : Value → Shared → Prop} {hp : Heap} {gs : Array GenState} {dr : Drawn} {tk : Nat} {os : OsState}
variable {nm q : Str} {C N : Addr} {bs bm bmB : List Value} {hdct : Bool} {sn : List Str} {sub : List Value} {ab : Bool} {col : Option Bool} {dd : Option Addr} {k0 k1 k2 k3 k5 : Option Value} {B nI iI : String}
theorem kw_check (F : ExcBaseFacts B nI iI bmB) (hT : ∀ T : String, bm.contains (.type T) = bmB.contains (.type T)) {rest : List Value} {kw : List (Str × Value)} {Q : Unit → Shared → Prop}
    (hC : hp.get? C = some (excClassObj nm q C N bs bm hdct sn sub ab col dd k0 k1 k2 k3 k5 nI)) (z : Q () ⟨hp, gs, dr, tk, os⟩) : wpAny M A (checkBuiltinCall nI ⟨.ref C :: rest, kw⟩) Q E ⟨hp, gs, dr, tk, os⟩ := by
  have c1 : (Value.ref C :: bm).contains (.type B) = true := by rw [List.contains_cons, hT, F.hasB, Bool.or_true]
  have c2 := F.noStar
  simp only [checkBuiltinCall, F.newKind, F.newSplit, F.newRow]
  repeat (first
    | refine wpAny_loadPart_at hC ?_
    | (refine wpAny_isSubtype_exc hC ?_; rw [c1])
    | refine wpAny_staticBase_exc hC ?_
    | refine wpAny_madeBy_exc hC ?_
    | simp only [bne_self_eq_false, Bool.false_eq_true, if_false]
    | wp_step)
  exact z
theorem kw_tcheck {rest : List Value} {kw : List (Str × Value)} {Q : Unit → Shared → Prop} (hC : hp.get? C = some (excClassObj nm q C N bs bm hdct sn sub ab col dd k0 k1 k2 k3 k5 nI))
    (z : Q () ⟨hp, gs, dr, tk, os⟩) : wpAny M A (checkBuiltinCall "type.__call__" ⟨.ref C :: rest, kw⟩) Q E ⟨hp, gs, dr, tk, os⟩ := by
  have f3 := tc_sub
  have hTy : (⟨hp, gs, dr, tk, os⟩ : Shared).TypeIs (.ref C) "type" := ⟨_, hC, rfl⟩
  simp only [checkBuiltinCall, tc_kind, tc_split]
  repeat (any_goals (first
    | assumption
    | with_reducible refine wpAny_loadPart_at hC ?_
    | with_reducible refine wpAny_onRaise ?_
    | with_reducible refine wpAny_map ?_
    | wp_step))
end
section
variable {prog : Program} {w : World} {A : Around} {E : Value → Shared → Prop} {R : Result → Shared → Prop} {hp : Heap} {gs : Array GenState} {dr : Drawn} {tk : Nat} {os : OsState}
variable {nm q : Str} {C N : Addr} {bs bm bmB : List Value} {hdct : Bool} {sn : List Str} {sub : List Value} {ab : Bool} {col : Option Bool} {dd : Option Addr} {k0 k1 k2 k3 k5 : Option Value} {B nI iI : String}
/-- the new object, whatever the keywords -/
theorem kw_new (F : ExcBaseFacts B nI iI bmB) (hT : ∀ T : String, bm.contains (.type T) = bmB.contains (.type T)) {rest : List Value} {kw : List (Str × Value)}
    (hC : hp.get? C = some (excClassObj nm q C N bs bm hdct sn sub ab col dd k0 k1 k2 k3 k5 nI)) (hl : rest.length ≤ sizeLine)
    (z : R (.ok (.ret (.ref (hp.objs.size + 1)))) ⟨(hp.push (W.kdv_tup rest)).push (excO C hp.objs.size), gs, dr, tk, os⟩) :
    codeAny (model prog w) A (.builtin nI ⟨.ref C :: rest, kw⟩) R ⟨hp, gs, dr, tk, os⟩ := by
  have e0 := F.ends
  have c1 : (Value.ref C :: bm).contains (.type B) = true := by rw [List.contains_cons, hT, F.hasB, Bool.or_true]
  have c2 : (Value.ref C :: bm).contains (.type "AttributeError") = false := by rw [List.contains_cons, hT, F.noAttr]; rfl
  have c3 : (Value.ref C :: bm).contains (.type "NameError") = false := by rw [List.contains_cons, hT, F.noName]; rfl
  refine codeAny_builtinAt F.entry ?_
  unfold Builtin.«BaseException.__new__»
  refine wpAt_bind ?_
  show wpAt _ _ _ (stack >>= _) _ _ _
  refine wpAt_bind (wpAt_stack fun p below => wpAt_of_wpAny ?_)
  wp_walk
  refine wpAt_of_wpAny ?_
  rw [F.owner]
  repeat (first
    | with_reducible refine wpAny_madeHere_exc F.canon hC ?_
    | with_reducible refine wpAny_loadPart_at hC ?_
    | (with_reducible refine wpAny_isSubtype_exc hC ?_; first | rw [c1] | rw [c2] | rw [c3])
    | wp_step)
  show R _ _
  rw [Heap.size_push]
  exact z
theorem kw_type (F : ExcBaseFacts B nI iI bmB) (hT : ∀ T : String, bm.contains (.type T) = bmB.contains (.type T)) {rest : List Value} {kw : List (Str × Value)} {fI : Addr} {Q : Fin → Shared → Prop}
    (hC : hp.get? C = some (excClassObj nm q C N bs bm hdct sn sub ab col dd k0 k1 k2 k3 k5 nI)) (hl : rest.length ≤ sizeLine)
    (li : W.Looks (model prog w) hp (typeLookup (.ref C) "__init__") (some (.ref fI))) (lb : ∀ x, W.Looks (model prog w) hp (bindSpecial (.ref fI) x) (.ref fI, [x]))
    (z : codeAny (model prog w) A (.call (.ref fI) ⟨.ref (hp.objs.size + 1) :: rest, kw⟩)
      (fun r s' => match r with | .ok (.ret v) => v = .none ∧ Q (.done (.ret (.ref (hp.objs.size + 1)))) s' | .ok _ => False | .error e => E e s')
      ⟨(hp.push (W.kdv_tup rest)).push (excO C hp.objs.size), gs, dr, tk, os⟩) :
    wpAny (model prog w) A (Builtin.«type.__call__» ⟨.ref C :: rest, kw⟩) Q E ⟨hp, gs, dr, tk, os⟩ := by
  repeat (first
    | with_reducible refine wpAny_loadPart_at hC ?_
    | with_reducible refine wpAny_madeBy_exc hC ?_
    | wp_step)
  refine codeAny_call_builtin_code (Code.quiet_builtin _ F.quiet) (kw_check F hT hC (kw_new F hT hC hl ?_))
  show wpAny _ _ _ _ _ _
  have kk : ∀ b o, hp.get? b = some o → ((hp.push (W.kdv_tup rest)).push (excO C hp.objs.size)).get? b = some o := fun b o e => Heap.get?_push_of_some _ (Heap.get?_push_of_some _ e)
  have hC2 := kk _ _ hC
  have hG : ((hp.push (W.kdv_tup rest)).push (excO C hp.objs.size)).get? (hp.objs.size + 1) = some (excO C hp.objs.size) := by heap_get
  have c4 : (Value.ref C :: bm).contains (.ref C) = true := by simp
  have li2 := li.keeps kk
  have lb2 := (lb (.ref (hp.objs.size + 1))).keeps kk
  unfold isInstance
  repeat (first
    | with_reducible refine wpAny_loadPart_at hG ?_
    | (with_reducible refine wpAny_isSubtype_exc hC2 ?_; rw [c4])
    | wp_step)
  show wpAny _ _ (typeLookup (.ref C) _) _ _ _
  refine li2.at (wpAny_holding (wpAny_bind (lb2.at (wpAny_bind (wpAny_call (codeAny_mono z fun r s' y => ?_))))))
  rcases r with e | (v | _ | _ | _) <;> first | exact y | exact y.elim | skip
  obtain ⟨rfl, y⟩ := y
  first
    | exact wpAny_pure (wpAny_pure y)
    | (wp_walk; exact y)
theorem kw_call (F : ExcBaseFacts B nI iI bmB) (hT : ∀ T : String, bm.contains (.type T) = bmB.contains (.type T)) {rest : List Value} {kw : List (Str × Value)} {fI : Addr}
    (hC : hp.get? C = some (excClassObj nm q C N bs bm hdct sn sub ab col dd k0 k1 k2 k3 k5 nI)) (hl : rest.length ≤ sizeLine)
    (li : W.Looks (model prog w) hp (typeLookup (.ref C) "__init__") (some (.ref fI))) (lb : ∀ x, W.Looks (model prog w) hp (bindSpecial (.ref fI) x) (.ref fI, [x]))
    (z : codeAny (model prog w) (A.under (.builtin "type.__call__" ⟨.ref C :: rest, kw⟩)) (.call (.ref fI) ⟨.ref (hp.objs.size + 1) :: rest, kw⟩) (W.InitBack (hp.objs.size + 1) R)
      ⟨(hp.push (W.kdv_tup rest)).push (excO C hp.objs.size), gs, dr, tk, os⟩) :
    codeAny (model prog w) A (.call (.ref C) ⟨rest, kw⟩) R ⟨hp, gs, dr, tk, os⟩ := by
  have f1 := tc_lookup
  have f2 := tc_bind (.ref C)
  have hTy : (⟨hp, gs, dr, tk, os⟩ : Shared).TypeIs (.ref C) "type" := ⟨_, hC, rfl⟩
  refine codeAny_of_tree ?_
  show wpAny _ _ (callAny (.ref C) _) _ _ _
  repeat (any_goals (first
    | assumption
    | with_reducible refine wpAny_loadPart_at hC ?_
    | wp_step))
  refine ⟨rfl, ?_⟩
  refine codeAny_call_builtin_at (Code.quiet_builtin _ (by decide +kernel)) entry_typeCall ?_
  refine kw_tcheck hC (kw_type F hT hC hl li lb (codeAny_mono z fun r s' y => ?_))
  rcases r with e | (v | _ | _ | _) <;> exact y
end
end Xv
end PySem
end
section
set_option Elab.async false
set_option linter.all false
set_option maxRecDepth 100000
set_option maxHeartbeats 4000000
namespace PySem.Xv
open PySem PySem.W PySem.Spec PySem.Calls PyProof.Rows
section
variable {prog : Program} {w : World} {A : Around} {E : Value → Shared → Prop} {s : Shared} {K : Frag} {x D : Addr} {ox : Obj} {od : Option Obj}
/-- x.__class__ of an exception of the class at D, its dict made or not -/
theorem cls_of {Q : Option Value → Shared → Prop} (g1 : findIn K (.ref D) "__getattribute__" = some (some (.builtin "BaseException.__getattribute__"))) (g2 : findIn K (.ref D) "__getattr__" = some none)
    (g3 : subIn K (.ref D) (.type "BaseException") = some true) (g4 : hasDictIn K D = true) (g5 : findIn K (.ref D) "__class__" = some (some (.builtin "object.__class__")))
    (g6 : specialIn K (.builtin "object.__class__") "__get__" = some (some (.builtin "getset_descriptor.__get__"))) (g7 : takesIn K (.builtin "object.__class__") = some true) (g8 : mroIn K D (.type "object") = some true)
    (X : K.In s.heap) (I : InstAt s.heap x ox D od) (z : Q (some (.ref D)) { s with toks := s.toks + 1 }) : wpAny (model prog w) A (getAttr? (.ref x) "__class__") Q E s := by
  have ff : findObj K D od "__class__" = some (.bind (.builtin "getset_descriptor.__get__") (.builtin "object.__class__")) := by
    obtain ⟨cd, hc, _⟩ := any_some g4
    unfold findObj
    rw [hc, Option.bind_some, g5, Option.bind_some]
    simp [g6, g7]
  obtain ⟨hp, gs, dr, tk, os⟩ := s
  have l0 := I.type (M := model prog w)
  have l1 := looks_findIn (M := model prog w) X g1
  have l2 := looks_findIn (M := model prog w) X g2
  have l3 := looks_find (M := model prog w) X I ff
  have lb : Looks (model prog w) hp (isInstance (.ref x) (.type "BaseException")) true := l0.andThen (looks_subIn X g3)
  have n0 : (false && onTheHeap (Value.builtin "BaseException.__getattribute__")) = false := rfl
  have n2 : (Value.builtin "BaseException.__getattribute__" == Value.builtin "object.__getattribute__") = false := by decide +kernel
  have n1 : (onTheHeap (Value.ref D) && Value.builtin "BaseException.__getattribute__" == Value.builtin "object.__getattribute__") = false := by
    rw [n2]
    rfl
  unfold getAttr? getAttrBy? getAttrBy
  refine wpAny_bind (wpAny_mkText (wpAny_bind (wpAny_attempt (wpAny_holding (wpAny_bind (l0.at (wpAny_bind (l1.at ?_))))))))
  show wpAny _ _ (if (onTheHeap (Value.ref D) && Value.builtin "BaseException.__getattribute__" == Value.builtin "object.__getattribute__") = true then _ else _) _ _ _
  rw [n1, if_neg Bool.false_ne_true]
  unfold getAttrByItsOwn hookBefore
  refine wpAny_bind ?_
  rw [if_pos (show onTheHeap (Value.ref D) = true from rfl)]
  refine l2.at (wpAny_bind (wpAny_attempt (wpAny_holding ?_)))
  unfold callGetattribute
  rw [n0, if_neg Bool.false_ne_true]
  unfold boundAndCalled
  rw [PySem.F.excAttr_ValueError.ga.bind (.ref x)]
  refine wpAny_bind (wpAny_pure ?_)
  show wpAny _ _ (call (.builtin "BaseException.__getattribute__") [.ref x, .str "__class__" tk]) _ _ _
  refine wpAny_call (codeAny_call_builtin PySem.F.excAttr_ValueError.ga.plain PySem.F.entry_bexc_ga ?_)
  refine @check_slot (model prog w) _ _ ⟨hp, gs, dr, tk + 1, os⟩ "BaseException.__getattribute__" "BaseException" "__getattribute__" (.ref x) [.str "__class__" tk] [] _ (by decide +kernel) (by decide +kernel) lb (PySem.F.args_bexc_ga (.ref x) (.str "__class__" tk)) ?_
  unfold Builtin.«object.__getattribute__»
  refine wpAny_bind (wpAny_of_eq (a := ((Value.ref x : Value), [Value.str "__class__" tk])) (by first | rfl | (simp only [slotArgs]; rfl)) ?_)
  refine wpAny_bind (wpAny_pure (wpAny_bind (l0.at (wpAny_bind (l3.at ?_)))))
  show wpAny _ _ (holding [Value.builtin "object.__class__"] (call (.builtin "getset_descriptor.__get__") [.builtin "object.__class__", .ref x, .ref D]) >>= ret) _ _ _
  refine wpAny_bind (wpAny_holding (wpAny_call (class_get (s := ⟨hp, gs, dr, tk + 1, os⟩) (ox := ox) (od := od) X I g8 (wpAny_pure ?_))))
  show wpAny _ _ (handedOut (.ref D)) _ _ _
  rw [handedOut_of (v := .ref D) rfl]
  first
    | exact wpAny_pure (wpAny_pure z)
    | exact wpAny_pure z
    | exact wpAny_pure (wpAny_bind (wpAny_pure (wpAny_pure z)))
/-- isinstance asks such an object by its class -/
theorem kit_of_exc (C : L2.ExcC K D) : KitX K (.ref x) (.ref D) (fun h => ∃ ox od, InstAt h x ox D od) where
  ty := fun _ _ _ ⟨_, _, I⟩ => I.type
  it := fun _ _ X _ => by
    obtain ⟨cd, hc, _⟩ := any_some C.hd
    unfold clsIn at hc
    split at hc
    · rename_i _ _ _ _ ho
      intro _ _ _ _ k q
      unfold isType loadHead
      exact wpAny_bind (wpAny_loadPart (k _ _ (X _ _ ho)) (wpAny_pure q))
    · cases hc
  ne := fun _ tp _ _ _ _ X ht => by
    obtain ⟨cd, hc, _⟩ := any_some C.hd
    unfold clsIn at hc
    split at hc
    · rename_i _ _ _ _ ho
      cases e : (Value.ref D == Value.ref tp) with
      | false => rfl
      | true =>
        cases Value.ref.inj (beq_iff_eq.mp e)
        cases (X _ _ ho).symm.trans ht
    · cases hc
  ca := fun X ⟨_, _, I⟩ k => cls_of C.hg C.hk C.hs C.hd C.ha C.hn C.ht C.hm X I k
end
end PySem.Xv
namespace L2
open PySem PySem.Spec PyProof.Rows
/-- at a an exception of the class at C whose one field is v -/
def ExV (C a : Addr) (v : V) (H : Hp) : Prop := ∃ d : Addr, H a = some (exo a C (some d)) ∧ H d = some (exd d [("value", v)])
/-- the promise of such a class's own __init__ -/
def spXI (K : PySem.W.Frag) : Sp := fun vs H Q _ => ∃ (a C : Addr) (v : V), vs = [.ref a, v] ∧ H a = some (exo a C none) ∧ OexC K C ∧ PySem.W.findIn K (.ref C) "value" = some none ∧
  ∀ d, H d = none → d ≠ a → Q .non (upd (upd H d (exd d [("value", v)])) a (exo a C (some d)))
/-- what the written part holds of such a class: its __init__ at fI -/
structure XvC (K : PySem.W.Frag) (C fI : Addr) : Prop where
  oex : OexC K C
  init : PySem.W.findIn K (.ref C) "__init__" = some (some (.ref fI))
  ty : PySem.W.typeIn K (.ref fI) = some (.type "function")
  noV : PySem.W.findIn K (.ref C) "value" = some none
def tNew (C : Addr) (v : V) (H : Hp) (Q : VK) : Prop := ∀ a d, H a = none → H d = none → d ≠ a → Q (.ref a) (upd (upd H d (exd d [("value", v)])) a (exo a C (some d)))
section
variable {X : Cx} {CX : CXT} {pins : List (Addr × Obj)} {σ : St} {H : Hp} {s : Shared} {C fI : Addr} {k : Nat} {fd : FuncData}
theorem run_xv {us : List Value} {kw : List (Str × Value)} {u : Value} {v : V} {Q : VK} (T : XvC X.K C fI) (G : FnOk X.prog X.w X.K X.mg X.base CX k fI fd ["self", "value"] (spXI X.K)) (hr : Room (k + 1) X.A) (hx : Passes CX X (fun _ _ _ => False))
    (I : Inv X pins σ H s) (hl : us.length ≤ sizeLine) (r : RelV v u) (hb : ∀ (s' : Shared) (a : Addr), X.K.In s'.heap → BindsTo s' fd ⟨.ref a :: us, kw⟩ [("self", .ref a), ("value", u)])
    (h : tNew C v H Q) : wpAny (model X.prog X.w) X.A (call (.ref C) us kw) (EP X pins σ Q) X.xe s := by
  obtain ⟨nm, q, N, bs, bm, sn, sub, ab, col, dd, k0, k1, k2, k3, k5, hC, hbm⟩ := T.oex.cls
  obtain ⟨hp, g, dr, tk, os⟩ := s
  have le : hp.objs.size ≤ hp.objs.size + 1 := Nat.le_succ _
  have na : H (hp.objs.size + 1) = none := I.hok.fresh le
  have kk : ∀ b o, hp.get? b = some o → ((hp.push (PySem.W.kdv_tup us)).push (PySem.HandSPX.excO C hp.objs.size)).get? b = some o := fun b o e => Heap.get?_push_of_some _ (Heap.get?_push_of_some _ e)
  have ga : ((hp.push (PySem.W.kdv_tup us)).push (PySem.HandSPX.excO C hp.objs.size)).get? (hp.objs.size + 1) = some (PySem.HandSPX.excO C hp.objs.size) := by heap_get
  have J : Inv X pins σ (upd H (hp.objs.size + 1) (exo (hp.objs.size + 1) C none)) ⟨(hp.push (PySem.W.kdv_tup us)).push (PySem.HandSPX.excO C hp.objs.size), g, dr, tk, os⟩ :=
    I.laid (t' := tk) (a := hp.objs.size + 1) (o := exo (hp.objs.size + 1) C none) (h' := (hp.push (PySem.W.kdv_tup us)).push (PySem.HandSPX.excO C hp.objs.size)) kk le (exo_ok ga)
  have sp : spXI X.K [V.ref (hp.objs.size + 1), v] (upd H (hp.objs.size + 1) (exo (hp.objs.size + 1) C none)) (fun z H2 => z = .non ∧ Q (.ref (hp.objs.size + 1)) H2) (fun _ _ _ => False) := by
    refine ⟨_, C, v, rfl, upd_same, T.oex, T.noV, fun d nd ne => ⟨rfl, ?_⟩⟩
    rw [upd_ne ne] at nd
    have q := h (hp.objs.size + 1) d na nd ne
    have e : upd (upd (upd H (hp.objs.size + 1) (exo (hp.objs.size + 1) C none)) d (exd d [("value", v)])) (hp.objs.size + 1) (exo (hp.objs.size + 1) C (some d)) = upd (upd H d (exd d [("value", v)])) (hp.objs.size + 1) (exo (hp.objs.size + 1) C (some d)) := by
      funext b
      by_cases e1 : b = hp.objs.size + 1
      · rw [e1, upd_same, upd_same]
      · rw [upd_ne e1, upd_ne e1]
        by_cases e2 : b = d
        · rw [e2, upd_same, upd_same]
        · rw [upd_ne e2, upd_ne e2, upd_ne e1]
    rw [e]
    exact q
  have r2 : Vals [V.ref (hp.objs.size + 1), v] [Value.ref (hp.objs.size + 1), u] := .cons rfl (.cons r .nil)
  refine wpAny_call (PySem.Xv.kw_call F.excBase_ValueError (fun Y => PySem.HandSPX.refsVE_contains Y bm hbm) (I.kIn _ _ hC) hl (PySem.W.looks_findIn I.kIn T.init) (fun x => PySem.W.bind_fn I.kIn x T.ty)
    (codeAny_mono (G.run _ X.stack _ _ ⟨Value.ref (hp.objs.size + 1) :: us, kw⟩ [Value.ref (hp.objs.size + 1), u] _ _ (fun _ _ _ => False) (hr.make C us kw) (J.env0.make C us kw) (hb _ _ J.kIn) r2 sp) fun r s' hq => ?_))
  cases r with
  | error er => exact hx pins σ _ _ er s' J hq
  | ok fl =>
    cases fl with
    | ret z =>
      obtain ⟨y, H', I3, ry, ey, q3⟩ := J.after hq
      subst ey
      exact ⟨ry, ⟨V.ref (hp.objs.size + 1), H', I3, rfl, q3⟩⟩
    | next => exact False.elim hq
    | brk => exact False.elim hq
    | cont => exact False.elim hq

variable {x : Str} {p pos kpos : Pos} {e : Expr} {te : TE}
/-- C(e) -/
theorem pe_xv1 (T : XvC X.K C fI) (G : FnOk X.prog X.w X.K X.mg X.base CX k fI fd ["self", "value"] (spXI X.K)) (hr : Room (k + 1) X.A) (hx : Passes CX X (fun _ _ _ => False)) (hg : Gl X x) (hm : X.mg x = some (.ref C))
    (hb : ∀ (s' : Shared) (a : Addr) (u : Value), X.K.In s'.heap → BindsTo s' fd ⟨[.ref a, u], []⟩ [("self", .ref a), ("value", u)])
    (he : PE X e te) (hs : starEach [e] X.env = (false, eval e X.env) :: starEach [] X.env := by rfl) (hdb : (x == ("__debug__" : Str)) = false := by decide) :
    PE X (.Call (.Name x p) [e] [] pos) (fun σ H Q => te σ H fun v H1 => tNew C v H1 Q) := by
  refine ⟨fun pins s σ H Q I h => ?_⟩
  refine wpAny_Call_Name_kw (ld_glob I hg hm ?_ hdb)
  refine PySem.W.callWith_K (h₀ := X.base) I.ok.mod.kin T.oex.kC ?_ hs (by rfl)
  rw [hs]
  show wpAny _ _ (spliced ((false, eval e X.env) :: backTo pos (starEach [] X.env))) _ _ s
  refine Calls.spliced_cons (thn (he.run pins s σ H _ I h) fun u s1 ⟨v, H1, I1, r1, q1⟩ => ?_)
  refine Calls.spliced_nil ⟨I1.kIn, ?_⟩
  exact run_xv (us := [u]) T G hr hx I1 (by show 1 ≤ sizeLine; rw [sizeLine_eq]; omega) r1 (fun s' a z => hb s' a u z) q1
/-- C() -/
theorem pe_xv0 (T : XvC X.K C fI) (G : FnOk X.prog X.w X.K X.mg X.base CX k fI fd ["self", "value"] (spXI X.K)) (hr : Room (k + 1) X.A) (hx : Passes CX X (fun _ _ _ => False)) (hg : Gl X x) (hm : X.mg x = some (.ref C))
    (hb : ∀ (s' : Shared) (a : Addr), X.K.In s'.heap → BindsTo s' fd ⟨[.ref a], []⟩ [("self", .ref a), ("value", .none)]) (hdb : (x == ("__debug__" : Str)) = false := by decide) :
    PE X (.Call (.Name x p) [] [] pos) (fun _ H Q => tNew C .non H Q) := by
  refine ⟨fun pins s σ H Q I h => ?_⟩
  refine wpAny_Call_Name_kw (ld_glob I hg hm ?_ hdb)
  exact PySem.W.callWith_K0 I.kIn T.oex.kC (run_xv (us := []) (u := .none) (v := .non) T G hr hx I (Nat.zero_le _) (show RelV .non Value.none from rfl) (fun s' a z => hb s' a z) h)
/-- C(value=e) -/
theorem pe_xvK (T : XvC X.K C fI) (G : FnOk X.prog X.w X.K X.mg X.base CX k fI fd ["self", "value"] (spXI X.K)) (hr : Room (k + 1) X.A) (hx : Passes CX X (fun _ _ _ => False)) (hg : Gl X x) (hm : X.mg x = some (.ref C))
    (hb : ∀ (s' : Shared) (a : Addr) (u : Value), X.K.In s'.heap → BindsTo s' fd ⟨[.ref a], [("value", u)]⟩ [("self", .ref a), ("value", u)])
    (he : PE X e te) (hdb : (x == ("__debug__" : Str)) = false := by decide) :
    PE X (.Call (.Name x p) [] [⟨some "value", e, kpos⟩] pos) (fun σ H Q => te σ H fun v H1 => tNew C v H1 Q) := by
  refine ⟨fun pins s σ H Q I h => ?_⟩
  refine wpAny_Call_Name_kw (ld_glob I hg hm ?_ hdb)
  refine PySem.W.callWith_KW0 (h₀ := X.base) I.ok.mod.kin T.oex.kC (by rfl) ?_ (by rfl)
  have hk : PK X [⟨some "value", e, kpos⟩] (tCons te tNil) := pk_cons he pk_nil
  refine thn (hk.run pos pins s σ H (fun vs H1 => match vs with | [v] => tNew C v H1 Q | _ => False) I h) fun ws s1 hh => ?_
  obtain ⟨vs, H1, I1, r1, q1⟩ := hh
  cases r1 with
  | nil => exact q1.elim
  | cons ru rn =>
    cases rn with
    | nil => exact ⟨I1.kIn, run_xv (us := []) T G hr hx I1 (Nat.zero_le _) ru (fun s' a z => hb s' a _ z) q1⟩
    | cons _ _ => exact q1.elim

/-- e.value -/
theorem pe_xvF {pv : Pos} (he : PE X e te) (hb : attributeBase e "value" X.env (eval e X.env) = eval e X.env := by rfl) :
    PE X (.Attribute e "value" pv) (fun σ H Q => te σ H fun x H1 => ∃ (a C : Addr) (v : V), x = .ref a ∧ XfC X.K C ∧ PySem.W.findIn X.K (.ref C) "value" = some none ∧ ExV C a v H1 ∧ Q v H1) := by
  refine ⟨fun pins s σ H Q I h => ?_⟩
  refine attr_of hb (thn (he.run pins s σ H _ I h) fun u s1 hh => ?_)
  obtain ⟨x, H1, I1, rx, a, C, v, rfl, T, hno, ⟨d, ea, ed⟩, q⟩ := hh
  obtain rfl : u = Value.ref a := rx
  obtain ⟨t1, ho⟩ := exo_at I1.hok ea
  obtain ⟨mA, hns, hr⟩ := exd_at I1.hok ed
  obtain ⟨od, hod, hl⟩ := lookIn_ns hns
  obtain ⟨u, hu, ru⟩ := RelO.some_of (v := v) (o := mA "value") (hr "value")
  exact HandSPX.exc_get I1.kIn (od := some od) ⟨ho, rfl, rfl, hod⟩ T.ga T.gg T.exC (PySem.W.findObj_own T.hdC hno rfl (by rw [hl, hu])) (handed_of ru) ⟨v, H1, I1.tok _, ru, q⟩
/-- isinstance(e, c) of such an object -/
def rIsX (K : PySem.W.Frag) : List V → Hp → VK → Prop := fun xs H Q => ∃ (a C : Addr) (v c : V) (cv : Value) (b : Bool), xs = [.ref a, c] ∧ ClsV c cv ∧ ExcC K C ∧ ExV C a v H ∧ PySem.W.kitOne K (.ref C) cv = some b ∧ Q (.bl b) H
theorem call_isX : CallR X (.builtin "isinstance") (rIsX X.K) := by
  intro pins s σ H xs us Q I r h
  obtain ⟨a, C, v, c, cv, b, rfl, kc, T, ⟨d, ea, ed⟩, e, q⟩ := h
  obtain ⟨u1, u2, rfl, r1, r2⟩ := vals2 r
  have e2 := kc.eq r2
  subst e2
  obtain rfl : u1 = Value.ref a := r1
  obtain ⟨t1, ho⟩ := exo_at I.hok ea
  obtain ⟨mA, hns, hr⟩ := exd_at I.hok ed
  obtain ⟨od, hod, hl⟩ := lookIn_ns hns
  exact PySem.W.kia_one (PySem.Xv.kit_of_exc T) I.kIn ⟨_, some od, ho, rfl, rfl, hod⟩ e (fun z => nomatch z) fun tk => ⟨.bl b, H, I.tok tk, rfl, q⟩
end
end L2
end
section
set_option Elab.async false
set_option linter.all false
set_option maxRecDepth 100000
set_option maxHeartbeats 4000000
/-! # try with several clauses «except X as n» -/
namespace H4
open PySem PySem.Spec PyProof.Rows L2
/-- a clause «except X as n»: the class, the slot of n, the suite's reading -/
structure Cl where
  c : Value
  i : Nat
  ts : Addr → Value → Option Addr → TS
def endAs (D : Ends) (i : Nat) : Ends :=
  { nx := fun σ H => D.nx (σ.set i none) H, rt := D.rt, bk := fun σ H => D.bk (σ.set i none) H, ct := fun σ H => D.ct (σ.set i none) H }
def wAll (K : PySem.W.Frag) (Wout : WX) (D : Ends) : List Cl → WX
  | [] => Wout
  | C :: l => fun cls d σ H => ∃ b, PySem.W.exmOne K cls C.c = some b ∧ (b = true → ∀ a, H a = none → C.ts a cls d (endAs D C.i) (σ.set C.i (some (.ref a))) H) ∧ (b = false → wAll K Wout D l cls d σ H)
inductive HdsAs (X : Cx) : List ExceptHandler → List Cl → Prop
  | nil : HdsAs X [] []
  | cons {x n : Str} {C : Cl} {b₀ : Stmt} {suite : List Stmt} {np pos' : Pos} {hds : List ExceptHandler} {l : List Cl}
      (hc : Names X x C.c) (hi : X.N[C.i]? = some n) (hl : X.env.kindOf n = some .local)
      (hsu : ∀ a oe cls d pn, Zc cls d oe → (∃ vs, oe.data = .fields vs) → PSs (X.suite a ((a, oe) :: pn)) (b₀ :: suite) (C.ts a cls d))
      (r : HdsAs X hds l) : HdsAs X (.ExceptHandler (some (.Name x np)) (some n) (b₀ :: suite) pos' :: hds) (C :: l)
theorem ps_try_all {X : Cx} {body : List Stmt} {h₀ : ExceptHandler} {hds : List ExceptHandler} {l : List Cl} {pos : Pos} {tb : WX → TS} {Wout : WX}
    (hs : X.stack = X.env :: X.outer) (hf : X.env.frame = some X.env.locals) (hN : X.N.Nodup) (tk : Takes X Wout)
    (hb : ∀ (W : WX) (pn : List (Addr × Obj)) (xe : Value → Shared → Prop), Takes (X.tr pn xe) W → PassesOwn (model X.prog X.w) X.A X.env xe → PSs (X.tr pn xe) body (tb W))
    (hh : HdsAs X (h₀ :: hds) l) : PS X (.Try body (h₀ :: hds) [] [] pos) (fun D σ H => tb (wAll X.K Wout D l) D σ H) := by
  refine ⟨fun pins s σ H D I h => ?_⟩
  have ok := I.ok
  have hfr : X.A.frames = some (X.env :: X.outer) := by rw [ok.frames, hs]
  refine wpAny_Try_except (wpAny_mono ((hb (wAll X.K Wout D l) (X.pn ++ pins) _ ?_ PassesOwn.looking).run [] s σ H D (Inv.toTry I _) h) ?_ (fun e s1 he => he))
  · rintro u s' ⟨a, B, sI, pins', σ', H', cls, d, rfl, J', nb, up, sky, na, os, ag, w⟩
    have J := Inv.ofTry J' ok
    have sky' : Sky B (X.env :: X.outer) a (Zc cls d) X.env.locals s'.heap := by rw [← hs]; exact sky
    refine Sky.land Zc.steady hfr hf sky' fun h3 fl3 up3 => ?_
    have J3 := Inv.landed (s' := { s' with heap := h3 }) J nb fl3.1 (up.trans up3) os ag
    obtain ⟨oe3, vs3, he3, hz3, hd3⟩ := fl3.there
    have nfr : a ∉ List.filterMap (fun x => x.frame) (X.env :: X.outer) := fun hm => by
      obtain ⟨_, o', e', hnf⟩ := fl3.2.2.1.mem hm
      rw [he3] at e'
      cases e'
      exact hnf _ hd3
    have nL : a ≠ X.env.locals := fun z => nfr (List.mem_filterMap.mpr ⟨X.env, List.mem_cons_self, by rw [hf, z]⟩)
    have nF : a ∉ X.fs := fun hm => by
      obtain ⟨e, he, q⟩ := List.mem_filterMap.mp hm
      exact nfr (List.mem_filterMap.mpr ⟨e, List.mem_cons_of_mem _ he, q⟩)
    have S3 := Inv.suite J3 he3 hd3 na nL nF
    have go : ∀ hds' l', HdsAs X hds' l' → wAll X.K Wout D l' cls d σ' H' → wpAny (model X.prog X.w) X.A (handleBy (.ref a) X.env hds') (SP X pins D) X.xe { s' with heap := h3 } := by
      intro hds' l' hk
      induction hk with
      | nil =>
        intro w
        refine wpAny_handleBy_nil ?_
        obtain ⟨k1, k2, k3, oe, vs, T, oT, ts', he, hz, hd, h1, hr⟩ := id fl3
        refine wpAny_bind (wpAny_field he hd h1 ?_)
        rw [if_neg (by simp)]
        refine wpAny_bind ?_
        rw [hf]
        refine HandSPX.setFlight_upZ fl3 fun h4 hh4 up4 => ?_
        exact wpAny_throw (tk _ _ ⟨a, B, sI, pins, σ', H', cls, d, rfl, J, nb, (up.trans up3).trans up4, .inr (.inr (by rw [hs]; exact hh4)), na, os, ag, w⟩)
      | @cons x n C b₀ suite np pos' hds2 l2 hc hi hl hsu r ih =>
        rintro ⟨b, hb1, hyes, hno⟩
        refine wpAny_handleBy_cons (codeAny_handlers_test ?_) (by intro q; cases q)
        have LT : PySem.W.Looks (model X.prog X.w) h3 (typeOf (.ref a)) cls := fun A Q E s k q => wpAny_typeOf_ref (k a oe3 he3) (by rw [hz3.1]; exact q)
        have LM := PySem.W.exm_one (Inv.kIn J3) LT hb1
        have test : ∀ {Q : Value → Shared → Prop} {E : Value → Shared → Prop}, Q C.c { s' with heap := h3 } → wpAny (model X.prog X.w) (X.A.mark (some (.ref a))) (eval (.Name x np) X.env) Q E { s' with heap := h3 } := by
          intro Q E q
          obtain ⟨hg, hdbg, hm | ⟨hm, hv, hnn⟩⟩ := hc
          · exact ld_glob S3 hg hm q hdbg
          · exact ld_blt S3 hg hm hv q hnn hdbg
        refine test (PySem.W.Looks.here LM ?_)
        cases b with
        | false => exact ih (hno rfl)
        | true =>
          refine codeAny_handlers_suite_as (HandSPX.lands_againZ fl3 fun h4 fl4 up4 => ?_)
          have J4 := Inv.landed (s' := { s' with heap := h4 }) J nb fl4.1 ((up.trans up3).trans up4) os ag
          obtain ⟨oe4, vs4, he4, hz4, hd4⟩ := fl4.there
          have S4 := Inv.suite J4 he4 hd4 na nL nF
          refine store_ok (X := X.suite a ((a, oe4) :: (X.pn ++ pins))) (v := .ref a) S4 hN hi (Or.inl hl) rfl (fun s5 S5 => wpAny_mono ((hsu a oe4 cls d (X.pn ++ pins) hz4 ⟨vs4, hd4⟩).run [] s5 _ H' (endAs D C.i) S5 (hyes rfl a na)) (fun f s6 hsp => ?_) (fun _ _ z => z.elim)) (Or.inr hl)
          cases f with
          | next => obtain ⟨σ6, H6, S6, q6⟩ := hsp; exact gone_ok (Inv.unsuite S6 ok) hN hi hl (fun s7 J7 => ⟨_, H6, J7, q6⟩)
          | brk => obtain ⟨σ6, H6, S6, q6⟩ := hsp; exact gone_ok (Inv.unsuite S6 ok) hN hi hl (fun s7 J7 => ⟨_, H6, J7, q6⟩)
          | cont => obtain ⟨σ6, H6, S6, q6⟩ := hsp; exact gone_ok (Inv.unsuite S6 ok) hN hi hl (fun s7 J7 => ⟨_, H6, J7, q6⟩)
          | ret u => obtain ⟨v6, σ6, H6, S6, r6, q6⟩ := hsp; exact gone_ok (Inv.unsuite S6 ok) hN hi hl (fun s7 J7 => ⟨v6, _, H6, J7, r6, q6⟩)
    exact go _ _ hh w
  · intro f s1 hsp
    cases f with
    | next => obtain ⟨σ', H', J', q⟩ := hsp; exact wpAny_execs_nil ⟨σ', H', Inv.ofTry J' ok, q⟩
    | brk => obtain ⟨σ', H', J', q⟩ := hsp; exact ⟨σ', H', Inv.ofTry J' ok, q⟩
    | cont => obtain ⟨σ', H', J', q⟩ := hsp; exact ⟨σ', H', Inv.ofTry J' ok, q⟩
    | ret u => obtain ⟨v, σ', H', J', r, q⟩ := hsp; exact ⟨v, σ', H', Inv.ofTry J' ok, r, q⟩
end H4
end
section
set_option Elab.async false
set_option linter.all false
set_option maxRecDepth 100000
set_option maxHeartbeats 4000000
/-! # isinstance of an exception that a suite holds, its dict made -/
namespace H4
open PySem PySem.Spec PyProof.Rows L2
section
variable {X : Cx} {a : Addr} {oe : Obj} {pn pins : List (Addr × Obj)} {σ : L2.St} {H : Hp} {s : Shared} {cls : Value} {d : Option Addr}
theorem inst_pin {D dd : Addr} {fs : List (Str × V)} (I : Inv (X.suite a ((a, oe) :: pn)) pins σ H s) (hz : Zc (.ref D) (some dd) oe) (hf : ∃ vs, oe.data = .fields vs) (ed : H dd = some (.xd fs)) :
    ∃ od, PySem.W.InstAt s.heap a oe D (some od) := by
  obtain ⟨ha, _⟩ := I.pin (a, oe) (List.mem_append_left _ List.mem_cons_self)
  obtain ⟨vs, hd⟩ := hf
  have hx : ObjOk X.prog X.w H s.heap dd (.xd fs) := I.hok dd _ ed
  obtain ⟨mA, hns, hr⟩ := hx
  obtain ⟨od, ho, hl⟩ := lookIn_ns hns
  exact ⟨od, ha, hz.1, by unfold PySem.W.notCls; rw [hd] <;> rfl, by rw [hz.2]; exact ho⟩
/-- isinstance(e, C), e what the suite holds -/
def rIsP (K : PySem.W.Frag) (a : Addr) (cls : Value) (d : Option Addr) : List V → Hp → VK → Prop := fun xs H Q =>
  ∃ (c : V) (cv : Value) (b : Bool) (D dd : Addr) (fs : List (Str × V)), xs = [.ref a, c] ∧ ClsV c cv ∧ cls = .ref D ∧ d = some dd ∧ H dd = some (.xd fs) ∧ ExcC K D ∧ PySem.W.kitOne K (.ref D) cv = some b ∧ Q (.bl b) H
theorem call_isP (hz : Zc cls d oe) (hf : ∃ vs, oe.data = .fields vs) : CallR (X.suite a ((a, oe) :: pn)) (.builtin "isinstance") (rIsP X.K a cls d) := by
  intro pins s σ H xs us Q I r h
  obtain ⟨c, cv, b, D, dd, fs, rfl, kc, rfl, rfl, ed, T, e, q⟩ := h
  obtain ⟨u1, u2, rfl, r1, r2⟩ := vals2 r
  have e2 := kc.eq r2
  subst e2
  obtain rfl : u1 = Value.ref a := r1
  obtain ⟨od, J⟩ := inst_pin I hz hf ed
  exact PySem.W.kia_one (PySem.Xv.kit_of_exc T) I.kIn ⟨_, some od, J⟩ e (fun z => nomatch z) fun tk => ⟨.bl b, H, I.tok tk, rfl, q⟩
/-- isinstance(e, (C1, C2, ..)) -/
def rIsPT (K : PySem.W.Frag) (a : Addr) (cls : Value) (d : Option Addr) : List V → Hp → VK → Prop := fun xs H Q =>
  ∃ (tp : Addr) (cs : List V) (ws : List Value) (b : Bool) (D dd : Addr) (fs : List (Str × V)), xs = [.ref a, .ref tp] ∧ H tp = some (.tup cs) ∧ Paired ClsV cs ws ∧ cls = .ref D ∧ d = some dd ∧ H dd = some (.xd fs) ∧ ExcC K D ∧ PySem.W.kitAny K (.ref D) ws = some b ∧ Q (.bl b) H
theorem call_isPT (hz : Zc cls d oe) (hf : ∃ vs, oe.data = .fields vs) : CallR (X.suite a ((a, oe) :: pn)) (.builtin "isinstance") (rIsPT X.K a cls d) := by
  intro pins s σ H xs us Q I r h
  obtain ⟨tp, cs, ws, b, D, dd, fs, rfl, hT, k, rfl, rfl, ed, T, e, q⟩ := h
  obtain ⟨u1, u2, rfl, r1, r2⟩ := vals2 r
  obtain rfl : u1 = Value.ref a := r1
  obtain rfl : u2 = Value.ref tp := r2
  obtain ⟨od, J⟩ := inst_pin I hz hf ed
  have ht : ObjOk X.prog X.w H s.heap tp (.tup cs) := I.hok tp _ hT
  obtain ⟨_, its, rv, o, h1, h2, n, h3⟩ := ht
  have e3 := ClsV.all k rv
  subst e3
  obtain ⟨oc, od', dt, sl⟩ := o
  cases h2
  cases h3
  exact PySem.W.kia_tup (PySem.Xv.kit_of_exc T) I.kIn ⟨_, some od, J⟩ h1 e (fun z => nomatch z) fun tk => ⟨.bl b, H, I.tok tk, rfl, q⟩
end
end H4
end
section
set_option Elab.async false
set_option linter.all false
set_option maxRecDepth 100000
set_option maxHeartbeats 4000000
namespace K4
open PySem PySem.Spec PyProof.Rows L2
/-- what the head says of an own error class: its name x, its class at C, its __init__ at fI -/
structure XcT (K : PySem.W.Frag) (mg : Str → Option Value) (x : Str) (C fI : Addr) : Prop where
  gC : mg x = some (.ref C)
  xv : XvC K C fI
  xf : XfC K C
  ex : ExcC K C
/-- such a class as it is made and raised -/
structure Xz (P : Program) (w : World) (K : PySem.W.Frag) (mg : Str → Option Value) (base : Heap) (x : Str) (C : Addr) : Prop where
  ex : ∃ (fI : Addr) (fd : FuncData), XcT K mg x C fI ∧ FnOk P w K mg base CX0 1 fI fd ["self", "value"] (spXI K) ∧ Binds K fd ["self", "value"] []
/-- a def that may raise, as it is called -/
def FzX (P : Program) (w : World) (K : PySem.W.Frag) (mg : Str → Option Value) (base : Heap) (x : Str) (k : Nat) (ps : List Str) (sp : Sp) : Prop :=
  ∃ (g : Addr) (fd : FuncData), FnOk P w K mg base (L2.CX P w) k g fd ps sp ∧ mg x = some (.ref g) ∧ PySem.W.keepIn K (.ref g) = true ∧ Binds K fd ps []
theorem FzX.mono {P : Program} {w : World} {K : PySem.W.Frag} {mg : Str → Option Value} {base : Heap} {x : Str} {j k : Nat} {ps : List Str} {sp : Sp} (Z : FzX P w K mg base x j ps sp) (h : j ≤ k) : FzX P w K mg base x k ps sp := by
  obtain ⟨g, fd, F, r⟩ := Z
  exact ⟨g, fd, F.mono h, r⟩
/-- the error's own dict -/
abbrev xd1 (v : V) : HO := .xd [("value", v)]
/-- what raising wants -/
def rdInv (C : Addr) (v : V) (H1 : Hp) (Q : XK) : Prop := ∀ d, H1 d = none → Q (.ref C) (some d) (upd H1 d (xd1 v))
section
variable {X : Cx} {x : Str} {k : Nat} {ps : List Str} {sp : Sp} {p pos pos2 : Pos} {e : Expr} {es : List Expr} {t : TA} {W : WX} {C : Addr}
theorem pe_fzX (Z : FzX X.prog X.w X.K X.mg X.base x k ps sp) (hr : Room k X.A) (hg : Gl X x) (tk : Takes X W) (ha : PA X (e :: es) t) (hdb : (x == ("__debug__" : Str)) = false := by decide)
    (he : starEach (e :: es) X.env = (false, eval e X.env) :: starEach es X.env := by rfl) (hpl : (backTo pos (starEach es X.env)).any (·.1) = false := by rfl) : PE X (.Call (.Name x p) (e :: es) [] pos) (tCallS sp (WE W) t) := by
  obtain ⟨g, fd, F, hm, hk, hb⟩ := Z
  exact pe_callS F hr hg hm hk hb (fun σ => passAt tk σ) ha hdb he hpl
theorem mk_read {K : PySem.W.Frag} {fI : Addr} {v : V} {H1 : Hp} {Q : XK} (T : XvC K C fI) (h : rdInv C v H1 Q) :
    [v].length ≤ 1000 ∧ ∀ a, H1 a = none → spXI K (.ref a :: ([v] ++ [])) (upd H1 a (exo a C none)) (fun z H2 => z = .non ∧ ∃ d fs, H2 a = some (exo a C (some d)) ∧ H2 d = some (exd d fs) ∧ H1 d = none ∧ Q (.ref C) (some d) (upd (del H2 a) d (.xd fs))) (fun _ _ _ => False) := by
  refine ⟨(by show 1 ≤ 1000; omega), fun a na => ⟨a, C, v, rfl, upd_same, T.oex, T.noV, fun d nd ne => ⟨rfl, d, [("value", v)], upd_same, ?_, ?_, ?_⟩⟩⟩
  · rw [upd_ne ne, upd_same]
  · rwa [upd_ne ne] at nd
  · rw [upd_ne ne] at nd
    have q := h d nd
    have e : upd (del (upd (upd (upd H1 a (exo a C none)) d (exd d [("value", v)])) a (exo a C (some d))) a) d (.xd [("value", v)]) = upd H1 d (xd1 v) := by
      funext b
      by_cases e2 : b = d
      · rw [e2, upd_same, upd_same]
      · rw [upd_ne e2, upd_ne e2]
        by_cases e1 : b = a
        · rw [e1, na]
          simp [del]
        · simp only [del, e1, if_false]
          rw [upd_ne e1, upd_ne e2, upd_ne e1]
    rw [e]
    exact q
/-- raise x(e) -/
def tInv (C : Addr) (K : PySem.W.Frag) (W : WX) (ta : TA) : TS := fun _ σ H => tMkO C (spXI K) [] ta σ H fun cls d H' => W cls d σ H'
theorem ps_inv (Z : Xz X.prog X.w X.K X.mg X.base x C) (hc : X.calm = true) (hr : Room 2 X.A) (tk : Takes X W) (hg : Gl X x) (ha : PA X (e :: es) t) (hdb : (x == ("__debug__" : Str)) = false := by decide)
    (he : starEach (e :: es) X.env = (false, eval e X.env) :: starEach es X.env := by rfl) (hpl : (backTo pos (starEach es X.env)).any (·.1) = false := by rfl) : PS X (.Raise (some (.Call (.Name x p) (e :: es) [] pos)) none pos2) (tInv C X.K W t) := by
  obtain ⟨fI, fd, T, F, hb⟩ := Z.ex
  exact ps_raise hc tk (pmk_oex T.xv.oex T.xv.init T.xv.ty F hr hb .nil pass0 hg T.gC ha hdb he hpl)
end
section
variable {P : Program} {w : World} {K : PySem.W.Frag} {mg : Str → Option Value} {base : Heap}
theorem Xz.rd {x : Str} {C : Addr} {v : V} {H1 : Hp} {Q : XK} (Z : Xz P w K mg base x C) (h : rdInv C v H1 Q) :
    [v].length ≤ 1000 ∧ ∀ a, H1 a = none → spXI K (.ref a :: ([v] ++ [])) (upd H1 a (exo a C none)) (fun z H2 => z = .non ∧ ∃ d fs, H2 a = some (exo a C (some d)) ∧ H2 d = some (exd d fs) ∧ H1 d = none ∧ Q (.ref C) (some d) (upd (del H2 a) d (.xd fs))) (fun _ _ _ => False) := by
  obtain ⟨fI, fd, T, _⟩ := Z.ex
  exact mk_read T.xv h
/-! ### check_quarter, of anything -/
/-- a quarter's class, with how its kinds are told apart -/
def spChkQ (CQ CI : Addr) : Sp := fun vs H Q E => ∃ v, vs = [v] ∧ ((∃ q dx fs, v = .ref q ∧ H q = some (.ins CQ dx fs) ∧ Q .non H) ∨ ∃ T, KindV H v (.type T) ∧ rdInv CI v H E)
theorem ok_chkQX {CQ iQ eQ CI : Addr} {f : Addr} {fd : FuncData} (F : FnP K "check_quarter" sChkQuarter f fd) (c : ClsF K CQ iQ eQ) (hm : mg "Quarter" = some (.ref CQ)) (Z : Xz P w K mg base "InvalidQuarter" CI) (T : Tx K mg) : FnOk P w K mg base (L2.CX P w) 3 f fd ["value"] (spChkQ CQ CI) := by
  refine F.ok scChkQ (fun vs H Q E h => ?_) (fun cdv A outer s H vs Q E hr h => ?_)
  · obtain ⟨_, rfl, _⟩ := h
    rfl
  · obtain ⟨v, rfl, h⟩ := h
    have gIs := T.fr "isinstance" (by decide +kernel)
    refine ⟨_, (pss_one (ps_if (pt_not (pt_val (pe_callB call_isi (by rfl) gIs (by decide +kernel) (pa_cons (pv 0) (pa_cons (C8.pe_gc (v := .ref CQ) (by rfl) ⟨_, hm, rfl⟩) pa_nil)))))
      (pss_one (ps_inv Z rfl hr (takes_of rfl rfl rfl rfl) (by rfl) (pa_cons (pv 0) pa_nil))) pss_nil)), ?_⟩
    rcases h with ⟨q, dx, fs, rfl, hq, z⟩ | ⟨U, k, z⟩
    · exact ⟨_, rfl, _, _, _, _, _, rfl, .own _, c.ty hq, c.kC, _, rfl, ifF (by decide) z⟩
    · obtain ⟨ty, mk⟩ := kind_ty k
      exact ⟨_, rfl, _, _, _, _, _, rfl, .own _, ty, (c.kk U mk).1, _, rfl, ifT (by decide) ⟨_, rfl, Z.rd z⟩⟩
end
end K4
end
section
set_option Elab.async false
set_option linter.all false
set_option maxRecDepth 100000
set_option maxHeartbeats 4000000
/-! # == and in: a value of any common kind against texts -/
namespace H4
open PySem PySem.Spec PyProof.Rows L2
section
variable {prog : Program} {w : World} {A : Around} {E : Value → Shared → Prop} {s : Shared} {l : Addr} {o : Obj}
theorem dict_no (b : Str) (u : Tok) (hl : s.TypeIs (.ref l) "dict") (Q : Value → Shared → Prop) (q : Q .notImplemented s) : wpAny (model prog w) A (call (.builtin "dict.__eq__") [.ref l, .str b u]) Q E s := by
  refine GQ.call_here F.slot_dict_eq hl F.entry_dict_eq (F.args_dict_eq_2 _ _) ?_
  have one : ∀ (A : Around) (E : Value → Shared → Prop) (Q : Bool → Shared → Prop), Q false s → wpAny (model prog w) A (isInstance (.str b u) (.type "dict")) Q E s := fun A E Q q => by
    unfold isInstance
    refine wpAny_bind (wpAny_of_eq (a := Value.type "str") rfl ?_)
    exact wpAny_of_eq F.sub_str_dict q
  obtain ⟨hp, g, d, tk, os⟩ := s
  wp_walk using one
  exact q
theorem str_no (b : Str) (u : Tok) {cl : Value} {dd : Option Addr} {es : Array DictEntry} {n : Nat} {sl : Array (Option Value)} (ho : s.heap.get? l = some { cls := cl, dict := dd, data := .dict es n, slots := sl }) (Q : Value → Shared → Prop) (q : Q .notImplemented s) : wpAny (model prog w) A (call (.builtin "str.__eq__") [.str b u, .ref l]) Q E s := by
  refine GQ.call_here F.slot_str_eq (typeIs_str _ _ _) F.entry_str_eq (F.args_str_eq_2 _ _) ?_
  obtain ⟨hp, g, d, tk, os⟩ := s
  wp_walk using MeetsSeq.wpAny_loadPart' ho
  exact q
theorem rc_dict_str (b : Str) (u : Tok) {dd : Option Addr} {es : Array DictEntry} {n : Nat} {sl : Array (Option Value)} (ho : s.heap.get? l = some { cls := .type "dict", dict := dd, data := .dict es n, slots := sl }) (hu : A.units < cLine) : SeqAt.RcAt A s (.ref l) (.str b u) false := by
  intro prog w E Q q
  have hl : s.TypeIs (.ref l) "dict" := ⟨_, ho, rfl⟩
  exact SeqAt.rc_eq_decline_or hl (typeIs_str s b u) (by decide) F.sub_str_dict F.slot_dict_eq F.slot_str_eq_refl (fun Q' q' => dict_no b u hl Q' q') (fun Q' q' => str_no b u ho Q' q') (fun Q' q' => wpAny_of_eq rfl q') (.inr hu) q
theorem rc_str_dict (b : Str) (u : Tok) {dd : Option Addr} {es : Array DictEntry} {n : Nat} {sl : Array (Option Value)} (ho : s.heap.get? l = some { cls := .type "dict", dict := dd, data := .dict es n, slots := sl }) (hu : A.units < cLine) : SeqAt.RcAt A s (.str b u) (.ref l) false := by
  intro prog w E Q q
  have hl : s.TypeIs (.ref l) "dict" := ⟨_, ho, rfl⟩
  exact SeqAt.rc_eq_decline_or (typeIs_str s b u) hl (by decide) F.sub_dict_str F.slot_str_eq F.slot_dict_eq_refl (fun Q' q' => str_no b u ho Q' q') (fun Q' q' => dict_no b u hl Q' q') (fun Q' q' => wpAny_of_eq rfl q') (.inr hu) q
theorem eq_of_rc {y x : Value} (ne : (y == x) = false) (nf : ∀ b t, y ≠ .float b t) (h : SeqAt.RcAt A s y x false) : SeqAt.EqAt A s y x false := by
  intro prog w E Q q
  show wpAny _ _ (eqBool y x) _ _ _
  unfold eqBool
  refine wpAny_holding ?_
  rw [if_neg (by rw [ne]; decide)]
  split
  · rename_i e
    cases e
    exact absurd rfl (nf _ _)
  · exact wpAny_bind (h prog w E _ (wpAny_truthy_bool q))
end
section
variable {X : Cx} {pins : List (Addr × Obj)} {σ : L2.St} {H : Hp} {s : Shared} {x : V} {u : Value} {T : String}
/-- no other kind is a text -/
theorem rc_kind (I : Inv X pins σ H s) (r : RelV x u) (k : KindV H x (.type T)) (hT : T ≠ "str") {A : Around} (hu : A.units < cLine) (b : Str) (t : Tok) : SeqAt.RcAt A s u (.str b t) false ∧ SeqAt.EqAt A s (.str b t) u false := by
  cases k with
  | non =>
    cases r
    exact ⟨SeqAt.RcAt.none_str b t, SeqAt.EqAt.str_none b t⟩
  | int i =>
    obtain ⟨_, rfl⟩ := r
    exact ⟨SeqAt.RcAt.int_str _ _ _ _, SeqAt.EqAt.str_int _ _ _ _⟩
  | bl i =>
    cases r
    exact ⟨SeqAt.RcAt.bool_str _ _ _, SeqAt.EqAt.str_bool _ _ _⟩
  | str z => exact absurd rfl hT
  | lst e =>
    cases r
    obtain ⟨_, its, n, _, ho⟩ := I.hok _ _ e
    have h : s.heap.IsList _ its.toArray := ⟨_, ho, rfl, n, rfl⟩
    exact ⟨SeqAt.RcAt.list_str _ _ h hu, SeqAt.EqAt.str_list _ _ h hu⟩
  | tup e =>
    cases r
    obtain ⟨_, its, _, o, h1, h2, n, h3⟩ := I.hok _ _ e
    have h : s.heap.IsTuple _ its.toArray := ⟨o, h1, h2, n, h3⟩
    exact ⟨SeqAt.RcAt.tuple_str _ _ h hu, SeqAt.EqAt.str_tuple _ _ h hu⟩
  | dct e =>
    cases r
    have hl := kind_type (x := .ref _) (u := .ref _) I rfl (.dct e)
    obtain ⟨_, _, vs, _, o, es, ep, ho, hx, hd, _⟩ := I.hok _ _ e
    obtain ⟨o', ho', hc'⟩ := hl
    rw [ho] at ho'
    cases ho'
    obtain ⟨oc, od, dt, sl⟩ := o
    cases hc'
    cases hd
    exact ⟨rc_dict_str _ _ ho hu, eq_of_rc rfl (fun _ _ z => nomatch z) (rc_str_dict _ _ ho hu)⟩
theorem inV_strK (x : Str) (ws : List Str) : inV (.str x) (ws.map V.str) = decide (x ∈ ws) := by
  unfold inV
  induction ws with
  | nil => rfl
  | cons y ws ih =>
    rw [List.map_cons, List.any_cons, ih]
    show ((y == x) || decide (x ∈ ws)) = decide (x ∈ y :: ws)
    by_cases h : y = x
    · subst h
      simp
    · have h' : ¬ x = y := fun e => h e.symm
      simp [h, h']
theorem kind_str (k : KindV H x (.type T)) (h : T = "str") : ∃ z, x = .str z := by
  cases k <;> first | exact ⟨_, rfl⟩ | exact absurd h (by decide)
theorem kind_nstr {z : Str} (k : KindV H (.str z) (.type T)) : T = "str" := by
  cases k
  rfl
/-- x == a text, x of any common kind -/
def rEqK : R2 := fun x y H Q => ∃ (T : String) (b : Str), KindV H x (.type T) ∧ y = .str b ∧ Q (.bl (decide (x = .str b))) H
theorem op_eqK (hu : X.A.units < cLine) : OpR X (compareOp .Eq) rEqK := by
  intro pins s σ H x y v u Q I rx ry h
  obtain ⟨T, b, k, rfl, q⟩ := h
  by_cases hT : T = "str"
  · obtain ⟨z, rfl⟩ := kind_str k hT
    exact op_eq pins s σ H _ _ v u Q I rx ry ⟨rfl, q⟩
  · obtain ⟨t, rfl⟩ := ry
    have e : decide (x = .str b) = false := decide_eq_false fun e => by
      subst e
      exact hT (kind_nstr k)
    rw [e] at q
    exact (rc_kind I rx k hT hu b t).1 _ _ _ _ ⟨.bl false, H, I, rfl, q⟩
/-- x in (texts), x of any common kind -/
def rInK : R2 := fun x y H Q => ∃ (T : String) (p : Addr) (bs : List Str), KindV H x (.type T) ∧ y = .ref p ∧ H p = some (.tup (bs.map V.str)) ∧ Q (.bl (decide (x ∈ bs.map V.str))) H
theorem op_inK (hu : X.A.units + 1 < cLine) : OpR X (compareOp .In) rInK := by
  intro pins s σ H x y v u Q I rx ry h
  obtain ⟨T, p, bs, k, rfl, hp, q⟩ := h
  by_cases hT : T = "str"
  · obtain ⟨z, rfl⟩ := kind_str k hT
    refine op_in_seq pins s σ H _ _ v u Q I rx ry ⟨p, _, rfl, Or.inr (SqT.of hp), rfl, ?_, ?_⟩
    · rw [List.all_map]
      exact List.all_eq_true.mpr fun _ _ => rfl
    · have e : inV (V.str z) (bs.map V.str) = decide (V.str z ∈ bs.map V.str) := by
        rw [inV_strK]
        simp
      rw [if_neg (by decide), e]
      exact q
  · have e : decide (x ∈ bs.map V.str) = false := decide_eq_false fun e => by
      obtain ⟨b, _, rfl⟩ := List.mem_map.mp e
      exact hT (kind_nstr k)
    rw [e] at q
    cases ry
    obtain ⟨hsz, its, rv, o, h1, h2, n, h3⟩ := I.hok _ _ hp
    refine SeqAt.in_tupleAt (fun _ => false) ⟨o, h1, h2, n, h3⟩ (fun y hy0 => ?_) ⟨.bl _, H, I, rfl, ?_⟩
    · obtain ⟨b, t, rfl⟩ : ∃ b t, y = .str b t := by
        have hy : y ∈ its := by simpa using hy0
        clear hy0 h3 e q hp hsz
        generalize hbs : bs.map V.str = vs at rv
        induction rv generalizing bs with
        | nil => simp at hy
        | cons r1 r2 ih =>
          match bs, hbs with
          | b :: bs, hbs =>
            injection hbs with e1 e2
            subst e1
            rcases List.mem_cons.mp hy with rfl | hy
            · obtain ⟨t, rfl⟩ := r1
              exact ⟨_, _, rfl⟩
            · exact ih bs hy e2
      exact (rc_kind I rx k hT hu b t).2
    · have e : its.toArray.any (fun _ => false) = false := by simp
      rw [e]
      exact q
end
end H4
end
section
set_option Elab.async false
set_option linter.all false
set_option maxRecDepth 100000
set_option maxHeartbeats 4000000
namespace K4
open PySem PySem.Spec PyProof.Rows L2 H4
/-! ### any value of the common kinds -/
inductive Od where
  | non
  | bl (b : Bool)
  | int (i : Int)
  | str (z : Str)
  | lst (os : List Od)
  | tup (os : List Od)
  | dct
mutual
inductive OdV (H : Hp) : V → Od → Prop
  | non : OdV H .non .non
  | bl (b : Bool) : OdV H (.bl b) (.bl b)
  | int (i : Int) : OdV H (.int i) (.int i)
  | str (z : Str) (h : z.length ≤ 100) : OdV H (.str z) (.str z)
  | lst {a : Addr} {xs : List V} {os : List Od} (h : H a = some (.lst xs)) (hs : OdA H xs os) : OdV H (.ref a) (.lst os)
  | tup {a : Addr} {xs : List V} {os : List Od} (h : H a = some (.tup xs)) (hs : OdA H xs os) : OdV H (.ref a) (.tup os)
  | dct {a : Addr} {kvs : List (Key × V)} (h : H a = some (.dK kvs)) : OdV H (.ref a) .dct
inductive OdA (H : Hp) : List V → List Od → Prop
  | nil : OdA H [] []
  | cons {v : V} {vs : List V} {o : Od} {os : List Od} (h : OdV H v o) (hs : OdA H vs os) : OdA H (v :: vs) (o :: os)
end
mutual
theorem OdV.keep {H H' : Hp} (s : Same H H') : ∀ (o : Od) (v : V), OdV H v o → OdV H' v o
  | .non, _, h => by cases h; exact .non
  | .bl b, _, h => by cases h; exact .bl b
  | .int i, _, h => by cases h; exact .int i
  | .str x, _, h => by
    cases h with
    | str x hx => exact .str x hx
  | .lst os, _, h => by
    cases h with
    | lst h hs => exact .lst (s _ _ h) (OdA.keep s os _ hs)
  | .tup os, _, h => by
    cases h with
    | tup h hs => exact .tup (s _ _ h) (OdA.keep s os _ hs)
  | .dct, _, h => by
    cases h with
    | dct h => exact .dct (s _ _ h)
theorem OdA.keep {H H' : Hp} (s : Same H H') : ∀ (os : List Od) (vs : List V), OdA H vs os → OdA H' vs os
  | [], _, h => by cases h; exact .nil
  | o :: os, _, h => by
    cases h with
    | cons h hs => exact .cons (OdV.keep s o _ h) (OdA.keep s os _ hs)
end
theorem OdA.len {H : Hp} : ∀ {vs : List V} {os : List Od}, OdA H vs os → vs.length = os.length
  | [], _, h => by cases h; rfl
  | _ :: _, _, h => by
    cases h with
    | cons _ hs => rw [List.length_cons, List.length_cons, hs.len]
def Od.kd : Od → String
  | .non => "NoneType"
  | .bl _ => "bool"
  | .int _ => "int"
  | .str _ => "str"
  | .lst _ => "list"
  | .tup _ => "tuple"
  | .dct => "dict"
theorem OdV.kind {H : Hp} {v : V} {o : Od} (h : OdV H v o) : KindV H v (.type o.kd) := by
  cases h with
  | non => exact .non
  | bl b => exact .bl b
  | int i => exact .int i
  | str z h => exact .str z
  | lst h hs => exact .lst h
  | tup h hs => exact .tup h
  | dct h => exact .dct h
theorem OdV.ty {K : PySem.W.Frag} {H : Hp} {v : V} {o : Od} (h : OdV H v o) : TyX K H v (.type o.kd) := (kind_ty h.kind).1
theorem nf : ¬ (false = true) := by decide
def isWholeO : Od → Bool
  | .int _ => true
  | _ => false
def isCountO : Od → Bool
  | .int i => decide (0 ≤ i)
  | _ => false
instance (z : Str) : Decidable (Wd z) := by
  unfold Wd
  infer_instance
def isWordO : Od → Bool
  | .str z => decide (Wd z)
  | _ => false
section
variable {P : Program} {w : World} {K : PySem.W.Frag} {mg : Str → Option Value} {base : Heap}
/-! ### is_whole, is_count -/
def spIsWholeO : Sp := fun vs H Q _ => ∃ (v : V) (o : Od), vs = [v] ∧ OdV H v o ∧ Q (.bl (isWholeO o)) H
theorem ok_isWholeO {f : Addr} {fd : FuncData} (F : FnP K "is_whole" sWhole f fd) (T : Tx K mg) : FnOk P w K mg base CX0 1 f fd ["value"] spIsWholeO := by
  refine F.ok scIsWhole (fun vs H Q E h => ?_) (fun cdv A outer s H vs Q E hr h => ?_)
  · obtain ⟨_, _, rfl, _⟩ := h
    rfl
  · obtain ⟨v, o, rfl, ho, q⟩ := h
    have gIs := T.fr "isinstance" (by decide +kernel)
    have gI := T.fr "int" (by decide +kernel)
    have gB := T.fr "bool" (by decide +kernel)
    refine ⟨_, PSs.nox (pss_one (ps_ret (pe_and (pe_callB call_isi (by rfl) gIs (by decide +kernel) (pa_cons (pv 0) (pa_cons (pe_bltn (v := .ty "int") (by rfl) gI (by decide +kernel) rfl) pa_nil)))
      (pe_one (pe_not (pe_callB call_isi (by rfl) gIs (by decide +kernel) (pa_cons (pv 0) (pa_cons (pe_bltn (v := .ty "bool") (by rfl) gB (by decide +kernel) rfl) pa_nil)))))))), ?_⟩
    have ty := ho.ty (K := K)
    cases o with
    | int i => exact ⟨_, rfl, _, _, _, _, _, rfl, .ty _, ty, ktr (show kitB "int" "int" = some true by decide +kernel), _, rfl, ifT rfl ⟨_, rfl, _, _, _, _, _, rfl, .ty _, ty, kfl (show kitB "int" "bool" = some false by decide +kernel), _, rfl, q⟩⟩
    | bl b => exact ⟨_, rfl, _, _, _, _, _, rfl, .ty _, ty, ktr (show kitB "bool" "int" = some true by decide +kernel), _, rfl, ifT rfl ⟨_, rfl, _, _, _, _, _, rfl, .ty _, ty, ktr (show kitB "bool" "bool" = some true by decide +kernel), _, rfl, q⟩⟩
    | non => exact ⟨_, rfl, _, _, _, _, _, rfl, .ty _, ty, kfl (show kitB "NoneType" "int" = some false by decide +kernel), _, rfl, ifF nf q⟩
    | str z => exact ⟨_, rfl, _, _, _, _, _, rfl, .ty _, ty, kfl (show kitB "str" "int" = some false by decide +kernel), _, rfl, ifF nf q⟩
    | lst z => exact ⟨_, rfl, _, _, _, _, _, rfl, .ty _, ty, kfl (show kitB "list" "int" = some false by decide +kernel), _, rfl, ifF nf q⟩
    | tup z => exact ⟨_, rfl, _, _, _, _, _, rfl, .ty _, ty, kfl (show kitB "tuple" "int" = some false by decide +kernel), _, rfl, ifF nf q⟩
    | dct => exact ⟨_, rfl, _, _, _, _, _, rfl, .ty _, ty, kfl (show kitB "dict" "int" = some false by decide +kernel), _, rfl, ifF nf q⟩
def spIsCountO : Sp := fun vs H Q _ => ∃ (v : V) (o : Od), vs = [v] ∧ OdV H v o ∧ Q (.bl (isCountO o)) H
theorem ok_isCountO {f : Addr} {fd : FuncData} (F : FnP K "is_count" sCount f fd) (GW : Fz P w K mg base "is_whole" 1 ["value"] spIsWholeO) (T : Tx K mg) : FnOk P w K mg base CX0 2 f fd ["value"] spIsCountO := by
  refine F.ok scIsCount (fun vs H Q E h => ?_) (fun cdv A outer s H vs Q E hr h => ?_)
  · obtain ⟨_, _, rfl, _⟩ := h
    rfl
  · obtain ⟨v, o, rfl, ho, q⟩ := h
    refine ⟨_, PSs.nox (pss_one (ps_ret (pe_and (pe_fz GW hr (by rfl) (pa_cons (pv 0) pa_nil)) (pe_one (pe_cmpR op_ge (pv 0) pe_int (nomark _)))))), ?_⟩
    refine ⟨_, rfl, v, o, rfl, ho, _, rfl, ?_⟩
    cases o with
    | int i =>
      cases ho
      refine ifT rfl ⟨_, rfl, _, _, rfl, rfl, ?_⟩
      exact q
    | bl b => exact ifF nf q
    | non => exact ifF nf q
    | str z => exact ifF nf q
    | lst z => exact ifF nf q
    | tup z => exact ifF nf q
    | dct => exact ifF nf q
/-! ### is_word -/
def spIsWordO : Sp := fun vs H Q _ => ∃ (v : V) (o : Od), vs = [v] ∧ OdV H v o ∧ ∀ H', Same H H' → Q (.bl (isWordO o)) H'
theorem one_gt {a b : Nat} (h : a < b) : (!decide ((one a).cps.toList < (one b).cps.toList)) = false := by
  have : (one a).cps.toList < (one b).cps.toList := by
    show [a] < [b]
    rw [List.cons_lt_cons_iff]
    exact Or.inl h
  rw [decide_eq_true this]
  rfl
def isLow (c : Nat) : Bool := decide (97 ≤ c) && decide (c ≤ 122)
theorem wd_dec (z : Str) (h1 : 1 ≤ z.length) (h8 : z.length ≤ 8) : decide (Wd z) = (z.cps.toList.map isLow).all id := by
  rw [List.all_map]
  by_cases h : Wd z
  · rw [decide_eq_true h]
    symm
    rw [List.all_eq_true]
    intro c hc
    have := h.2.2 c hc
    show (decide (97 ≤ c) && decide (c ≤ 122)) = true
    rw [decide_eq_true this.1, decide_eq_true this.2]
    rfl
  · rw [decide_eq_false h]
    symm
    rw [Bool.eq_false_iff]
    intro e
    rw [List.all_eq_true] at e
    exact h ⟨h1, h8, fun c hc => by
      have : (decide (97 ≤ c) && decide (c ≤ 122)) = true := e c hc
      simpa using this⟩
theorem ok_isWordO {f : Addr} {fd : FuncData} (F : FnP K "is_word" sIsWord f fd) (T : Tx K mg) : FnOk P w K mg base CX0 1 f fd ["value"] spIsWordO := by
  refine F.ok scIsWord (fun vs H Q E h => ?_) (fun cdv A outer s H vs Q E hr h => ?_)
  · obtain ⟨_, _, rfl, _⟩ := h
    rfl
  · obtain ⟨v, o, rfl, ho, q⟩ := h
    have gIs := T.fr "isinstance" (by decide +kernel)
    have gS := T.fr "str" (by decide +kernel)
    have gL := T.fr "len" (by decide +kernel)
    have gA := T.fr "all" (by decide +kernel)
    have sl := sizeLine_eq
    refine ⟨_, PSs.nox (pss_cons (ps_if (PW.pt (pw_or (pt_not (pt_val (pe_callB call_isi (by rfl) gIs (by decide +kernel) (pa_cons (pv 0) (pa_cons (pe_bltn (v := .ty "str") (by rfl) gS (by decide +kernel) rfl) pa_nil)))))
        (pw_or1 (pt_not (pt_chain op_le op_le pe_int (pe_callB call_len_str (by rfl) gL PySem.boot_len (pa_cons (pv 0) pa_nil)) pe_int))))) (pss_one (ps_ret pe_bl)) pss_nil)
      (pss_one (ps_ret (pe_callB (cr_all rfl) (by rfl) gA (by decide +kernel) (pa_cons (pe_lc (own := [("letter", 1)]) (g := gName 1) (tt := tYes) rfl scIsWord.nd (pi_str (pv 0)) (blkOk_by (own := [("letter", 1)]) (N := ["value", "letter"]) (sc := defScope sIsWord) (by decide +kernel))
        (fun _ _ _ _ _ => pg_name (i := 1) scIsWord.nd rfl (Or.inl rfl)) (fun _ _ _ _ _ => pts_nil) (fun _ _ _ _ _ => pe_chain op_le_str op_le_str pe_str (pv 1) pe_str)) pa_nil))))), ?_⟩
    have ty := ho.ty (K := K)
    have no : ∀ {c : Od}, isWordO c = false → (∀ H', Same H H' → Q (.bl (isWordO c)) H') → Q (.bl false) H := fun e q => by
      have := q H (Same.refl _)
      rwa [e] at this
    cases o with
    | int i => exact ⟨_, rfl, _, _, _, _, _, rfl, .ty _, ty, kfl (show kitB "int" "str" = some false by decide +kernel), _, rfl, ifT (by decide) (no rfl q)⟩
    | bl i => exact ⟨_, rfl, _, _, _, _, _, rfl, .ty _, ty, kfl (show kitB "bool" "str" = some false by decide +kernel), _, rfl, ifT (by decide) (no rfl q)⟩
    | non => exact ⟨_, rfl, _, _, _, _, _, rfl, .ty _, ty, kfl (show kitB "NoneType" "str" = some false by decide +kernel), _, rfl, ifT (by decide) (no rfl q)⟩
    | lst i => exact ⟨_, rfl, _, _, _, _, _, rfl, .ty _, ty, kfl (show kitB "list" "str" = some false by decide +kernel), _, rfl, ifT (by decide) (no rfl q)⟩
    | tup i => exact ⟨_, rfl, _, _, _, _, _, rfl, .ty _, ty, kfl (show kitB "tuple" "str" = some false by decide +kernel), _, rfl, ifT (by decide) (no rfl q)⟩
    | dct => exact ⟨_, rfl, _, _, _, _, _, rfl, .ty _, ty, kfl (show kitB "dict" "str" = some false by decide +kernel), _, rfl, ifT (by decide) (no rfl q)⟩
    | str z =>
      have hz : z.length ≤ 100 := by
        cases ho with
        | str z h => exact h
      cases ho
      have lz := str_length z
      refine ⟨_, rfl, _, _, _, _, _, rfl, .ty _, .base (.str z), ktr (by decide +kernel), _, rfl, ifF (by decide) ?_⟩
      by_cases h1 : 1 ≤ z.length
      · by_cases h8 : z.length ≤ 8
        · refine ⟨_, rfl, z, rfl, by omega, _, _, rfl, rfl, _, rfl, ifT (decide_eq_true (by omega)) ⟨_, _, rfl, rfl, _, rfl, ?_⟩⟩
          rw [decide_eq_true (show (z.length : Int) ≤ 8 by omega)]
          refine ifF (by decide) ?_
          refine ⟨_, rfl, z, rfl, fun D nD => ?_⟩
          refine lc_it walk_str (fun j H' => Same H H' ∧ H' D = some (.lst (((z.cps.toList.take j).map isLow).map V.bl))) ⟨same_upd nD, upd_same⟩ (fun _ _ _ _ => trivial) ?_ ?_
          · rintro j x H0 H1 hj ⟨s1, hD⟩ ⟨rfl, c, hc, rfl⟩
            have hc' : z.cps.toList[j]? = some c := by rwa [Array.getElem?_toList]
            have fin : upd H1 D (.lst (((z.cps.toList.take j).map isLow).map V.bl ++ [V.bl (isLow c)])) D = some (.lst (((z.cps.toList.take (j + 1)).map isLow).map V.bl)) := by
              rw [upd_same, List.take_add_one, hc']
              simp
            have len : (((z.cps.toList.take j).map isLow).map V.bl).length < sizeLine := by
              rw [List.length_map, List.length_map, List.length_take]
              have : z.cps.size = z.cps.toList.length := by simp
              omega
            have sm : Same H (upd H1 D (.lst (((z.cps.toList.take j).map isLow).map V.bl ++ [V.bl (isLow c)]))) := fun b o eb => by
              rw [upd_ne (ne_of_none eb nD)]
              exact s1 _ _ eb
            refine ⟨rfl, _, rfl, _, _, rfl, rfl, _, rfl, ?_⟩
            by_cases b1 : 97 ≤ c
            · refine ifT (one_lt (b := 97) b1) ⟨_, _, rfl, rfl, _, hD, len, ?_⟩
              have e2 : (!decide (("z" : Str).cps.toList < (one c).cps.toList)) = isLow c := by
                by_cases b2 : c ≤ 122
                · rw [show (!decide (("z" : Str).cps.toList < (one c).cps.toList)) = true from one_lt (a := 122) b2]
                  unfold isLow
                  rw [decide_eq_true b1, decide_eq_true b2]
                  rfl
                · rw [show (!decide (("z" : Str).cps.toList < (one c).cps.toList)) = false from one_gt (a := 122) (by omega)]
                  unfold isLow
                  rw [decide_eq_true b1, decide_eq_false b2]
                  rfl
              have e3 : V.bl (!decide (("z" : Str).cps.toList < (one c).cps.toList)) = V.bl (isLow c) := by rw [e2]
              rw [show V.bl (!decide (("z" : Str).cps.toList < (Str.mk #[c]).cps.toList)) = V.bl (isLow c) from e3]
              exact ⟨sm, fin⟩
            · have e2 : (!decide ((one c).cps.toList < ("a" : Str).cps.toList)) = false := one_gt (a := c) (b := 97) (by omega)
              have e3 : isLow c = false := by
                unfold isLow
                rw [decide_eq_false b1]
                rfl
              refine ifF (by rw [show (!decide ((Str.mk #[c]).cps.toList < ("a" : Str).cps.toList)) = false from e2]; decide) ⟨_, hD, len, ?_⟩
              rw [e3] at sm fin
              exact ⟨sm, fin⟩
          · rintro H' ⟨s1, hD⟩
            rw [List.take_of_length_le (by simp)] at hD
            refine ⟨D, z.cps.toList.map isLow, rfl, SqL.of hD, ?_⟩
            rw [← wd_dec z h1 h8]
            exact q H' s1
        · have e : isWordO (.str z) = false := decide_eq_false fun h => h8 (by rw [lz]; exact h.2.1)
          refine ⟨_, rfl, z, rfl, by omega, _, _, rfl, rfl, _, rfl, ifT (decide_eq_true (by omega)) ⟨_, _, rfl, rfl, _, rfl, ?_⟩⟩
          rw [decide_eq_false (show ¬ (z.length : Int) ≤ 8 by omega)]
          exact ifT (by decide) (no e q)
      · have e : isWordO (.str z) = false := decide_eq_false fun h => h1 (by rw [lz]; exact h.1)
        refine ⟨_, rfl, z, rfl, by omega, _, _, rfl, rfl, _, rfl, ifF (by rw [decide_eq_false (show ¬ (1 : Int) ≤ z.length by omega)]; decide) ?_⟩
        exact ⟨_, rfl, ifT (by rfl) (no e q)⟩
end
end K4
end
section
set_option Elab.async false
set_option linter.all false
set_option maxRecDepth 100000
set_option maxHeartbeats 4000000
namespace K4
open PySem PySem.Spec PyProof.Rows L2 H4
def isStreetO : Od → Bool
  | .tup [a, b, c, d, e] => isWordO a && (isWordO b && (isWordO c && (match b, c with | .str x, .str y => decide (x ≠ y) | _, _ => false) && (isCountO d && isCountO e)))
  | _ => false
theorem word_str {o : Od} (h : isWordO o = true) : ∃ z, o = .str z ∧ Wd z := by
  cases o with
  | str z => exact ⟨z, rfl, of_decide_eq_true h⟩
  | _ => exact absurd h nf
section
variable {P : Program} {w : World} {K : PySem.W.Frag} {mg : Str → Option Value} {base : Heap}
def spIsStreetO : Sp := fun vs H Q _ => ∃ (v : V) (o : Od), vs = [v] ∧ OdV H v o ∧ ∀ H', Same H H' → Q (.bl (isStreetO o)) H'
theorem street_len {os : List Od} (h : os.length ≠ 5) : isStreetO (.tup os) = false := by
  match os, h with
  | [], _ => rfl
  | [_], _ => rfl
  | [_, _], _ => rfl
  | [_, _, _], _ => rfl
  | [_, _, _, _], _ => rfl
  | [_, _, _, _, _], h => exact absurd rfl h
  | _ :: _ :: _ :: _ :: _ :: _ :: _, _ => rfl
theorem oda5 {H : Hp} {xs : List V} {a b c d e : Od} (h : OdA H xs [a, b, c, d, e]) : ∃ v1 v2 v3 v4 v5, xs = [v1, v2, v3, v4, v5] ∧ OdV H v1 a ∧ OdV H v2 b ∧ OdV H v3 c ∧ OdV H v4 d ∧ OdV H v5 e := by
  cases h with
  | cons h1 h =>
  cases h with
  | cons h2 h =>
  cases h with
  | cons h3 h =>
  cases h with
  | cons h4 h =>
  cases h with
  | cons h5 h =>
  cases h
  exact ⟨_, _, _, _, _, rfl, h1, h2, h3, h4, h5⟩
theorem ok_isStreetO {f : Addr} {fd : FuncData} (F : FnP K "is_street" sIsStreet f fd) (GC : Fz P w K mg base "is_count" 2 ["value"] spIsCountO) (GW : Fz P w K mg base "is_word" 1 ["value"] spIsWordO) (T : Tx K mg) : FnOk P w K mg base CX0 3 f fd ["value"] spIsStreetO := by
  refine F.ok scIsStreet (fun vs H Q E h => ?_) (fun cdv A outer s H vs Q E hr h => ?_)
  · obtain ⟨_, _, rfl, _⟩ := h
    rfl
  · obtain ⟨v, o, rfl, ho, q⟩ := h
    have gIs := T.fr "isinstance" (by decide +kernel)
    have gTu := T.fr "tuple" (by decide +kernel)
    have gL := T.fr "len" (by decide +kernel)
    refine ⟨_, PSs.nox (pss_cons (ps_if (PW.pt (pw_or (pt_not (pt_val (pe_callB call_isi (by rfl) gIs (by decide +kernel) (pa_cons (pv 0) (pa_cons (pe_bltn (v := .ty "tuple") (by rfl) gTu (by decide +kernel) rfl) pa_nil)))))
        (pw_or1 (pt_cmpR op_ne (pe_callB call_len_seq (by rfl) gL PySem.boot_len (pa_cons (pv 0) pa_nil)) pe_int (nomark _))))) (pss_one (ps_ret pe_bl)) pss_nil)
      (pss_cons (ps_asg (pv 0) (pg_tup rfl (pgs_cons (pg_name (i := 1) scIsStreet.nd rfl (Or.inl rfl)) (pgs_cons (pg_name (i := 2) scIsStreet.nd rfl (Or.inl rfl)) (pgs_cons (pg_name (i := 3) scIsStreet.nd rfl (Or.inl rfl)) (pgs_cons (pg_name (i := 4) scIsStreet.nd rfl (Or.inl rfl)) (pgs_cons (pg_name (i := 5) scIsStreet.nd rfl (Or.inl rfl)) pgs_nil)))))))
      (pss_cons (ps_if (pt_not (PW.pt (pw_and (pt_val (pe_fz GW (hr.mono (by decide)) (by rfl) (pa_cons (pv 1) pa_nil))) (pw_and (pt_val (pe_fz GW (hr.mono (by decide)) (by rfl) (pa_cons (pv 2) pa_nil))) (pw_and1 (pt_val (pe_fz GW (hr.mono (by decide)) (by rfl) (pa_cons (pv 3) pa_nil)))))))) (pss_one (ps_ret pe_bl)) pss_nil)
      (pss_one (ps_ret (pe_and (pe_cmpR op_ne (pv 2) (pv 3) (nomark _)) (pe_and (pe_fz GC hr (by rfl) (pa_cons (pv 4) pa_nil)) (pe_one (pe_fz GC hr (by rfl) (pa_cons (pv 5) pa_nil)))))))))), ?_⟩
    have ty := ho.ty (K := K)
    have no : ∀ {c : Od} {H1 : Hp}, Same H H1 → isStreetO c = false → (∀ H', Same H H' → Q (.bl (isStreetO c)) H') → Q (.bl false) H1 := fun s e q => by
      have := q _ s
      rwa [e] at this
    have s0 := Same.refl H
    cases o with
    | int i => exact ⟨_, rfl, _, _, _, _, _, rfl, .ty _, ty, kfl (show kitB "int" "tuple" = some false by decide +kernel), _, rfl, ifT (by decide) (no s0 rfl q)⟩
    | bl i => exact ⟨_, rfl, _, _, _, _, _, rfl, .ty _, ty, kfl (show kitB "bool" "tuple" = some false by decide +kernel), _, rfl, ifT (by decide) (no s0 rfl q)⟩
    | non => exact ⟨_, rfl, _, _, _, _, _, rfl, .ty _, ty, kfl (show kitB "NoneType" "tuple" = some false by decide +kernel), _, rfl, ifT (by decide) (no s0 rfl q)⟩
    | lst i => exact ⟨_, rfl, _, _, _, _, _, rfl, .ty _, ty, kfl (show kitB "list" "tuple" = some false by decide +kernel), _, rfl, ifT (by decide) (no s0 rfl q)⟩
    | str i => exact ⟨_, rfl, _, _, _, _, _, rfl, .ty _, ty, kfl (show kitB "str" "tuple" = some false by decide +kernel), _, rfl, ifT (by decide) (no s0 rfl q)⟩
    | dct => exact ⟨_, rfl, _, _, _, _, _, rfl, .ty _, ty, kfl (show kitB "dict" "tuple" = some false by decide +kernel), _, rfl, ifT (by decide) (no s0 rfl q)⟩
    | tup os =>
      cases ho with
      | @tup t xs _ ht hs =>
      refine ⟨_, rfl, _, _, _, _, _, rfl, .ty _, .base (.tup ht), ktr (by decide +kernel), _, rfl, ifF (by decide) ?_⟩
      refine ⟨_, rfl, t, _, rfl, Or.inr (SqT.of ht), rfl, _, rfl, ?_⟩
      by_cases h5 : os.length = 5
      · match os, h5, hs, q with
        | [a, b, c, d, e], _, hs, q =>
        obtain ⟨v1, v2, v3, v4, v5, rfl, h1, h2, h3, h4, h5⟩ := oda5 hs
        refine ifF (by show ¬ (!decide (V.int 5 = V.int 5)) = true; decide) ?_
        refine ⟨_, rfl, t, _, rfl, SqT.of ht, rfl, _, _, rfl, _, _, rfl, _, _, rfl, _, _, rfl, _, _, rfl, rfl, ?_⟩
        refine ⟨_, rfl, v1, a, rfl, h1, fun H1 s1 => ⟨_, rfl, ?_⟩⟩
        cases e1 : isWordO a with
        | false => exact ifF nf (ifT (by decide) (no s1 (by simp [isStreetO, e1]) q))
        | true =>
        refine ifT rfl ⟨_, rfl, v2, b, rfl, h2.keep s1, fun H2 s2 => ⟨_, rfl, ?_⟩⟩
        have s12 := same_trans s1 s2
        cases e2 : isWordO b with
        | false => exact ifF nf (ifT (by decide) (no s12 (by simp [isStreetO, e2]) q))
        | true =>
        refine ifT rfl ⟨_, rfl, v3, c, rfl, h3.keep s12, fun H3 s3 => ⟨_, rfl, ?_⟩⟩
        have s13 := same_trans s12 s3
        cases e3 : isWordO c with
        | false => exact ifT (by decide) (no s13 (by simp [isStreetO, e3]) q)
        | true =>
        refine ifF (by decide) ?_
        obtain ⟨x, rfl, _⟩ := word_str e2
        obtain ⟨y, rfl, _⟩ := word_str e3
        cases h2
        cases h3
        refine ⟨_, rfl, _, rfl, rfl, _, rfl, ?_⟩
        by_cases exy : x = y
        · exact ifF (by simp [exy]) (by
            have := no (c := .tup [a, .str x, .str y, d, e]) s13 (by simp [isStreetO, exy]) q
            simpa [exy] using this)
        · refine ifT (by simpa using exy) ⟨_, rfl, v4, d, rfl, h4.keep s13, _, rfl, ?_⟩
          cases e4 : isCountO d with
          | false => exact ifF nf (no s13 (by simp [isStreetO, e4]) q)
          | true =>
            refine ifT rfl ⟨_, rfl, v5, e, rfl, h5.keep s13, ?_⟩
            have := q H3 s13
            rwa [show isStreetO (.tup [a, .str x, .str y, d, e]) = isCountO e by simp [isStreetO, e1, e2, e3, e4, exy]] at this
      · refine ifT ?_ (no s0 (street_len h5) q)
        rw [decide_eq_false]
        · rfl
        · intro e
          injection e with e
          have := hs.len
          omega
end
end K4
end
section
set_option Elab.async false
set_option linter.all false
set_option maxRecDepth 100000
set_option maxHeartbeats 4000000
namespace K4
open PySem PySem.Spec PyProof.Rows L2 H4
def Od.isS : Od → Str → Bool
  | .str y, z => decide (y = z)
  | _, _ => false
def isChangeO : Od → Bool
  | .tup [a, b, c] => (a.isS "width" || a.isS "length") && (isWordO b && isCountO c)
  | .tup [a, b] => if a.isS "put" then isStreetO b else (a.isS "out" || a.isS "turn") && isWordO b
  | _ => false
theorem od_in {H : Hp} {v : V} {o : Od} (h : OdV H v o) (z1 z2 : Str) : decide (v ∈ [z1, z2].map V.str) = (o.isS z1 || o.isS z2) := by
  cases h with
  | str z hz =>
    by_cases e1 : z = z1
    · simp [Od.isS, e1]
    · by_cases e2 : z = z2
      · simp [Od.isS, e2]
      · simp [Od.isS, e1, e2]
  | _ => simp [Od.isS]
theorem od_eq {H : Hp} {v : V} {o : Od} (h : OdV H v o) (z : Str) : decide (v = V.str z) = o.isS z := by
  cases h with
  | str y hy => simp [Od.isS]
  | _ => simp [Od.isS]
theorem oda3 {H : Hp} {xs : List V} {a b c : Od} (h : OdA H xs [a, b, c]) : ∃ v1 v2 v3, xs = [v1, v2, v3] ∧ OdV H v1 a ∧ OdV H v2 b ∧ OdV H v3 c := by
  cases h with
  | cons h1 h =>
  cases h with
  | cons h2 h =>
  cases h with
  | cons h3 h =>
  cases h
  exact ⟨_, _, _, rfl, h1, h2, h3⟩
theorem oda2 {H : Hp} {xs : List V} {a b : Od} (h : OdA H xs [a, b]) : ∃ v1 v2, xs = [v1, v2] ∧ OdV H v1 a ∧ OdV H v2 b := by
  cases h with
  | cons h1 h =>
  cases h with
  | cons h2 h =>
  cases h
  exact ⟨_, _, rfl, h1, h2⟩
theorem change_len {os : List Od} (h3 : os.length ≠ 3) (h2 : os.length ≠ 2) : isChangeO (.tup os) = false := by
  match os, h3, h2 with
  | [], _, _ => rfl
  | [_], _, _ => rfl
  | [_, _], _, h => exact absurd rfl h
  | [_, _, _], h, _ => exact absurd rfl h
  | _ :: _ :: _ :: _ :: _, _, _ => rfl
section
variable {P : Program} {w : World} {K : PySem.W.Frag} {mg : Str → Option Value} {base : Heap}
def spIsChangeO : Sp := fun vs H Q _ => ∃ (v : V) (o : Od), vs = [v] ∧ OdV H v o ∧ ∀ H', Same H H' → Q (.bl (isChangeO o)) H'
theorem scIsChange : FnScope ["value"] ["value"] (defScope sIsChange) := ⟨rfl, rfl, rfl, by decide +kernel, rfl, by decide +kernel, by decide +kernel⟩
theorem ok_isChangeO {f : Addr} {fd : FuncData} (F : FnP K "is_change" sIsChange f fd) (GC : Fz P w K mg base "is_count" 2 ["value"] spIsCountO) (GW : Fz P w K mg base "is_word" 1 ["value"] spIsWordO) (GS : Fz P w K mg base "is_street" 3 ["value"] spIsStreetO) (T : Tx K mg) : FnOk P w K mg base CX0 4 f fd ["value"] spIsChangeO := by
  refine F.ok scIsChange (fun vs H Q E h => ?_) (fun cdv A outer s H vs Q E hr h => ?_)
  · obtain ⟨_, _, rfl, _⟩ := h
    rfl
  · obtain ⟨v, o, rfl, ho, q⟩ := h
    have gIs := T.fr "isinstance" (by decide +kernel)
    have gTu := T.fr "tuple" (by decide +kernel)
    have gL := T.fr "len" (by decide +kernel)
    have r1 : Room 1 (A.deeper (envOfC "is_change" (defScope sIsChange) s.heap.objs.size f cdv)) := hr.mono (by decide)
    have r2 : Room 2 (A.deeper (envOfC "is_change" (defScope sIsChange) s.heap.objs.size f cdv)) := hr.mono (by decide)
    have hu : (A.deeper (envOfC "is_change" (defScope sIsChange) s.heap.objs.size f cdv)).units + 65 < cLine := by
      have := hr.un
      omega
    have hu1 : (A.deeper (envOfC "is_change" (defScope sIsChange) s.heap.objs.size f cdv)).units + 1 < cLine := by omega
    have hu0 : (A.deeper (envOfC "is_change" (defScope sIsChange) s.heap.objs.size f cdv)).units < cLine := by omega
    refine ⟨_, PSs.nox (pss_cons (ps_if (pt_not (pt_val (pe_callB call_isi (by rfl) gIs (by decide +kernel) (pa_cons (pv 0) (pa_cons (pe_bltn (v := .ty "tuple") (by rfl) gTu (by decide +kernel) rfl) pa_nil))))) (pss_one (ps_ret pe_bl)) pss_nil)
      (pss_cons (ps_if (pt_cmpR op_eq (pe_callB call_len_seq (by rfl) gL PySem.boot_len (pa_cons (pv 0) pa_nil)) pe_int (nomark _))
        (pss_one (ps_ret (pe_and (pe_cmpR (op_inK hu1) (pe_ix ix_tup (pv 0) pe_int (fun _ _ => rfl)) (pe_tup (pa_cons pe_str (pa_cons pe_str pa_nil))) rfl) (pe_and (pe_fz GW r1 (by rfl) (pa_cons (pe_ix ix_tup (pv 0) pe_int (fun _ _ => rfl)) pa_nil)) (pe_one (pe_fz GC r2 (by rfl) (pa_cons (pe_ix ix_tup (pv 0) pe_int (fun _ _ => rfl)) pa_nil))))))) pss_nil)
      (pss_cons (ps_if (pt_cmpR op_ne (pe_callB call_len_seq (by rfl) gL PySem.boot_len (pa_cons (pv 0) pa_nil)) pe_int (nomark _)) (pss_one (ps_ret pe_bl)) pss_nil)
      (pss_cons (ps_if (pt_cmpR (op_eqK hu0) (pe_ix ix_tup (pv 0) pe_int (fun _ _ => rfl)) pe_str (nomark _)) (pss_one (ps_ret (pe_fz GS hr (by rfl) (pa_cons (pe_ix ix_tup (pv 0) pe_int (fun _ _ => rfl)) pa_nil)))) pss_nil)
      (pss_one (ps_ret (pe_and (pe_cmpR (op_inK hu1) (pe_ix ix_tup (pv 0) pe_int (fun _ _ => rfl)) (pe_tup (pa_cons pe_str (pa_cons pe_str pa_nil))) rfl) (pe_one (pe_fz GW r1 (by rfl) (pa_cons (pe_ix ix_tup (pv 0) pe_int (fun _ _ => rfl)) pa_nil)))))))))), ?_⟩
    have ty := ho.ty (K := K)
    have no : ∀ {c : Od} {H1 : Hp}, Same H H1 → isChangeO c = false → (∀ H', Same H H' → Q (.bl (isChangeO c)) H') → Q (.bl false) H1 := fun s e q => by
      have := q _ s
      rwa [e] at this
    have s0 := Same.refl H
    have two : 2 ≤ sizeLine := by decide +kernel
    cases o with
    | int i => exact ⟨_, rfl, _, _, _, _, _, rfl, .ty _, ty, kfl (show kitB "int" "tuple" = some false by decide +kernel), _, rfl, ifT (by decide) (no s0 rfl q)⟩
    | bl i => exact ⟨_, rfl, _, _, _, _, _, rfl, .ty _, ty, kfl (show kitB "bool" "tuple" = some false by decide +kernel), _, rfl, ifT (by decide) (no s0 rfl q)⟩
    | non => exact ⟨_, rfl, _, _, _, _, _, rfl, .ty _, ty, kfl (show kitB "NoneType" "tuple" = some false by decide +kernel), _, rfl, ifT (by decide) (no s0 rfl q)⟩
    | lst i => exact ⟨_, rfl, _, _, _, _, _, rfl, .ty _, ty, kfl (show kitB "list" "tuple" = some false by decide +kernel), _, rfl, ifT (by decide) (no s0 rfl q)⟩
    | str i => exact ⟨_, rfl, _, _, _, _, _, rfl, .ty _, ty, kfl (show kitB "str" "tuple" = some false by decide +kernel), _, rfl, ifT (by decide) (no s0 rfl q)⟩
    | dct => exact ⟨_, rfl, _, _, _, _, _, rfl, .ty _, ty, kfl (show kitB "dict" "tuple" = some false by decide +kernel), _, rfl, ifT (by decide) (no s0 rfl q)⟩
    | tup os =>
      cases ho with
      | @tup t xs _ ht hs =>
      have hl := hs.len
      refine ⟨_, rfl, _, _, _, _, _, rfl, .ty _, .base (.tup ht), ktr (by decide +kernel), _, rfl, ifF (by decide) ?_⟩
      refine ⟨_, rfl, t, _, rfl, Or.inr (SqT.of ht), rfl, _, rfl, ?_⟩
      by_cases h3 : os.length = 3
      · match os, h3, hs, q with
        | [a, b, c], _, hs, q =>
        obtain ⟨v1, v2, v3, rfl, h1, h2, h3⟩ := oda3 hs
        refine ifT (by show decide (V.int 3 = V.int 3) = true; decide) ⟨_, rfl, t, _, ((0 : Nat) : Int), _, rfl, rfl, SqT.of ht, atI_nat rfl, two, fun p np => ?_⟩
        have s1 := same_upd (o := .tup [V.str "width", V.str "length"]) np
        have hp : upd H p (.tup [V.str "width", V.str "length"]) p = some (.tup (([("width" : Str), "length"] : List Str).map V.str)) := upd_same
        generalize upd H p (.tup [V.str "width", V.str "length"]) = H1 at s1 hp ⊢
        refine ⟨_, p, ["width", "length"], (h1.keep s1).kind, rfl, hp, _, rfl, ?_⟩
        rw [od_in h1]
        cases e1 : (a.isS "width" || a.isS "length") with
        | false => exact ifF nf (no s1 (by simp [isChangeO, e1]) q)
        | true =>
        refine ifT rfl ⟨_, rfl, t, _, ((1 : Nat) : Int), _, rfl, rfl, SqT.of (s1 _ _ ht), atI_nat rfl, v2, b, rfl, h2.keep s1, fun H2 s2 => ⟨_, rfl, ?_⟩⟩
        have s12 := same_trans s1 s2
        cases e2 : isWordO b with
        | false => exact ifF nf (no s12 (by simp [isChangeO, e2]) q)
        | true =>
        refine ifT rfl ⟨_, rfl, t, _, ((2 : Nat) : Int), _, rfl, rfl, SqT.of (s12 _ _ ht), atI_nat rfl, v3, c, rfl, h3.keep s12, ?_⟩
        have := q _ s12
        rwa [show isChangeO (.tup [a, b, c]) = isCountO c by simp [isChangeO, e1, e2]] at this
      · refine ifF ?_ ⟨_, rfl, t, _, rfl, Or.inr (SqT.of ht), rfl, _, rfl, ?_⟩
        · rw [decide_eq_false]
          · decide
          · intro e
            injection e with e
            omega
        by_cases h2 : os.length = 2
        · match os, h2, hs, q with
          | [a, b], _, hs, q =>
          obtain ⟨v1, v2, rfl, h1, h2⟩ := oda2 hs
          refine ifF (by show ¬ (!decide (V.int 2 = V.int 2)) = true; decide) ?_
          refine ⟨_, rfl, t, _, ((0 : Nat) : Int), _, rfl, rfl, SqT.of ht, atI_nat rfl, _, "put", h1.kind, rfl, _, rfl, ?_⟩
          rw [od_eq h1]
          cases e1 : a.isS "put" with
          | true =>
            refine ifT rfl ⟨_, rfl, t, _, ((1 : Nat) : Int), _, rfl, rfl, SqT.of ht, atI_nat rfl, v2, b, rfl, h2, fun H2 s2 => ?_⟩
            have := q _ s2
            rwa [show isChangeO (.tup [a, b]) = isStreetO b by simp [isChangeO, e1]] at this
          | false =>
            refine ifF nf ⟨_, rfl, t, _, ((0 : Nat) : Int), _, rfl, rfl, SqT.of ht, atI_nat rfl, two, fun p np => ?_⟩
            have s1 := same_upd (o := .tup [V.str "out", V.str "turn"]) np
            have hp : upd H p (.tup [V.str "out", V.str "turn"]) p = some (.tup (([("out" : Str), "turn"] : List Str).map V.str)) := upd_same
            generalize upd H p (.tup [V.str "out", V.str "turn"]) = H1 at s1 hp ⊢
            refine ⟨_, p, ["out", "turn"], (h1.keep s1).kind, rfl, hp, _, rfl, ?_⟩
            rw [od_in h1]
            cases e2 : (a.isS "out" || a.isS "turn") with
            | false => exact ifF nf (no s1 (by simp [isChangeO, e1, e2]) q)
            | true =>
            refine ifT rfl ⟨_, rfl, t, _, ((1 : Nat) : Int), _, rfl, rfl, SqT.of (s1 _ _ ht), atI_nat rfl, v2, b, rfl, h2.keep s1, fun H2 s2 => ?_⟩
            have := q _ (same_trans s1 s2)
            rwa [show isChangeO (.tup [a, b]) = isWordO b by simp [isChangeO, e1, e2]] at this
        · refine ifT ?_ (no s0 (change_len h3 h2) q)
          rw [decide_eq_false]
          · rfl
          · intro e
            injection e with e
            omega
end
end K4
end
section
set_option Elab.async false
set_option linter.all false
set_option maxRecDepth 100000
set_option maxHeartbeats 4000000
namespace H3
open PySem PySem.Spec PyProof.Rows L2
theorem same_upd {H : Hp} {a : Addr} {o : HO} (h : H a = none) : Same H (upd H a o) := fun b u e => by
  rw [upd_ne (ne_of_none e h)]
  exact e
theorem same_trans {A B C : Hp} (x : Same A B) (y : Same B C) : Same A C := fun b u e => y b u (x b u e)
/-- a comprehension over a list: what it makes, told of each item by R -/
theorem lc_gen {α : Type} {K : PySem.W.Frag} {l : Addr} {us : List α} {vf : α → V} {p : α → Bool} {R : α → V → Hp → Prop} {g : TG} {tt : TT} {te : TE} {vs : List Nat} {σ : L2.St} {H1 : Hp} {D : Addr} {Qd : Hp → Prop}
    (nD : H1 D = none) (hl : H1 l = some (.lst (us.map vf))) (hz : us.length < sizeLine) (mono : ∀ u y H H', R u y H → (∀ b o, b ≠ D → H b = some o → H' b = some o) → R u y H')
    (hs : ∀ u ∈ us, ∀ H', Same H1 H' → (∃ acc, H' D = some (.lst acc)) → ∀ (N : V → Hp → Prop) (N0 : Hp → Prop), (p u = true → ∀ y H4, Same H' H4 → R u y H4 → N y H4) → (p u = false → ∀ H3, Same H' H3 → N0 H3) →
      g (vf u) (wipe σ vs) H' fun σ2 H2 => wipe σ2 vs = wipe σ vs ∧ tt σ2 H2 fun b H3 => if b = true then te σ2 H3 N else N0 H3)
    (fin : ∀ H' (zs : List (α × V)), Same H1 H' → H' D = some (.lst (zs.map fun z => z.2)) → (zs.map fun z => z.1) = us.filter p → (∀ z ∈ zs, R z.1 z.2 H') → Qd H') :
    ∃ W : Nat → Nat → Hp → Prop, (∃ m, W 0 m (upd H1 D (.lst []))) ∧ ∀ i m H, W i m H →
      ((Itl K l).stop i H ∧ Qd H) ∨ ((Itl K l).go i H ∧ ∃ Nx : Hp → Prop, (∀ H', Nx H' → ∃ m', m' < m ∧ W (i + 1) m' H') ∧ ∀ x H', (Itl K l).yld i H x H' → g x (wipe σ vs) H' fun σ2 H2 => wipe σ2 vs = wipe σ vs ∧ tt σ2 H2 fun b H3 =>
        if b = true then te σ2 H3 fun y H4 => ∃ acc, H4 D = some (.lst acc) ∧ acc.length < sizeLine ∧ Nx (upd H4 D (.lst (acc ++ [y]))) else Nx H3) := by
  refine lc_list (K := K) (a := l) (xs := us.map vf) (fun n H' => Same H1 H' ∧ ∃ zs : List (α × V), H' D = some (.lst (zs.map fun z => z.2)) ∧ (zs.map fun z => z.1) = (us.take n).filter p ∧ ∀ z ∈ zs, R z.1 z.2 H')
    ⟨same_upd nD, [], upd_same, rfl, fun z h => by simp at h⟩ (fun n H' _ h => SqL.of (h.1 _ _ hl)) ?_ ?_
  · rintro n x H' hn ⟨s1, zs, hD, hz1, hR⟩
    rw [List.getElem?_map] at hn
    cases e : us[n]? with
    | none =>
      rw [e] at hn
      cases hn
    | some u =>
      rw [e] at hn
      cases hn
      have um := List.mem_of_getElem? e
      have lt := (List.getElem?_eq_some_iff.mp e).1
      have et : us.take (n + 1) = us.take n ++ [u] := by
        rw [List.take_add_one, e]
        rfl
      have zl : zs.length ≤ n := by
        have h1 := congrArg List.length hz1
        rw [List.length_map] at h1
        have h2 := List.length_filter_le p (us.take n)
        rw [List.length_take] at h2
        omega
      refine hs u um H' s1 ⟨_, hD⟩ _ _ (fun hp y H4 s4 r => ?_) (fun hp H3 s3 => ?_)
      · have ex : Same H1 (upd H4 D (.lst ((zs.map fun z => z.2) ++ [y]))) := fun b o eb => by
          rw [upd_ne (ne_of_none eb nD)]
          exact s4 _ _ (s1 _ _ eb)
        have bu : ∀ b o, b ≠ D → H4 b = some o → upd H4 D (.lst ((zs.map fun z => z.2) ++ [y])) b = some o := fun b o nb eb => by
          rw [upd_ne nb]
          exact eb
        refine ⟨zs.map fun z => z.2, s4 _ _ hD, by rw [List.length_map]; omega, ex, zs ++ [(u, y)], ?_, ?_, ?_⟩
        · rw [upd_same, List.map_append]
          rfl
        · rw [List.map_append, hz1, et, List.filter_append]
          simp [hp]
        · intro z hz
          rcases List.mem_append.mp hz with h | h
          · exact mono _ _ _ _ (mono _ _ _ _ (hR z h) fun b o _ eb => s4 _ _ eb) bu
          · rw [List.mem_singleton.mp h]
            exact mono _ _ _ _ r bu
      · refine ⟨same_trans s1 s3, zs, s3 _ _ hD, ?_, fun z hz => mono _ _ _ _ (hR z hz) fun b o _ eb => s3 _ _ eb⟩
        rw [hz1, et, List.filter_append]
        simp [hp]
  · rintro H' ⟨s1, zs, hD, hz1, hR⟩
    rw [List.length_map, List.take_length] at hz1
    exact fin H' zs s1 hD hz1 hR
/-- the items are told outright -/
theorem lc_val {α : Type} {K : PySem.W.Frag} {l : Addr} {us : List α} {vf : α → V} {p : α → Bool} {gv : α → V} {g : TG} {tt : TT} {te : TE} {vs : List Nat} {σ : L2.St} {H1 : Hp} {D : Addr} {Qd : Hp → Prop}
    (nD : H1 D = none) (hl : H1 l = some (.lst (us.map vf))) (hz : us.length < sizeLine)
    (hs : ∀ u ∈ us, ∀ H', Same H1 H' → ∀ (N : V → Hp → Prop) (N0 : Hp → Prop), (p u = true → ∀ H4, Same H' H4 → N (gv u) H4) → (p u = false → ∀ H3, Same H' H3 → N0 H3) →
      g (vf u) (wipe σ vs) H' fun σ2 H2 => wipe σ2 vs = wipe σ vs ∧ tt σ2 H2 fun b H3 => if b = true then te σ2 H3 N else N0 H3)
    (fin : ∀ H', Same H1 H' → H' D = some (.lst ((us.filter p).map gv)) → Qd H') :
    ∃ W : Nat → Nat → Hp → Prop, (∃ m, W 0 m (upd H1 D (.lst []))) ∧ ∀ i m H, W i m H →
      ((Itl K l).stop i H ∧ Qd H) ∨ ((Itl K l).go i H ∧ ∃ Nx : Hp → Prop, (∀ H', Nx H' → ∃ m', m' < m ∧ W (i + 1) m' H') ∧ ∀ x H', (Itl K l).yld i H x H' → g x (wipe σ vs) H' fun σ2 H2 => wipe σ2 vs = wipe σ vs ∧ tt σ2 H2 fun b H3 =>
        if b = true then te σ2 H3 fun y H4 => ∃ acc, H4 D = some (.lst acc) ∧ acc.length < sizeLine ∧ Nx (upd H4 D (.lst (acc ++ [y]))) else Nx H3) := by
  refine lc_gen (vf := vf) (p := p) (R := fun u y _ => y = gv u) nD hl hz (fun _ _ _ _ h _ => h) (fun u hu H' s1 _ N N0 h1 h2 => hs u hu H' s1 N N0 (fun hp H4 s4 => h1 hp _ H4 s4 rfl) h2) (fun H' zs s1 hD e hR => fin H' s1 ?_)
  have e2 : (zs.map fun z => z.2) = (zs.map fun z => z.1).map gv := by
    rw [List.map_map]
    exact List.map_congr_left fun z hz => hR z hz
  rw [hD, e2, e]
/-! ### lists of ints as data -/
theorem inV_int (x : Int) (ws : List Int) : inV (.int x) (ws.map V.int) = decide (x ∈ ws) := by
  unfold inV
  induction ws with
  | nil => rfl
  | cons y ws ih =>
    rw [List.map_cons, List.any_cons, ih]
    show ((y == x) || decide (x ∈ ws)) = decide (x ∈ y :: ws)
    by_cases h : y = x
    · subst h
      simp
    · have h' : ¬ x = y := fun e => h e.symm
      simp [h, h']
theorem flat_ints (ws : List Int) : (ws.map V.int).all flatV = true := by
  rw [List.all_map]
  exact List.all_eq_true.mpr fun x _ => rfl
theorem dp_ints {K : PySem.W.Frag} {H : Hp} : ∀ ws : List Int, DpAll K H (ws.map V.int) (ws.map PyData.int)
  | [] => .nil
  | w :: ws => .cons (.int w) (dp_ints ws)
theorem lay_ints : ∀ ws : List Int, PyData.canLayAll0 (ws.map PyData.int) = true
  | [] => rfl
  | w :: ws => by
    have ih := lay_ints ws
    simp [PyData.canLayAll0, PyData.canLay0, ih]
theorem depth_ints : ∀ ws : List Int, PyData.depthAll (ws.map PyData.int) ≤ 1
  | [] => Nat.zero_le _
  | w :: ws => by
    have ih := depth_ints ws
    show max (PyData.depth (.int w)) (PyData.depthAll (ws.map PyData.int)) ≤ 1
    exact Nat.max_le.mpr ⟨by simp [PyData.depth], ih⟩
theorem ints_shaped (ws : List Int) : SeqAt.shaped (.list (ws.map PyData.int)) = true := by
  have h1 : PyData.canLay0 (.list (ws.map PyData.int)) = true := lay_ints ws
  have h2 : PyData.depth (.list (ws.map PyData.int)) ≤ 64 := by
    show PyData.depthAll (ws.map PyData.int) + 1 ≤ 64
    have := depth_ints ws
    omega
  unfold SeqAt.shaped
  rw [h1, decide_eq_true h2]
  rfl
theorem eqvAll_ints : ∀ us vs : List Int, PyData.eqvAll (us.map PyData.int) (vs.map PyData.int) = decide (us = vs)
  | [], [] => by simp [PyData.eqvAll]
  | [], _ :: _ => by simp [PyData.eqvAll]
  | _ :: _, [] => by simp [PyData.eqvAll]
  | a :: ss, b :: ss' => by
    rw [List.map_cons, List.map_cons, PyData.eqvAll, eqvAll_ints ss ss', PyData.eqv]
    by_cases h1 : a = b
    · by_cases h2 : ss = ss'
      · simp [h1, h2]
      · simp [h1, h2]
    · simp [h1]
theorem eqv_ints (us vs : List Int) : PyData.eqv (.list (us.map PyData.int)) (.list (vs.map PyData.int)) = decide (us = vs) := by
  rw [PyData.eqv, eqvAll_ints]
/-! ### lots: ascending lists of positions -/
/-- xs tells ascending positions below n -/
structure Lot (n : Nat) (xs : List Int) : Prop where
  asc : xs.Pairwise (· < ·)
  lo : ∀ x ∈ xs, 0 ≤ x
  hi : ∀ x ∈ xs, x < (n : Int)
theorem asc_ext_int : ∀ {us vs : List Int}, us.Pairwise (· < ·) → vs.Pairwise (· < ·) → (∀ x, x ∈ us ↔ x ∈ vs) → us = vs
  | [], [], _, _, _ => rfl
  | [], b :: vs, _, _, h => by
    have := (h b).mpr List.mem_cons_self
    simp at this
  | a :: us, [], _, _, h => by
    have := (h a).mp List.mem_cons_self
    simp at this
  | a :: us, b :: vs, h1, h2, h => by
    obtain ⟨a1, a2⟩ := List.pairwise_cons.mp h1
    obtain ⟨b1, b2⟩ := List.pairwise_cons.mp h2
    have ab : a = b := by
      rcases List.mem_cons.mp ((h a).mp List.mem_cons_self) with e | m
      · exact e
      · rcases List.mem_cons.mp ((h b).mpr List.mem_cons_self) with e | m2
        · exact e.symm
        · have := b1 a m
          have := a1 b m2
          omega
    subst ab
    rw [asc_ext_int a2 b2 fun x => ?_]
    constructor
    · intro hx
      rcases List.mem_cons.mp ((h x).mp (List.mem_cons_of_mem _ hx)) with e | m
      · have := a1 x hx
        omega
      · exact m
    · intro hx
      rcases List.mem_cons.mp ((h x).mpr (List.mem_cons_of_mem _ hx)) with e | m
      · have := b1 x hx
        omega
      · exact m
/-- the ints 0 .. n - 1 -/
abbrev rgI (n : Nat) : List Int := (List.range n).map fun i : Nat => (i : Int)
theorem rgV_nat (n : Nat) : rgV 0 (n : Int) = (rgI n).map V.int := by
  unfold rgV
  rw [List.map_map]
  have e : ((n : Int) - 0).toNat = n := by omega
  rw [e]
  exact List.map_congr_left fun i _ => by simp
theorem rgI_asc (n : Nat) : (rgI n).Pairwise (· < ·) := by
  rw [List.pairwise_map]
  exact List.pairwise_lt_range.imp fun h => by omega
theorem mem_rgI {n : Nat} {x : Int} : x ∈ rgI n ↔ 0 ≤ x ∧ x < (n : Int) := by
  constructor
  · intro h
    obtain ⟨i, hi, rfl⟩ := List.mem_map.mp h
    have := List.mem_range.mp hi
    omega
  · rintro ⟨h0, h1⟩
    exact List.mem_map.mpr ⟨x.toNat, List.mem_range.mpr (by omega), by omega⟩
theorem rgI_lot (n : Nat) : Lot n (rgI n) := ⟨rgI_asc n, fun x h => (mem_rgI.mp h).1, fun x h => (mem_rgI.mp h).2⟩
theorem Lot.sub {n : Nat} {xs : List Int} (h : Lot n xs) : (rgI n).filter (fun x => decide (x ∈ xs)) = xs := by
  refine asc_ext_int ((rgI_asc n).sublist List.filter_sublist) h.asc fun x => ?_
  rw [List.mem_filter, mem_rgI, decide_eq_true_eq]
  exact ⟨fun z => z.2, fun z => ⟨⟨h.lo x z, h.hi x z⟩, z⟩⟩
theorem Lot.mono {n m : Nat} {xs : List Int} (h : Lot n xs) (k : n ≤ m) : Lot m xs := ⟨h.asc, h.lo, fun x hx => by have := h.hi x hx; omega⟩
theorem Lot.len {n : Nat} {xs : List Int} (h : Lot n xs) : xs.length ≤ n := by
  have e := h.sub
  have h2 := List.length_filter_le (fun x => decide (x ∈ xs)) (rgI n)
  rw [e, List.length_map, List.length_range] at h2
  exact h2
end H3
end
section
set_option Elab.async false
set_option linter.all false
set_option maxRecDepth 100000
set_option maxHeartbeats 4000000
namespace K4
open PySem PySem.Spec PyProof.Rows L2 H3
/-- a comprehension that makes streets -/
theorem lc_sts {α : Type} {K : PySem.W.Frag} {l : Addr} {us : List α} {vf : α → V} {p : α → Bool} {fs : α → S5} {g : TG} {tt : TT} {te : TE} {vs : List Nat} {σ : L2.St} {H1 : Hp} {D : Addr} {Qd : Hp → Prop}
    (nD : H1 D = none) (hl : H1 l = some (.lst (us.map vf))) (hz : us.length < sizeLine)
    (hs : ∀ u ∈ us, ∀ H', Same H1 H' → ∀ (N : V → Hp → Prop) (N0 : Hp → Prop), (p u = true → ∀ a H4, Same H' H4 → H4 a = some (.tup (fs u).vals) → N (.ref a) H4) → (p u = false → ∀ H3, Same H' H3 → N0 H3) →
      g (vf u) (wipe σ vs) H' fun σ2 H2 => wipe σ2 vs = wipe σ vs ∧ tt σ2 H2 fun b H3 => if b = true then te σ2 H3 N else N0 H3)
    (fin : ∀ H' (ts : List (Addr × S5)), Same H1 H' → Sts H' D ts → snds ts = (us.filter p).map fs → Qd H') :
    ∃ W : Nat → Nat → Hp → Prop, (∃ m, W 0 m (upd H1 D (.lst []))) ∧ ∀ i m H, W i m H →
      ((Itl K l).stop i H ∧ Qd H) ∨ ((Itl K l).go i H ∧ ∃ Nx : Hp → Prop, (∀ H', Nx H' → ∃ m', m' < m ∧ W (i + 1) m' H') ∧ ∀ x H', (Itl K l).yld i H x H' → g x (wipe σ vs) H' fun σ2 H2 => wipe σ2 vs = wipe σ vs ∧ tt σ2 H2 fun b H3 =>
        if b = true then te σ2 H3 fun y H4 => ∃ acc, H4 D = some (.lst acc) ∧ acc.length < sizeLine ∧ Nx (upd H4 D (.lst (acc ++ [y]))) else Nx H3) := by
  refine lc_gen (vf := vf) (p := p) (R := fun u y H => ∃ a, y = .ref a ∧ a ≠ D ∧ H a = some (.tup (fs u).vals)) nD hl hz (fun u y H H' ⟨a, h1, h2, h3⟩ k => ⟨a, h1, h2, k _ _ h2 h3⟩)
    (fun u hu H' s1 ⟨acc, hD⟩ N N0 h1 h2 => hs u hu H' s1 N N0 (fun hp a H4 s4 ha => h1 hp _ H4 s4 ⟨a, rfl, fun e => ?_, ha⟩) h2) (fun H' zs s1 hD e hR => ?_)
  · have := s4 _ _ hD
    rw [← e, ha] at this
    cases this
  · have key : ∀ zs : List (α × V), (∀ z ∈ zs, ∃ a, z.2 = .ref a ∧ a ≠ D ∧ H' a = some (.tup (fs z.1).vals)) → ∃ ts : List (Addr × S5), (zs.map fun z => z.2) = (ts.map fun t => V.ref t.1) ∧ (∀ t ∈ ts, H' t.1 = some (.tup t.2.vals)) ∧ snds ts = (zs.map fun z => z.1).map fs := by
      intro zs
      induction zs with
      | nil => exact fun _ => ⟨[], rfl, fun t h => by simp at h, rfl⟩
      | cons z zs ih =>
        intro h
        obtain ⟨ts, e1, e2, e3⟩ := ih fun y hy => h y (List.mem_cons_of_mem _ hy)
        obtain ⟨a, ea, _, ha⟩ := h z List.mem_cons_self
        refine ⟨(a, fs z.1) :: ts, ?_, fun t ht => ?_, ?_⟩
        · rw [List.map_cons, List.map_cons, e1, ea]
        · rcases List.mem_cons.mp ht with e | m
          · rw [e]
            exact ha
          · exact e2 t m
        · show fs z.1 :: snds ts = _
          rw [e3]
          rfl
    obtain ⟨ts, e1, e2, e3⟩ := key zs hR
    exact fin H' ts s1 ⟨by rw [hD, e1], e2⟩ (by rw [e3, e])
/-- a street that is shut if its name is one of ns -/
def shutS (ns : List Str) (s : S5) : S5 := if s.nm ∈ ns then { s with wd := 0 } else s
/-- a change of a width, a length, a direction -/
inductive CK where
  | w (z : Str) (i : Int)
  | l (z : Str) (i : Int)
  | t (z : Str)
def CK.nm : CK → Str
  | .w z _ => z
  | .l z _ => z
  | .t z => z
def CK.vals : CK → List V
  | .w z i => [.str "width", .str z, .int i]
  | .l z i => [.str "length", .str z, .int i]
  | .t z => [.str "turn", .str z]
def CK.Ok (c : CK) : Prop := Wd c.nm ∧ match c with
  | .w _ i => 0 ≤ i ∧ i ≤ 1000000
  | .l _ i => 0 ≤ i ∧ i ≤ 1000000
  | .t _ => True
def CK.alt : CK → S5 → S5
  | .w _ i, s => { s with wd := i }
  | .l _ i, s => { s with ln := i }
  | .t _, s => { s with st := s.en, en := s.st }
theorem alt_nm (c : CK) (s : S5) : (c.alt s).nm = s.nm := by cases c <;> rfl
theorem alt_ok {c : CK} {s : S5} (h : c.Ok) (o : s.Ok) : (c.alt s).Ok := by
  obtain ⟨o1, o2, o3, o4, o5, o6, o7, o8⟩ := o
  cases c with
  | w z i => exact ⟨o1, o2, o3, o4, h.2.1, h.2.2, o7, o8⟩
  | l z i => exact ⟨o1, o2, o3, o4, o5, o6, h.2.1, h.2.2⟩
  | t z => exact ⟨o1, o3, o2, Ne.symm o4, o5, o6, o7, o8⟩
structure Ms (P : Program) (w : World) (K : PySem.W.Frag) (mg : Str → Option Value) (base : Heap) (CQ : Addr) : Prop where
  qs : Mz P w K mg base CQ "streets" 1 (spFld CQ "_streets")
  qg : Mz P w K mg base CQ "gates" 1 (spFld CQ "_gates")
  mq : MkQ P w K mg base CQ
section
variable {P : Program} {w : World} {K : PySem.W.Frag} {mg : Str → Option Value} {base : Heap}
/-! ### _altered -/
def spAlt : Sp := fun vs H Q _ => ∃ (a c : Addr) (s : S5) (k : CK), vs = [.ref a, .ref c] ∧ H a = some (.tup s.vals) ∧ H c = some (.tup k.vals) ∧ ∀ b H', Same H H' → H b = none → H' b = some (.tup (k.alt s).vals) → Q (.ref b) H'
abbrev NAl : List Str := ["street", "change", "name", "start", "end", "width", "length"]
theorem scAlt : FnScope NAl ["street", "change"] (defScope sAltered) := ⟨rfl, rfl, rfl, by decide +kernel, rfl, by decide +kernel, by decide +kernel⟩
theorem ok_alt {f : Addr} {fd : FuncData} (F : FnP K "_altered" sAltered f fd) : FnOk P w K mg base CX0 1 f fd ["street", "change"] spAlt := by
  refine F.ok scAlt (fun vs H Q E h => ?_) (fun cdv A outer s H vs Q E hr h => ?_)
  · obtain ⟨_, _, _, _, rfl, _⟩ := h
    rfl
  · obtain ⟨a, c, s5, k, rfl, ha, hc, q⟩ := h
    refine ⟨_, PSs.nox (pss_cons (ps_asg (pv 0) (pg_tup rfl (pgs_cons (pg_name (i := 2) scAlt.nd rfl (Or.inl rfl)) (pgs_cons (pg_name (i := 3) scAlt.nd rfl (Or.inl rfl)) (pgs_cons (pg_name (i := 4) scAlt.nd rfl (Or.inl rfl)) (pgs_cons (pg_name (i := 5) scAlt.nd rfl (Or.inl rfl)) (pgs_cons (pg_name (i := 6) scAlt.nd rfl (Or.inl rfl)) pgs_nil)))))))
      (pss_cons (ps_if (pt_cmpR op_eq (pe_ix ix_tup (pv 1) pe_int (fun _ _ => rfl)) pe_str (nomark _)) (pss_one (ps_ret (pe_tup (pa_cons (pv 2) (pa_cons (pv 3) (pa_cons (pv 4) (pa_cons (pe_ix ix_tup (pv 1) pe_int (fun _ _ => rfl)) (pa_cons (pv 6) pa_nil)))))))) pss_nil)
      (pss_cons (ps_if (pt_cmpR op_eq (pe_ix ix_tup (pv 1) pe_int (fun _ _ => rfl)) pe_str (nomark _)) (pss_one (ps_ret (pe_tup (pa_cons (pv 2) (pa_cons (pv 3) (pa_cons (pv 4) (pa_cons (pv 5) (pa_cons (pe_ix ix_tup (pv 1) pe_int (fun _ _ => rfl)) pa_nil)))))))) pss_nil)
      (pss_one (ps_ret (pe_tup (pa_cons (pv 2) (pa_cons (pv 4) (pa_cons (pv 3) (pa_cons (pv 5) (pa_cons (pv 6) pa_nil))))))))))), ?_⟩
    have five : 5 ≤ sizeLine := by decide +kernel
    refine ⟨_, rfl, a, _, rfl, SqT.of ha, rfl, _, _, rfl, _, _, rfl, _, _, rfl, _, _, rfl, _, _, rfl, rfl, ?_⟩
    cases k with
    | w z i =>
      refine ⟨_, rfl, c, _, ((0 : Nat) : Int), _, rfl, rfl, SqT.of hc, atI_nat rfl, rfl, _, rfl, ifT (by decide +kernel) ?_⟩
      exact ⟨_, rfl, _, rfl, _, rfl, _, rfl, c, _, ((2 : Nat) : Int), _, rfl, rfl, SqT.of hc, atI_nat rfl, _, rfl, five, fun t nt => q t _ (same_upd nt) nt upd_same⟩
    | l z i =>
      refine ⟨_, rfl, c, _, ((0 : Nat) : Int), _, rfl, rfl, SqT.of hc, atI_nat rfl, rfl, _, rfl, ifF (by decide +kernel) ?_⟩
      refine ⟨_, rfl, c, _, ((0 : Nat) : Int), _, rfl, rfl, SqT.of hc, atI_nat rfl, rfl, _, rfl, ifT (by decide +kernel) ?_⟩
      exact ⟨_, rfl, _, rfl, _, rfl, _, rfl, _, rfl, c, _, ((2 : Nat) : Int), _, rfl, rfl, SqT.of hc, atI_nat rfl, five, fun t nt => q t _ (same_upd nt) nt upd_same⟩
    | t z =>
      refine ⟨_, rfl, c, _, ((0 : Nat) : Int), _, rfl, rfl, SqT.of hc, atI_nat rfl, rfl, _, rfl, ifF (by decide +kernel) ?_⟩
      refine ⟨_, rfl, c, _, ((0 : Nat) : Int), _, rfl, rfl, SqT.of hc, atI_nat rfl, rfl, _, rfl, ifF (by decide +kernel) ?_⟩
      exact ⟨_, rfl, _, rfl, _, rfl, _, rfl, _, rfl, five, fun t nt => q t _ (same_upd nt) nt upd_same⟩
end
end K4
end
section
set_option Elab.async false
set_option linter.all false
set_option maxRecDepth 100000
set_option maxHeartbeats 4000000
namespace K4
open PySem PySem.Spec PyProof.Rows L2 H3
theorem ck0 (k : CK) : ∃ z : Str, k.vals[0]? = some (.str z) ∧ z ≠ "put" ∧ z ≠ "out" := by
  cases k with
  | w z i => exact ⟨"width", rfl, by decide +kernel, by decide +kernel⟩
  | l z i => exact ⟨"length", rfl, by decide +kernel, by decide +kernel⟩
  | t z => exact ⟨"turn", rfl, by decide +kernel, by decide +kernel⟩
theorem ck1 (k : CK) : k.vals[1]? = some (.str k.nm) := by cases k <;> rfl
theorem any_s5 (s : S5) (ss : List S5) : ((ss.map S5.data).any fun z => PyData.eqv z s.data) = decide (s ∈ ss) := by
  induction ss with
  | nil => rfl
  | cons x ss ih =>
    rw [List.map_cons, List.any_cons, ih, eqv_s5]
    by_cases h : x = s
    · subst h
      simp
    · have h' : ¬ s = x := fun e => h e.symm
      simp [h, h']
theorem s5_shaped {s : S5} (h : s.Ok) : SeqAt.shaped s.data = true := by
  obtain ⟨h1, h2, h3, _⟩ := h
  have e1 : PyData.canLay0 s.data = true := by simp [S5.data, PyData.canLay0, PyData.canLayAll0, wd_ok h1, wd_ok h2, wd_ok h3]
  have e2 : PyData.depth s.data ≤ 64 := by simp [S5.data, PyData.depth, PyData.depthAll]
  unfold SeqAt.shaped
  rw [e1, decide_eq_true e2]
  rfl
/-- the streets with a change -/
def chgS (ss : List S5) (k : CK) : List S5 := (ss.filter fun s => decide (s.nm ≠ k.nm)) ++ (ss.filter fun s => decide (s.nm = k.nm)).map k.alt
theorem chg_perm {ss ss' : List S5} {k : CK} (p : ss'.Perm ss) : (chgS ss' k).Perm (chgS ss k) := (p.filter _).append ((p.filter _).map _)
theorem len_parts (p : S5 → Bool) : ∀ ss : List S5, (ss.filter fun s => !p s).length + (ss.filter p).length = ss.length
  | [] => rfl
  | s :: ss => by
    have ih := len_parts p ss
    rw [List.filter_cons, List.filter_cons, List.length_cons]
    cases h : p s
    · simp
      omega
    · simp
      omega
theorem chg_len (ss : List S5) (k : CK) : (chgS ss k).length = ss.length := by
  unfold chgS
  rw [List.length_append, List.length_map]
  have := len_parts (fun s : S5 => decide (s.nm = k.nm)) ss
  simp only [ne_eq, decide_not]
  exact this
theorem chg_ok {ss : List S5} {k : CK} (so : SOk ss) (ok : k.Ok) : SOk (chgS ss k) := by
  refine ⟨fun s hs => ?_, ?_, by rw [chg_len]; exact so.l⟩
  · rcases List.mem_append.mp hs with h | h
    · exact so.ok s (List.mem_filter.mp h).1
    · obtain ⟨x, hx, rfl⟩ := List.mem_map.mp h
      exact alt_ok ok (so.ok x (List.mem_filter.mp hx).1)
  · show ((chgS ss k).map S5.nm).Nodup
    unfold chgS
    rw [List.map_append, List.map_map]
    have e : ((ss.filter fun s => decide (s.nm = k.nm)).map (S5.nm ∘ k.alt)) = (ss.filter fun s => decide (s.nm = k.nm)).map S5.nm := List.map_congr_left fun s _ => alt_nm k s
    rw [e]
    refine List.nodup_append.mpr ⟨(List.filter_sublist.map S5.nm).nodup so.nd, (List.filter_sublist.map S5.nm).nodup so.nd, fun a ha b hb e => ?_⟩
    subst e
    obtain ⟨s, hs, rfl⟩ := List.mem_map.mp ha
    obtain ⟨t, ht, e⟩ := List.mem_map.mp hb
    have h1 := of_decide_eq_true (List.mem_filter.mp hs).2
    have h2 := of_decide_eq_true (List.mem_filter.mp ht).2
    exact h1 (e ▸ h2)
theorem snds_len {ts : List (Addr × S5)} : (snds ts).length = ts.length := List.length_map _
/-! ### any change -/
inductive Ch where
  | put (s : S5)
  | out (z : Str)
  | ck (k : CK)
def Ch.At (H : Hp) (c : Addr) : Ch → Prop
  | .put s => ∃ t, H c = some (.tup [.str "put", .ref t]) ∧ H t = some (.tup s.vals)
  | .out z => H c = some (.tup [.str "out", .str z])
  | .ck k => H c = some (.tup k.vals)
theorem Ch.At.keep {H H' : Hp} {c : Addr} {k : Ch} (h : k.At H c) (s : Same H H') : k.At H' c := by
  cases k with
  | put x =>
    obtain ⟨t, h1, h2⟩ := h
    exact ⟨t, s _ _ h1, s _ _ h2⟩
  | out z => exact s _ _ h
  | ck k => exact s _ _ h
def Ch.Ok : Ch → Prop
  | .put s => s.Ok
  | .out z => Wd z
  | .ck k => k.Ok
/-- the streets behind a change, none if it does not fit -/
def stepS (ss : List S5) : Ch → Option (List S5)
  | .put s => if s.nm ∈ nms ss then none else some (ss ++ [s])
  | .out z => if z ∈ nms ss then some (ss.filter fun s => decide (s.nm ≠ z)) else none
  | .ck k => if (ss.any fun s => decide (s.nm = k.nm) && decide (k.alt s ∉ ss)) = true then some (chgS ss k) else none
theorem filt_eq {ss : List S5} {z : Str} (h : z ∉ nms ss) : (ss.filter fun s => decide (s.nm ≠ z)) = ss :=
  List.filter_eq_self.mpr fun s hs => decide_eq_true fun e => h (List.mem_map.mpr ⟨s, hs, e⟩)
theorem filt_lt {ss : List S5} {z : Str} (h : z ∈ nms ss) : (ss.filter fun s => decide (s.nm ≠ z)).length < ss.length := by
  obtain ⟨s, hs, e⟩ := List.mem_map.mp h
  refine Nat.lt_of_le_of_ne (List.length_filter_le _ _) fun el => ?_
  exact of_decide_eq_true ((List.length_filter_eq_length_iff.mp el) s hs) e
theorem step_ck0 {ss : List S5} {k : CK} (h : k.nm ∉ nms ss) : stepS ss (.ck k) = none := by
  have e : (ss.any fun s => decide (s.nm = k.nm) && decide (k.alt s ∉ ss)) = false := by
    rw [List.any_eq_false]
    intro s hs z
    have z := Bool.and_eq_true_iff.mp z
    exact h (List.mem_map.mpr ⟨s, hs, of_decide_eq_true z.1⟩)
  simp only [stepS, e]
  rfl
theorem step_ck {ss : List S5} {k : CK} {s0 : S5} (nd : (nms ss).Nodup) (m0 : s0 ∈ ss) (e0 : s0.nm = k.nm) : stepS ss (.ck k) = if k.alt s0 ∉ ss then some (chgS ss k) else none := by
  have e : (ss.any fun s => decide (s.nm = k.nm) && decide (k.alt s ∉ ss)) = decide (k.alt s0 ∉ ss) := by
    by_cases h : k.alt s0 ∉ ss
    · rw [decide_eq_true h, List.any_eq_true]
      exact ⟨s0, m0, by rw [decide_eq_true e0, decide_eq_true h]; rfl⟩
    · rw [decide_eq_false h, List.any_eq_false]
      intro s hs z
      have z := Bool.and_eq_true_iff.mp z
      have : s = s0 := nodup_inj nd s hs s0 m0 ((of_decide_eq_true z.1).trans e0.symm)
      rw [this] at z
      exact h (of_decide_eq_true z.2)
  simp only [stepS, e, decide_eq_true_eq]
section
variable {P : Program} {w : World} {K : PySem.W.Frag} {mg : Str → Option Value} {base : Heap}
def spChgS : Sp := fun vs H Q _ => ∃ (l c : Addr) (ts : List (Addr × S5)) (k : Ch), vs = [.ref l, .ref c] ∧ Sts H l ts ∧ SOk (snds ts) ∧ k.At H c ∧ k.Ok ∧
  (stepS (snds ts) k = none → ∀ H', Same H H' → Q .non H') ∧ ∀ ss D ts' H', stepS (snds ts) k = some ss → Same H H' → H D = none → Sts H' D ts' → snds ts' = ss → Q (.ref D) H'
abbrev NCS : List Str := ["streets", "change", "is_there", "others", "altered", "street"]
theorem scCS : FnScope NCS ["streets", "change"] (defScope sChangedS) := ⟨rfl, rfl, rfl, by decide +kernel, rfl, by decide +kernel, by decide +kernel⟩
theorem ok_chgS {f : Addr} {fd : FuncData} (F : FnP K "_changed_streets" sChangedS f fd) (GA : Fz P w K mg base "_altered" 1 ["street", "change"] spAlt) (T : Tx K mg) : FnOk P w K mg base CX0 2 f fd ["streets", "change"] spChgS := by
  refine F.ok scCS (fun vs H Q E h => ?_) (fun cdv A outer s H vs Q E hr h => ?_)
  · obtain ⟨_, _, _, _, rfl, _⟩ := h
    rfl
  · obtain ⟨l, c, ts, k, rfl, hl, so, hc, ok, q0, q⟩ := h
    have gL := T.fr "len" (by decide +kernel)
    have sl := sizeLine_eq
    have l60 := so.l
    rw [snds_len] at l60
    have hu : (A.deeper (envOfC "_changed_streets" (defScope sChangedS) s.heap.objs.size f cdv)).units + 65 < cLine := by
      have := hr.un
      omega
    refine ⟨_, PSs.nox (pss_cons (ps_if (pt_cmpR op_eq (pe_ix ix_tup (pv 1) pe_int (fun _ _ => rfl)) pe_str (nomark _))
        (pss_cons (ps_set (i := 2) scCS.nd rfl (Or.inl rfl) (pe_cmpR op_in_seq (pe_ix ix_tup (pe_ix ix_tup (pv 1) pe_int (fun _ _ => rfl)) pe_int (fun _ _ => rfl))
            (pe_lc (own := [("street", 5)]) (g := gName 5) (tt := tYes) (te := tOp (rIxT K) (tVar 5) (tC (.int ((0 : Nat) : Int)))) rfl scCS.nd (pi_list (pv 0)) (blkOk_by (own := [("street", 5)]) (N := NCS) (sc := defScope sChangedS) (by decide +kernel))
              (fun _ _ _ _ _ => pg_name (i := 5) scCS.nd rfl (Or.inl rfl)) (fun _ _ _ _ _ => pts_nil) (fun _ _ _ _ _ => pe_ix ix_tup (pv 5) pe_int (fun _ _ => rfl))) rfl))
          (pss_one (ps_ret (pe_ifExp (pt_val (pv 2)) pe_non (pe_op op_cat (pv 0) (pe_lst (pa_cons (pe_ix ix_tup (pv 1) pe_int (fun _ _ => rfl)) pa_nil))))))) pss_nil)
      (pss_cons (ps_setLc (i := 3) (own := [("street", 5)]) (g := gName 5) (tt := tTest (tOp rNe (tOp (rIxT K) (tVar 5) (tC (.int ((0 : Nat) : Int)))) (tOp (rIxT K) (tVar 1) (tC (.int ((1 : Nat) : Int)))))) (te := tVar 5) rfl scCS.nd rfl rfl (sw_true rfl rfl rfl (by decide +kernel)) (pi_list (pv 0)) (blkOk_by (own := [("street", 5)]) (N := NCS) (sc := defScope sChangedS) (by decide +kernel))
        (fun _ _ _ _ _ => pg_name (i := 5) scCS.nd rfl (Or.inl rfl)) (fun _ _ _ _ _ => pts_one (pt_cmpR op_ne (pe_ix ix_tup (pv 5) pe_int (fun _ _ => rfl)) (pe_ix ix_tup (pv 1) pe_int (fun _ _ => rfl)) (nomark _))) (fun _ _ _ _ _ => pv 5))
      (pss_cons (ps_if (pt_cmpR op_eq (pe_callB call_len_seq (by rfl) gL PySem.boot_len (pa_cons (pv 3) pa_nil)) (pe_callB call_len_seq (by rfl) gL PySem.boot_len (pa_cons (pv 0) pa_nil)) (nomark _)) (pss_one (ps_ret pe_non)) pss_nil)
      (pss_cons (ps_if (pt_cmpR op_eq (pe_ix ix_tup (pv 1) pe_int (fun _ _ => rfl)) pe_str (nomark _)) (pss_one (ps_ret (pv 3))) pss_nil)
      (pss_cons (ps_setLc (i := 4) (own := [("street", 5)]) (g := gName 5) (tt := tTest (tOp rEq (tOp (rIxT K) (tVar 5) (tC (.int ((0 : Nat) : Int)))) (tOp (rIxT K) (tVar 1) (tC (.int ((1 : Nat) : Int)))))) (te := tCall spAlt [] E0 (tCons (tVar 5) (tCons (tVar 1) tNil))) rfl scCS.nd rfl rfl (sw_true rfl rfl rfl (by decide +kernel)) (pi_list (pv 0)) (blkOk_by (own := [("street", 5)]) (N := NCS) (sc := defScope sChangedS) (by decide +kernel))
        (fun _ _ _ _ _ => pg_name (i := 5) scCS.nd rfl (Or.inl rfl)) (fun _ _ _ _ _ => pts_one (pt_cmpR op_eq (pe_ix ix_tup (pv 5) pe_int (fun _ _ => rfl)) (pe_ix ix_tup (pv 1) pe_int (fun _ _ => rfl)) (nomark _))) (fun _ _ _ _ _ => pe_fz GA hr (by rfl) (pa_cons (pv 5) (pa_cons (pv 1) pa_nil))))
      (pss_one (ps_ret (pe_ifExp (pt_cmpR (op_inD hu) (pe_ix ix_list (pv 4) pe_int (fun _ _ => rfl)) (pv 0) rfl) pe_non (pe_op op_cat (pv 3) (pv 4)))))))))), ?_⟩
    cases k with
    | put x =>
      obtain ⟨t, hc, ht⟩ := hc
      refine ⟨_, rfl, c, _, ((0 : Nat) : Int), _, rfl, rfl, SqT.of hc, atI_nat rfl, rfl, _, rfl, ifT (by decide +kernel) ?_⟩
      refine ⟨_, rfl, c, _, ((1 : Nat) : Int), _, rfl, rfl, SqT.of hc, atI_nat rfl, t, _, ((0 : Nat) : Int), _, rfl, rfl, SqT.of ht, atI_nat rfl, _, rfl, l, rfl, ⟨_, SqL.of hl.1⟩, fun D1 n1 => ?_⟩
      refine lc_val (us := ts) (vf := fun t => V.ref t.1) (p := fun _ => true) (gv := fun t => V.str t.2.nm) n1 hl.1 (by omega) (fun u hu H' s1 N N0 h1 h2 => ?_) (fun H1 s1 hD1 => ?_)
      · exact ⟨rfl, _, rfl, u.1, _, ((0 : Nat) : Int), _, rfl, rfl, SqT.of (s1 _ _ (hl.2 u hu)), atI_nat rfl, h1 rfl _ (Same.refl _)⟩
      have hD1' : H1 D1 = some (.lst ((nms (snds ts)).map V.str)) := by
        rw [hD1, List.filter_eq_self.mpr (fun _ _ => rfl)]
        simp only [nms, snds, List.map_map]
        rfl
      refine ⟨D1, _, rfl, Or.inl (SqL.of hD1'), rfl, flat_strs _, ?_⟩
      rw [inV_str]
      refine ⟨_, rfl, _, rfl, ?_⟩
      by_cases hx : x.nm ∈ nms (snds ts)
      · exact ifT (by rw [decide_eq_true hx]; rfl) (q0 (by simp only [stepS, hx, if_true]) _ s1)
      · refine ifF (by rw [decide_eq_false hx]; decide) ⟨_, rfl, _, rfl, c, _, ((1 : Nat) : Int), _, rfl, rfl, SqT.of (s1 _ _ hc), atI_nat rfl, by show 1 ≤ sizeLine; omega, fun L nL => ?_⟩
        have s2 := same_upd (o := .lst [V.ref t]) nL
        have hL : upd H1 L (.lst [V.ref t]) L = some (.lst [V.ref t]) := upd_same
        generalize upd H1 L (.lst [V.ref t]) = H2 at s2 hL ⊢
        have s02 := same_trans s1 s2
        refine ⟨l, L, _, _, rfl, rfl, s02 _ _ hl.1, hL, by rw [List.length_map]; show ts.length + 1 ≤ _; omega, fun D3 n3 => ?_⟩
        have s3 := same_upd (o := .lst ((ts.map fun t => V.ref t.1) ++ [V.ref t])) n3
        refine q (snds ts ++ [x]) D3 (ts ++ [(t, x)]) _ (by simp only [stepS, hx, if_false]) (same_trans s02 s3) (s02.free n3) ⟨by rw [upd_same, List.map_append]; rfl, fun u hu => s3 _ _ (s02 _ _ ?_)⟩ (by simp [snds])
        rcases List.mem_append.mp hu with h | h
        · exact hl.2 u h
        · rw [List.mem_singleton.mp h]
          exact ht
    | out z =>
      have hc : H c = some (.tup [.str "out", .str z]) := hc
      refine ⟨_, rfl, c, _, ((0 : Nat) : Int), _, rfl, rfl, SqT.of hc, atI_nat rfl, rfl, _, rfl, ifF (by decide +kernel) ?_⟩
      refine ⟨_, rfl, l, rfl, ⟨_, SqL.of hl.1⟩, fun D1 n1 => ?_⟩
      refine lc_sts (us := ts) (vf := fun t => V.ref t.1) (p := fun t => decide (t.2.nm ≠ z)) (fs := fun t => t.2) n1 hl.1 (by omega) (fun t ht H' s1 N N0 h1 h2 => ?_) (fun H1 t1 s1 hD1 e1 => ?_)
      · have ht' := s1 _ _ (hl.2 t ht)
        refine ⟨rfl, _, rfl, t.1, _, ((0 : Nat) : Int), _, rfl, rfl, SqT.of ht', atI_nat rfl, _, rfl, c, _, ((1 : Nat) : Int), _, rfl, rfl, SqT.of (s1 _ _ hc), atI_nat rfl, rfl, _, rfl, ?_⟩
        by_cases hx : t.2.nm = z
        · exact ifF (by simp [hx]) (h2 (decide_eq_false fun z => z hx) _ (Same.refl _))
        · exact ifT (by simp [hx]) ⟨_, rfl, h1 (decide_eq_true hx) _ _ (Same.refl _) ht'⟩
      have hl1 := hl.keep s1
      have e1' : snds t1 = (snds ts).filter fun s => decide (s.nm ≠ z) := by
        rw [e1, show snds ts = ts.map fun t => t.2 from rfl, List.filter_map]
        rfl
      refine ⟨_, rfl, D1, _, rfl, Or.inl (SqL.of hD1.1), _, rfl, l, _, rfl, Or.inl (SqL.of hl1.1), rfl, _, rfl, ?_⟩
      by_cases hx : z ∈ nms (snds ts)
      · have lt := filt_lt hx
        rw [← e1', snds_len, snds_len] at lt
        refine ifF ?_ ⟨_, rfl, c, _, ((0 : Nat) : Int), _, rfl, rfl, SqT.of (s1 _ _ hc), atI_nat rfl, rfl, _, rfl, ifT (by decide +kernel) ⟨_, rfl, ?_⟩⟩
        · rw [decide_eq_false]
          · decide
          · intro e
            have e := V.int.inj e
            rw [List.length_map, List.length_map] at e
            omega
        · exact q _ D1 t1 _ (by simp only [stepS, hx, if_true]) s1 n1 hD1 e1'
      · have le := filt_eq hx
        rw [← e1'] at le
        have le := congrArg List.length le
        rw [snds_len, snds_len] at le
        refine ifT ?_ (q0 (by simp only [stepS, hx, if_false]) _ s1)
        rw [decide_eq_true]
        rw [List.length_map, List.length_map, le]
    | ck k =>
      have hc : H c = some (.tup k.vals) := hc
      have ok : k.Ok := ok
      obtain ⟨z, ez, np, no⟩ := ck0 k
      refine ⟨_, rfl, c, _, ((0 : Nat) : Int), _, rfl, rfl, SqT.of hc, atI_nat ez, rfl, _, rfl, ifF (by rw [decide_eq_false (fun e => np (V.str.inj e))]; decide) ?_⟩
      -- others
      refine ⟨_, rfl, l, rfl, ⟨_, SqL.of hl.1⟩, fun D1 n1 => ?_⟩
      refine lc_sts (us := ts) (vf := fun t => V.ref t.1) (p := fun t => decide (t.2.nm ≠ k.nm)) (fs := fun t => t.2) n1 hl.1 (by omega) (fun t ht H' s1 N N0 h1 h2 => ?_) (fun H1 t1 s1 hD1 e1 => ?_)
      · have ht' := s1 _ _ (hl.2 t ht)
        refine ⟨rfl, _, rfl, t.1, _, ((0 : Nat) : Int), _, rfl, rfl, SqT.of ht', atI_nat rfl, _, rfl, c, _, ((1 : Nat) : Int), _, rfl, rfl, SqT.of (s1 _ _ hc), atI_nat (ck1 k), rfl, _, rfl, ?_⟩
        by_cases hx : t.2.nm = k.nm
        · exact ifF (by simp [hx]) (h2 (decide_eq_false fun z => z hx) _ (Same.refl _))
        · exact ifT (by simp [hx]) ⟨_, rfl, h1 (decide_eq_true hx) _ _ (Same.refl _) ht'⟩
      have hl1 := hl.keep s1
      have hc1 := s1 _ _ hc
      have e1' : snds t1 = (snds ts).filter fun s => decide (s.nm ≠ k.nm) := by
        rw [e1, show snds ts = ts.map fun t => t.2 from rfl, List.filter_map]
        rfl
      refine ⟨_, rfl, D1, _, rfl, Or.inl (SqL.of hD1.1), _, rfl, l, _, rfl, Or.inl (SqL.of hl1.1), rfl, _, rfl, ?_⟩
      by_cases hin : k.nm ∈ nms (snds ts)
      case neg =>
        have le := filt_eq hin
        rw [← e1'] at le
        have le := congrArg List.length le
        rw [snds_len, snds_len] at le
        refine ifT ?_ (q0 (step_ck0 hin) _ s1)
        rw [decide_eq_true]
        rw [List.length_map, List.length_map, le]
      have lt1 := filt_lt hin
      rw [← e1', snds_len, snds_len] at lt1
      obtain ⟨s0, m0, e0⟩ := List.mem_map.mp hin
      have hst := step_ck so.nd m0 e0
      refine ifF ?_ ?_
      · rw [decide_eq_false]
        · decide
        · intro e
          have e := V.int.inj e
          rw [List.length_map, List.length_map] at e
          omega
      refine ⟨_, rfl, c, _, ((0 : Nat) : Int), _, rfl, rfl, SqT.of hc1, atI_nat ez, rfl, _, rfl, ifF (by rw [decide_eq_false (fun e => no (V.str.inj e))]; decide) ?_⟩
      -- altered
      refine ⟨_, rfl, l, rfl, ⟨_, SqL.of hl1.1⟩, fun D2 n2 => ?_⟩
      refine lc_sts (us := ts) (vf := fun t => V.ref t.1) (p := fun t => decide (t.2.nm = k.nm)) (fs := fun t => k.alt t.2) n2 hl1.1 (by omega) (fun t ht H' s2 N N0 h1 h2 => ?_) (fun H2 t2 s2 hD2 e2 => ?_)
      · have ht' := s2 _ _ (hl1.2 t ht)
        refine ⟨rfl, _, rfl, t.1, _, ((0 : Nat) : Int), _, rfl, rfl, SqT.of ht', atI_nat rfl, _, rfl, c, _, ((1 : Nat) : Int), _, rfl, rfl, SqT.of (s2 _ _ hc1), atI_nat (ck1 k), rfl, _, rfl, ?_⟩
        by_cases hx : t.2.nm = k.nm
        · exact ifT (by simp [hx]) ⟨_, rfl, _, rfl, t.1, c, t.2, k, rfl, ht', s2 _ _ hc1, fun b H3 s3 nb hb => h1 (decide_eq_true hx) _ _ s3 hb⟩
        · exact ifF (by simp [hx]) (h2 (decide_eq_false hx) _ (Same.refl _))
      have hl2 := hl1.keep s2
      have e2' : snds t2 = ((snds ts).filter fun s => decide (s.nm = k.nm)).map k.alt := by
        rw [e2, show snds ts = ts.map fun t => t.2 from rfl, List.filter_map, List.map_map]
        rfl
      have hx : ∀ x ∈ snds ts, x.nm = k.nm → x = s0 := fun x hx e => nodup_inj so.nd x hx s0 m0 (e.trans e0.symm)
      have m2 : k.alt s0 ∈ snds t2 := by
        rw [e2']
        exact List.mem_map.mpr ⟨s0, List.mem_filter.mpr ⟨m0, decide_eq_true e0⟩, rfl⟩
      have al2 : ∀ y ∈ snds t2, y = k.alt s0 := fun y hy => by
        rw [e2'] at hy
        obtain ⟨x, hx1, rfl⟩ := List.mem_map.mp hy
        rw [hx x (List.mem_filter.mp hx1).1 (of_decide_eq_true (List.mem_filter.mp hx1).2)]
      match t2, hD2, e2', m2, al2 with
      | [], _, _, m2, _ => simp at m2
      | u :: t2, hD2, e2', m2, al2 =>
        have hu := hD2.2 u List.mem_cons_self
        have eu : u.2 = k.alt s0 := al2 _ List.mem_cons_self
        have du : Dp K H2 (.ref u.1) u.2.data := .tup (SqT.of hu) (.cons (.str _) (.cons (.str _) (.cons (.str _) (.cons (.int _) (.cons (.int _) .nil)))))
        have uo : u.2.Ok := by
          rw [eu]
          exact alt_ok ok (so.ok s0 m0)
        refine ⟨_, rfl, D2, _, ((0 : Nat) : Int), _, rfl, rfl, SqL.of hD2.1, atI_nat rfl, _, rfl, _, _, du, dp_of hl2, s5_shaped uo, sts_shaped so.ok, _, rfl, ?_⟩
        rw [any_s5]
        by_cases nin : u.2 ∈ snds ts
        · refine ifT (by rw [decide_eq_true nin]) (q0 ?_ _ (same_trans s1 s2))
          rw [hst, if_neg]
          rw [← eu]
          exact fun h => h nin
        refine ifF (by rw [decide_eq_false nin]; decide) ?_
        have hD12 := hD1.keep s2
        have len : t1.length + (u :: t2).length ≤ 1000 := by
          have h1 := congrArg List.length e2'
          rw [snds_len, List.length_map] at h1
          have h2 := List.length_filter_le (fun s : S5 => decide (s.nm = k.nm)) (snds ts)
          rw [snds_len] at h2
          omega
        refine ⟨_, rfl, _, rfl, D1, D2, _, _, rfl, rfl, hD12.1, hD2.1, by rw [List.length_map, List.length_map]; omega, fun D3 n3 => ?_⟩
        have s3 := same_upd (o := .lst ((t1.map fun t => V.ref t.1) ++ (u :: t2).map fun t => V.ref t.1)) n3
        have s03 := same_trans s1 (same_trans s2 s3)
        refine q _ D3 (t1 ++ u :: t2) _ (by rw [hst, if_pos]; rw [← eu]; exact nin) s03 ((same_trans s1 s2).free n3) ⟨by rw [upd_same, List.map_append], fun t ht => s3 _ _ (by
          rcases List.mem_append.mp ht with h | h
          · exact hD12.2 t h
          · exact hD2.2 t h)⟩ ?_
        rw [show snds (t1 ++ u :: t2) = snds t1 ++ snds (u :: t2) from List.map_append, e1', e2']
        rfl
end
end K4
end
section
set_option Elab.async false
set_option linter.all false
set_option maxRecDepth 100000
set_option maxHeartbeats 4000000
namespace K4
open PySem PySem.Spec PyProof.Rows L2 H3 H4
theorem step_ok {ss ss' : List S5} {k : Ch} (so : SOk ss) (l : ss.length ≤ 59) (ok : k.Ok) (h : stepS ss k = some ss') : SOk ss' ∧ ss'.length ≤ ss.length + 1 := by
  cases k with
  | put x =>
    by_cases hx : x.nm ∈ nms ss
    · simp only [stepS, hx, if_true] at h
      cases h
    · simp only [stepS, hx, if_false] at h
      cases h
      refine ⟨⟨fun s hs => ?_, ?_, by rw [List.length_append]; show ss.length + 1 ≤ 60; omega⟩, by rw [List.length_append]; exact Nat.le_refl _⟩
      · rcases List.mem_append.mp hs with h | h
        · exact so.ok s h
        · rw [List.mem_singleton.mp h]
          exact ok
      · show ((ss ++ [x]).map S5.nm).Nodup
        rw [List.map_append]
        refine List.nodup_append.mpr ⟨so.nd, by simp, fun a ha b hb e => ?_⟩
        rw [List.map_singleton, List.mem_singleton] at hb
        subst hb
        subst e
        exact hx ha
  | out z =>
    by_cases hx : z ∈ nms ss
    · simp only [stepS, hx, if_true] at h
      cases h
      have le := List.length_filter_le (fun s : S5 => decide (s.nm ≠ z)) ss
      refine ⟨⟨fun s hs => so.ok s (List.mem_filter.mp hs).1, (List.filter_sublist.map S5.nm).nodup so.nd, by omega⟩, by omega⟩
    · simp only [stepS, hx, if_false] at h
      cases h
  | ck k =>
    by_cases hx : k.nm ∈ nms ss
    · obtain ⟨s0, m0, e0⟩ := List.mem_map.mp hx
      rw [step_ck so.nd m0 e0] at h
      by_cases ha : k.alt s0 ∉ ss
      · rw [if_pos ha] at h
        cases h
        exact ⟨chg_ok so ok, by rw [chg_len]; omega⟩
      · rw [if_neg ha] at h
        cases h
    · rw [step_ck0 hx] at h
      cases h
/-- the order does not matter -/
theorem step_perm {us ss : List S5} {k : Ch} (so : SOk ss) (p : us.Perm ss) : (stepS us k = none ∧ stepS ss k = none) ∨ ∃ us' ss', stepS us k = some us' ∧ stepS ss k = some ss' ∧ us'.Perm ss' := by
  have pn : ∀ z, z ∈ nms us ↔ z ∈ nms ss := fun z => (p.map S5.nm).mem_iff
  cases k with
  | put x =>
    by_cases hx : x.nm ∈ nms ss
    · exact .inl ⟨by simp only [stepS, (pn _).mpr hx, if_true], by simp only [stepS, hx, if_true]⟩
    · exact .inr ⟨_, _, by simp only [stepS, mt (pn _).mp hx, if_false]; rfl, by simp only [stepS, hx, if_false], p.append_right _⟩
  | out z =>
    by_cases hx : z ∈ nms ss
    · exact .inr ⟨_, _, by simp only [stepS, (pn _).mpr hx, if_true]; rfl, by simp only [stepS, hx, if_true], p.filter _⟩
    · exact .inl ⟨by simp only [stepS, mt (pn _).mp hx, if_false], by simp only [stepS, hx, if_false]⟩
  | ck k =>
    have su := so.perm p
    by_cases hx : k.nm ∈ nms ss
    · obtain ⟨s0, m0, e0⟩ := List.mem_map.mp hx
      rw [step_ck so.nd m0 e0, step_ck su.nd (p.mem_iff.mpr m0) e0]
      by_cases ha : k.alt s0 ∈ ss
      · exact .inl ⟨if_neg (fun h => h (p.mem_iff.mpr ha)), if_neg (fun h => h ha)⟩
      · exact .inr ⟨_, _, if_pos (fun h => ha (p.mem_iff.mp h)), if_pos ha, chg_perm p⟩
    · exact .inl ⟨step_ck0 (mt (pn _).mp hx), step_ck0 hx⟩
theorem s5_od {H : Hp} {t : Addr} {s : S5} (h : H t = some (.tup s.vals)) (ok : s.Ok) : ∃ o, OdV H (.ref t) o ∧ isStreetO o = true := by
  obtain ⟨o1, o2, o3, o4, o5, o6, o7, o8⟩ := ok
  have w : ∀ {z : Str}, Wd z → z.length ≤ 100 := fun {z} hz => by
    have := hz.2.1
    have e : z.length = z.cps.toList.length := str_length z
    omega
  refine ⟨_, .tup h (.cons (.str _ (w o1)) (.cons (.str _ (w o2)) (.cons (.str _ (w o3)) (.cons (.int _) (.cons (.int _) .nil))))), ?_⟩
  simp [isStreetO, isWordO, isCountO, o1, o2, o3, o4, o5, o7]
theorem Ch.At.od {H : Hp} {c : Addr} {k : Ch} (h : k.At H c) (ok : k.Ok) : ∃ o, OdV H (.ref c) o ∧ isChangeO o = true := by
  have w : ∀ {z : Str}, Wd z → z.length ≤ 100 := fun {z} hz => by
    have := hz.2.1
    have e : z.length = z.cps.toList.length := str_length z
    omega
  cases k with
  | put s =>
    obtain ⟨t, h1, h2⟩ := h
    obtain ⟨o, h3, h4⟩ := s5_od h2 ok
    exact ⟨_, .tup h1 (.cons (.str _ (by decide)) (.cons h3 .nil)), by simp [isChangeO, Od.isS, h4]⟩
  | out z =>
    have ok : Wd z := ok
    refine ⟨_, .tup h (.cons (.str _ (by decide)) (.cons (.str _ (w ok)) .nil)), ?_⟩
    have e : decide (("out" : Str) = "put") = false := by decide +kernel
    simp [isChangeO, Od.isS, isWordO, ok, e]
  | ck k =>
    cases k with
    | w z i =>
      obtain ⟨o1, o2, _⟩ := ok
      have o1 : Wd z := o1
      exact ⟨_, .tup h (.cons (.str _ (by decide)) (.cons (.str _ (w o1)) (.cons (.int _) .nil))), by simp [isChangeO, Od.isS, isWordO, isCountO, o1, o2]⟩
    | l z i =>
      obtain ⟨o1, o2, _⟩ := ok
      have o1 : Wd z := o1
      exact ⟨_, .tup h (.cons (.str _ (by decide)) (.cons (.str _ (w o1)) (.cons (.int _) .nil))), by simp [isChangeO, Od.isS, isWordO, isCountO, o1, o2]⟩
    | t z =>
      obtain ⟨o1, _⟩ := ok
      have o1 : Wd z := o1
      have e : decide (("turn" : Str) = "put") = false := by decide +kernel
      exact ⟨_, .tup h (.cons (.str _ (by decide)) (.cons (.str _ (w o1)) .nil)), by simp [isChangeO, Od.isS, isWordO, o1, e]⟩
section
variable {P : Program} {w : World} {K : PySem.W.Frag} {mg : Str → Option Value} {base : Heap}
/-! ### fitted -/
def spFitted (CQ : Addr) : Sp := fun vs H Q _ => ∃ (q c : Addr) (ss : List S5) (gs : List Str) (k : Ch), vs = [.ref q, .ref c] ∧ IsQ H CQ q ss gs ∧ ss.length ≤ 59 ∧ k.At H c ∧ k.Ok ∧
  (stepS ss k = none → ∀ H', Same H H' → Q .non H') ∧ ∀ ss' q' H', stepS ss k = some ss' → Same H H' → H q' = none → IsQ H' CQ q' ss' gs → Q (.ref q') H'
theorem scFitted : FnScope ["quarter", "change", "streets"] ["quarter", "change"] (defScope sFitted) := ⟨rfl, rfl, rfl, by decide +kernel, rfl, by decide +kernel, by decide +kernel⟩
theorem ok_fitted {CQ : Addr} {f : Addr} {fd : FuncData} (F : FnP K "fitted" sFitted f fd) (M : Ms P w K mg base CQ) (GS : Fz P w K mg base "_changed_streets" 2 ["streets", "change"] spChgS) : FnOk P w K mg base CX0 8 f fd ["quarter", "change"] (spFitted CQ) := by
  refine F.ok scFitted (fun vs H Q E h => ?_) (fun cdv A outer s H vs Q E hr h => ?_)
  · obtain ⟨_, _, _, _, _, rfl, _⟩ := h
    rfl
  · obtain ⟨q, c, ss, gs, k, rfl, ⟨⟨dx, ml, mg', mts, mgs, hqp, pt, as, pg, ag⟩, so, go⟩, l59, hc, ok, z0, z⟩ := h
    have r1 : Room 1 (A.deeper (envOfC "fitted" (defScope sFitted) s.heap.objs.size f cdv)) := hr.mono (by decide)
    have r2 : Room 2 (A.deeper (envOfC "fitted" (defScope sFitted) s.heap.objs.size f cdv)) := hr.mono (by decide)
    refine ⟨_, PSs.nox (pss_cons (ps_set (i := 2) scFitted.nd rfl (Or.inl rfl) (pe_fz GS r2 (by rfl) (pa_cons (pe_mz M.qs (pv 0) r1) (pa_cons (pv 1) pa_nil))))
      (pss_one (ps_ret (pe_ifExp (pt_cmpR op_isN (pv 2) pe_non (nomark _)) pe_non (pe_qu M.mq hr (by rfl) (pa_cons (pv 2) (pa_cons (pe_mz M.qg (pv 0) r1) pa_nil))))))), ?_⟩
    refine ⟨_, rfl, q, dx, _, rfl, hqp.at_, rfl, q, dx, ml, _, _, rfl, hqp.at_, rfl, hqp.s.1, fun D1 n1 => ?_⟩
    have s1 := same_upd (o := .lst (mts.map fun t => V.ref t.1)) n1
    have hD1 : Sts (upd H D1 (.lst (mts.map fun t => V.ref t.1))) D1 mts := ⟨upd_same, fun t ht => s1 _ _ (hqp.s.2 t ht)⟩
    generalize upd H D1 (.lst (mts.map fun t => V.ref t.1)) = H1 at s1 hD1 ⊢
    have so' := so.perm pt
    have hp := step_perm (k := k) so pt
    refine ⟨_, rfl, D1, c, mts, k, rfl, hD1, so', hc.keep s1, ok, fun hn H2 s2 => ?_, fun ss' D2 t2 H2 hs s2 n2 hD2 e2 => ?_⟩
    · rcases hp with ⟨_, h0⟩ | ⟨us', ss', h1, h2, h3⟩
      · exact ⟨_, rfl, rfl, _, rfl, ifT rfl (z0 h0 _ (same_trans s1 s2))⟩
      · rw [hn] at h1
        cases h1
    rcases hp with ⟨h0, _⟩ | ⟨us', sr, h1, h2, h3⟩
    · rw [hs] at h0
      cases h0
    rw [hs] at h1
    cases h1
    have s02 := same_trans s1 s2
    refine ⟨_, rfl, rfl, _, rfl, ifF (by rw [decide_eq_false (fun e => by cases e)]; decide) ?_⟩
    have hq2 := hqp.keep s02
    refine ⟨_, rfl, _, rfl, q, dx, _, rfl, hq2.at_, rfl, q, dx, mg', _, _, rfl, hq2.at_, rfl, hq2.g, fun D3 n3 => ?_⟩
    have s3 := same_upd (o := .lst (mgs.map V.str)) n3
    have hD3 : Ws (upd H2 D3 (.lst (mgs.map V.str))) D3 mgs := upd_same
    generalize upd H2 D3 (.lst (mgs.map V.str)) = H3 at s3 hD3 ⊢
    have s03 := same_trans s02 s3
    have sr' := (step_ok so l59 ok h2).1
    refine ⟨D2, D3, t2, mgs, rfl, hD2.keep s3, by rw [e2]; exact sr'.perm h3, hD3, go.perm pg, fun q' dx' l' g' ts' gs' H' s4 nq _ _ hq' pt' as' pg' ag' => ?_⟩
    refine z _ q' H' h2 (same_trans s03 s4) (s03.free nq) ⟨⟨dx', l', g', ts', gs', hq', ?_, as', pg'.trans pg, ag'⟩, sr', go⟩
    refine (pt'.map fun t => t.2).trans ?_
    show (snds t2).Perm _
    rw [e2]
    exact h3
/-! ### changed -/
def spChanged (CQ CI CC : Addr) : Sp := fun vs H Q E => ∃ v vc, vs = [v, vc] ∧ ((∃ T, KindV H v (.type T) ∧ rdInv CI v H E) ∨ ∃ q ss gs, v = .ref q ∧ IsQ H CQ q ss gs ∧ ss.length ≤ 59 ∧
  ((∃ o, OdV H vc o ∧ isChangeO o = false ∧ ∀ H', Same H H' → rdInv CC vc H' E) ∨ ∃ c k, vc = .ref c ∧ k.At H c ∧ k.Ok ∧
    (stepS ss k = none → ∀ H', Same H H' → rdInv CC vc H' E) ∧ ∀ ss' q' H', stepS ss k = some ss' → Same H H' → H q' = none → IsQ H' CQ q' ss' gs → Q (.ref q') H'))
theorem scChanged : FnScope ["quarter", "change", "after"] ["quarter", "change"] (defScope sChanged) := ⟨rfl, rfl, rfl, by decide +kernel, rfl, by decide +kernel, by decide +kernel⟩
theorem ok_changed {CQ CI CC : Addr} {f : Addr} {fd : FuncData} (F : FnP K "changed" sChanged f fd) (GQ : FzX P w K mg base "check_quarter" 3 ["value"] (spChkQ CQ CI)) (GI : Fz P w K mg base "is_change" 4 ["value"] spIsChangeO) (GF : Fz P w K mg base "fitted" 8 ["quarter", "change"] (spFitted CQ))
    (Z : Xz P w K mg base "InvalidChange" CC) : FnOk P w K mg base (L2.CX P w) 9 f fd ["quarter", "change"] (spChanged CQ CI CC) := by
  refine F.ok scChanged (fun vs H Q E h => ?_) (fun cdv A outer s H vs Q E hr h => ?_)
  · obtain ⟨_, _, rfl, _⟩ := h
    rfl
  · obtain ⟨v, vc, rfl, h⟩ := h
    have r2 : Room 2 (A.deeper (envOfC "changed" (defScope sChanged) s.heap.objs.size f cdv)) := hr.mono (by decide)
    have r3 : Room 3 (A.deeper (envOfC "changed" (defScope sChanged) s.heap.objs.size f cdv)) := hr.mono (by decide)
    have r4 : Room 4 (A.deeper (envOfC "changed" (defScope sChanged) s.heap.objs.size f cdv)) := hr.mono (by decide)
    refine ⟨_, (pss_cons (ps_expr (pe_fzX GQ r3 (by rfl) (takes_of rfl rfl rfl rfl) (pa_cons (pv 0) pa_nil)))
      (pss_cons (ps_set (i := 2) scChanged.nd rfl (Or.inl rfl) (pe_ifExp (pt_val (pe_fz GI r4 (by rfl) (pa_cons (pv 1) pa_nil))) (pe_fz GF hr (by rfl) (pa_cons (pv 0) (pa_cons (pv 1) pa_nil))) pe_non))
      (pss_cons (ps_if (pt_cmpR op_isN (pv 2) pe_non (nomark _)) (pss_one (ps_inv Z rfl r2 (takes_of rfl rfl rfl rfl) (by rfl) (pa_cons (pv 1) pa_nil))) pss_nil) (pss_one (ps_ret (pv 2)))))), ?_⟩
    rcases h with ⟨U, k, z⟩ | ⟨q, ss, gs, rfl, hq, l59, h⟩
    · exact ⟨_, rfl, v, rfl, .inr ⟨U, k, z⟩⟩
    have hq0 := hq
    obtain ⟨⟨dx, ml, mg', mts, mgs, hqp, _⟩, _, _⟩ := hq0
    refine ⟨_, rfl, _, rfl, .inl ⟨q, dx, _, rfl, hqp.at_, ?_⟩⟩
    rcases h with ⟨o, ho, e, z⟩ | ⟨c, k, rfl, hc, ok, z0, z⟩
    · refine ⟨_, rfl, vc, o, rfl, ho, fun H1 s1 => ⟨_, rfl, ?_⟩⟩
      rw [e]
      exact ifF nf ⟨_, rfl, rfl, _, rfl, ifT rfl ⟨_, rfl, Z.rd (z _ s1)⟩⟩
    · obtain ⟨o, ho, e⟩ := hc.od ok
      refine ⟨_, rfl, .ref c, o, rfl, ho, fun H1 s1 => ⟨_, rfl, ?_⟩⟩
      rw [e]
      refine ifT rfl ⟨_, rfl, _, rfl, q, c, ss, gs, k, rfl, IsQ.keep hq s1, l59, hc.keep s1, ok, fun hn H2 s2 => ?_, fun ss' q' H2 hs s2 nq hq' => ?_⟩
      · exact ⟨_, rfl, rfl, _, rfl, ifT rfl ⟨_, rfl, Z.rd (z0 hn _ (same_trans s1 s2))⟩⟩
      · exact ⟨_, rfl, rfl, _, rfl, ifF (by rw [decide_eq_false (fun e => by cases e)]; decide) ⟨_, rfl, z ss' q' H2 hs (same_trans s1 s2) (s1.free nq) hq'⟩⟩
end
end K4
end
section
set_option Elab.async false
set_option linter.all false
set_option maxRecDepth 100000
set_option maxHeartbeats 4000000
namespace K4
open PySem PySem.Spec PyProof.Rows L2 H3 H4
theorem OdA.get {H : Hp} : ∀ {vs : List V} {os : List Od} {i : Nat} {v : V}, OdA H vs os → vs[i]? = some v → ∃ o, os[i]? = some o ∧ OdV H v o
  | [], _, i, v, _, e => by simp at e
  | x :: vs, _, 0, v, h, e => by
    cases h with
    | cons h hs =>
      cases e
      exact ⟨_, rfl, h⟩
  | x :: vs, _, i + 1, v, h, e => by
    cases h with
    | cons h hs =>
      obtain ⟨d, e2, h2⟩ := hs.get (i := i) (v := v) (by simpa using e)
      exact ⟨d, by simpa using e2, h2⟩
def areChO : Od → Bool
  | .lst os => os.all isChangeO
  | _ => false
/-- it is no list longer than a thousand -/
def Od.short : Od → Prop
  | .lst os => os.length ≤ 1000
  | _ => True
section
variable {P : Program} {w : World} {K : PySem.W.Frag} {mg : Str → Option Value} {base : Heap}
/-! ### are_changes_by_form -/
def spAreCh (CQ : Addr) : Sp := fun vs H Q _ => ∃ v, vs = [v] ∧ ((∃ o, OdV H v o ∧ o.short ∧ ∀ H', Same H H' → Q (.bl (areChO o)) H') ∨ ∃ q dx fs, v = .ref q ∧ H q = some (.ins CQ dx fs) ∧ Q (.bl false) H)
abbrev NAC : List Str := ["value", "change"]
theorem scAreCh : FnScope NAC ["value"] (defScope sAreChF) := ⟨rfl, rfl, rfl, by decide +kernel, rfl, by decide +kernel, by decide +kernel⟩
theorem ok_areCh {CQ iQ eQ : Addr} {f : Addr} {fd : FuncData} (F : FnP K "are_changes_by_form" sAreChF f fd) (c : ClsF K CQ iQ eQ) (hK : PySem.W.kitOne K (.ref CQ) (.type "list") = some false) (GI : Fz P w K mg base "is_change" 4 ["value"] spIsChangeO) (T : Tx K mg) : FnOk P w K mg base CX0 5 f fd ["value"] (spAreCh CQ) := by
  refine F.ok scAreCh (fun vs H Q E h => ?_) (fun cdv A outer s H vs Q E hr h => ?_)
  · obtain ⟨_, rfl, _⟩ := h
    rfl
  · obtain ⟨v, rfl, h⟩ := h
    have gIs := T.fr "isinstance" (by decide +kernel)
    have gLi := T.fr "list" (by decide +kernel)
    have gA := T.fr "all" (by decide +kernel)
    have sl := sizeLine_eq
    refine ⟨_, PSs.nox (pss_one (ps_ret (pe_and (pe_callB call_isi (by rfl) gIs (by decide +kernel) (pa_cons (pv 0) (pa_cons (pe_bltn (v := .ty "list") (by rfl) gLi (by decide +kernel) rfl) pa_nil)))
      (pe_one (pe_callB (cr_all rfl) (by rfl) gA (by decide +kernel) (pa_cons (pe_lc (own := [("change", 1)]) (g := gName 1) (tt := tYes) rfl scAreCh.nd (pi_list (pv 0)) (blkOk_by (own := [("change", 1)]) (N := NAC) (sc := defScope sAreChF) (by decide +kernel))
          (fun _ _ _ _ _ => pg_name (i := 1) scAreCh.nd rfl (Or.inl rfl)) (fun _ _ _ _ _ => pts_nil) (fun _ _ _ _ _ => pe_fz GI hr (by rfl) (pa_cons (pv 1) pa_nil))) pa_nil)))))), ?_⟩
    rcases h with ⟨o, ho, sh, q⟩ | ⟨a, dx, fs, rfl, ha, q⟩
    · have ty := ho.ty (K := K)
      have no : ∀ {c : Od}, areChO c = false → (∀ H', Same H H' → Q (.bl (areChO c)) H') → Q (.bl false) H := fun e q => by
        have := q H (Same.refl _)
        rwa [e] at this
      cases o with
      | int i => exact ⟨_, rfl, _, _, _, _, _, rfl, .ty _, ty, kfl (show kitB "int" "list" = some false by decide +kernel), _, rfl, ifF nf (no rfl q)⟩
      | bl i => exact ⟨_, rfl, _, _, _, _, _, rfl, .ty _, ty, kfl (show kitB "bool" "list" = some false by decide +kernel), _, rfl, ifF nf (no rfl q)⟩
      | non => exact ⟨_, rfl, _, _, _, _, _, rfl, .ty _, ty, kfl (show kitB "NoneType" "list" = some false by decide +kernel), _, rfl, ifF nf (no rfl q)⟩
      | str i => exact ⟨_, rfl, _, _, _, _, _, rfl, .ty _, ty, kfl (show kitB "str" "list" = some false by decide +kernel), _, rfl, ifF nf (no rfl q)⟩
      | tup i => exact ⟨_, rfl, _, _, _, _, _, rfl, .ty _, ty, kfl (show kitB "tuple" "list" = some false by decide +kernel), _, rfl, ifF nf (no rfl q)⟩
      | dct => exact ⟨_, rfl, _, _, _, _, _, rfl, .ty _, ty, kfl (show kitB "dict" "list" = some false by decide +kernel), _, rfl, ifF nf (no rfl q)⟩
      | lst os =>
        cases ho with
        | @lst l xs _ hl hs =>
        have sh : os.length ≤ 1000 := sh
        have ln := hs.len
        refine ⟨_, rfl, _, _, _, _, _, rfl, .ty _, .base (.lst hl), ktr (by decide +kernel), _, rfl, ifT rfl ?_⟩
        refine ⟨_, rfl, l, rfl, ⟨_, SqL.of hl⟩, fun D nD => ?_⟩
        refine lc_list (K := K) (a := l) (xs := xs) (fun j H' => Same H H' ∧ H' D = some (.lst (((os.take j).map isChangeO).map V.bl))) ⟨same_upd nD, upd_same⟩ (fun j H' _ h => SqL.of (h.1 _ _ hl)) ?_ ?_
        · rintro j x H' hj ⟨s1, hD⟩
          obtain ⟨o, e, ho⟩ := hs.get hj
          have lt := (List.getElem?_eq_some_iff.mp e).1
          refine ⟨rfl, _, rfl, x, o, rfl, ho.keep s1, fun H2 s2 => ⟨_, s2 _ _ hD, by rw [List.length_map, List.length_map, List.length_take]; omega, fun b o eb => ?_, ?_⟩⟩
          · rw [upd_ne (ne_of_none eb nD)]
            exact s2 _ _ (s1 _ _ eb)
          · rw [upd_same, List.take_add_one, e]
            simp
        · rintro H1 ⟨s1, hD⟩
          rw [ln, List.take_length] at hD
          refine ⟨D, os.map isChangeO, rfl, SqL.of hD, ?_⟩
          have := q H1 s1
          rwa [show areChO (.lst os) = (os.map isChangeO).all id by simp [areChO, List.all_map, Function.comp_def]] at this
    · exact ⟨_, rfl, _, _, _, _, _, rfl, .ty _, c.ty ha, hK, _, rfl, ifF nf q⟩
/-! ### changed_by -/
/-- the changes one after the other: the first one that does not fit, or the streets at the end -/
def runS : List S5 → List (Addr × Ch) → Addr ⊕ List S5
  | ss, [] => .inr ss
  | ss, t :: r => match stepS ss t.2 with
    | none => .inl t.1
    | some ss' => runS ss' r
structure ChL (H : Hp) (l : Addr) (ks : List (Addr × Ch)) : Prop where
  at_ : H l = some (.lst (ks.map fun t => V.ref t.1))
  each : ∀ t ∈ ks, t.2.At H t.1
theorem ChL.keep {H H' : Hp} {l : Addr} {ks : List (Addr × Ch)} (h : ChL H l ks) (s : Same H H') : ChL H' l ks := ⟨s _ _ h.at_, fun t ht => (h.each t ht).keep s⟩
theorem ChL.od {H : Hp} {l : Addr} {ks : List (Addr × Ch)} (h : ChL H l ks) (ok : ∀ t ∈ ks, t.2.Ok) : ∃ os, OdV H (.ref l) (.lst os) ∧ os.length = ks.length ∧ os.all isChangeO = true := by
  have key : ∀ ks : List (Addr × Ch), (∀ t ∈ ks, t.2.At H t.1) → (∀ t ∈ ks, t.2.Ok) → ∃ os, OdA H (ks.map fun t => V.ref t.1) os ∧ os.length = ks.length ∧ os.all isChangeO = true := by
    intro ks
    induction ks with
    | nil => exact fun _ _ => ⟨[], .nil, rfl, rfl⟩
    | cons t ks ih =>
      intro h ok
      obtain ⟨os, h1, h2, h3⟩ := ih (fun u hu => h u (List.mem_cons_of_mem _ hu)) (fun u hu => ok u (List.mem_cons_of_mem _ hu))
      obtain ⟨o, h4, h5⟩ := (h t List.mem_cons_self).od (ok t List.mem_cons_self)
      exact ⟨o :: os, .cons h4 h1, by simp [h2], by simp [h5, h3]⟩
  obtain ⟨os, h1, h2, h3⟩ := key ks h.each ok
  exact ⟨os, .lst h.at_ h1, h2, h3⟩
def spChangedBy (CQ CI CC CL : Addr) : Sp := fun vs H Q E => ∃ v vc, vs = [v, vc] ∧ ((∃ T, KindV H v (.type T) ∧ rdInv CI v H E) ∨ ∃ q ss gs, v = .ref q ∧ IsQ H CQ q ss gs ∧
  (((∃ o, OdV H vc o ∧ o.short ∧ areChO o = false) ∨ ∃ a dx fs, vc = .ref a ∧ H a = some (.ins CQ dx fs)) ∧ (∀ H', Same H H' → rdInv CL vc H' E) ∨
   ∃ l ks, vc = .ref l ∧ ChL H l ks ∧ (∀ t ∈ ks, t.2.Ok) ∧ ss.length + ks.length ≤ 60 ∧ (∀ a, runS ss ks = .inl a → ∀ H', Same H H' → rdInv CC (.ref a) H' E) ∧
     ∀ ss' q' H', runS ss ks = .inr ss' → Same H H' → IsQ H' CQ q' ss' gs → Q (.ref q') H'))
abbrev NBy : List Str := ["quarter", "changes", "after", "change"]
theorem scBy : FnScope NBy ["quarter", "changes"] (defScope sChangedBy) := ⟨rfl, rfl, rfl, by decide +kernel, rfl, by decide +kernel, by decide +kernel⟩
theorem ok_changedBy {CQ CI CC CL : Addr} {f : Addr} {fd : FuncData} (F : FnP K "changed_by" sChangedBy f fd) (GQ : FzX P w K mg base "check_quarter" 3 ["value"] (spChkQ CQ CI)) (GA : Fz P w K mg base "are_changes_by_form" 5 ["value"] (spAreCh CQ))
    (GC : FzX P w K mg base "changed" 9 ["quarter", "change"] (spChanged CQ CI CC)) (Z : Xz P w K mg base "InvalidChanges" CL) : FnOk P w K mg base (L2.CX P w) 10 f fd ["quarter", "changes"] (spChangedBy CQ CI CC CL) := by
  refine F.ok scBy (fun vs H Q E h => ?_) (fun cdv A outer s H vs Q E hr h => ?_)
  · obtain ⟨_, _, rfl, _⟩ := h
    rfl
  · obtain ⟨v, vc, rfl, h⟩ := h
    have r2 : Room 2 (A.deeper (envOfC "changed_by" (defScope sChangedBy) s.heap.objs.size f cdv)) := hr.mono (by decide)
    have r3 : Room 3 (A.deeper (envOfC "changed_by" (defScope sChangedBy) s.heap.objs.size f cdv)) := hr.mono (by decide)
    have r5 : Room 5 (A.deeper (envOfC "changed_by" (defScope sChangedBy) s.heap.objs.size f cdv)) := hr.mono (by decide)
    refine ⟨_, (pss_cons (ps_expr (pe_fzX GQ r3 (by rfl) (takes_of rfl rfl rfl rfl) (pa_cons (pv 0) pa_nil)))
      (pss_cons (ps_if (pt_not (pt_val (pe_fz GA r5 (by rfl) (pa_cons (pv 1) pa_nil)))) (pss_one (ps_inv Z rfl r2 (takes_of rfl rfl rfl rfl) (by rfl) (pa_cons (pv 1) pa_nil))) pss_nil)
      (pss_cons (ps_set (i := 2) scBy.nd rfl (Or.inl rfl) (pv 0))
      (pss_cons (ps_for PassesOwn.leaving rfl (pi_list (pv 1)) (pg_name (i := 3) scBy.nd rfl (Or.inl rfl)) (pss_one (ps_set (i := 2) scBy.nd rfl (Or.inl rfl) (pe_fzX GC hr (by rfl) (takes_of rfl rfl rfl rfl) (pa_cons (pv 2) (pa_cons (pv 3) pa_nil))))))
      (pss_one (ps_ret (pv 2))))))), ?_⟩
    rcases h with ⟨U, k, z⟩ | ⟨q, ss, gs, rfl, hq, h⟩
    · exact ⟨_, rfl, v, rfl, .inr ⟨U, k, z⟩⟩
    have hq0 := hq
    obtain ⟨⟨dx, ml, mg', mts, mgs, hqp, _⟩, _, _⟩ := hq0
    refine ⟨_, rfl, _, rfl, .inl ⟨q, dx, _, rfl, hqp.at_, ?_⟩⟩
    rcases h with ⟨⟨o, ho, sh, e⟩ | ⟨a, dx', fs, rfl, ha⟩, z⟩ | ⟨l, ks, rfl, hl, ok, len, ze, z⟩
    · refine ⟨_, rfl, vc, rfl, .inl ⟨o, ho, sh, fun H1 s1 => ⟨_, rfl, ?_⟩⟩⟩
      rw [e]
      exact ifT rfl ⟨_, rfl, Z.rd (z _ s1)⟩
    · exact ⟨_, rfl, .ref a, rfl, .inr ⟨a, dx', fs, rfl, ha, _, rfl, ifT rfl ⟨_, rfl, Z.rd (z _ (Same.refl _))⟩⟩⟩
    · obtain ⟨os, ho, lo, e⟩ := hl.od ok
      have sh : Od.short (.lst os) := by
        show os.length ≤ 1000
        omega
      refine ⟨_, rfl, .ref l, rfl, .inl ⟨_, ho, sh, fun H1 s1 => ⟨_, rfl, ?_⟩⟩⟩
      rw [show areChO (.lst os) = true from e]
      refine ifF (by decide) ?_
      have hl1 := hl.keep s1
      refine ⟨_, rfl, _, rfl, l, rfl, ⟨_, SqL.of hl1.at_⟩, ?_⟩
      refine for_list (xs := ks.map fun t => V.ref t.1) (fun j σ H' => ∃ q' ss' ch, σ = [some (.ref q), some (.ref l), some (.ref q'), ch] ∧ Same H H' ∧ IsQ H' CQ q' ss' gs ∧ runS ss ks = runS ss' (ks.drop j) ∧ ss'.length ≤ ss.length + j) ⟨q, ss, none, rfl, s1, hq.keep s1, rfl, Nat.le_refl _⟩ ?_ ?_ ?_
      · rintro j σ H' _ ⟨q', ss', ch, _, s2, _⟩
        exact SqL.of (s2 _ _ hl.at_)
      · rintro j x σ H' hj ⟨q', ss', ch, rfl, s2, hq', er, le⟩
        obtain ⟨t, ht, rfl⟩ := at_map hj
        have tm := List.mem_of_getElem? ht
        have lt := (List.getElem?_eq_some_iff.mp ht).1
        have ed : ks.drop j = t :: ks.drop (j + 1) := by
          rw [List.drop_eq_getElem_cons lt]
          rw [List.getElem?_eq_getElem lt] at ht
          cases ht
          rfl
        rw [ed] at er
        refine ⟨_, rfl, _, rfl, .ref q', .ref t.1, rfl, .inr ⟨q', ss', gs, rfl, hq', by omega, .inr ⟨t.1, t.2, rfl, ((hl.keep s2).each t tm), ok t tm, fun hn H3 s3 => ze t.1 ?_ _ (same_trans s2 s3), fun s4 q4 H3 hs s3 nq hq4 => ?_⟩⟩⟩
        · rw [er]
          simp only [runS, hn]
        · refine ⟨q4, s4, _, rfl, same_trans s2 s3, hq4, ?_, ?_⟩
          · rw [er]
            simp only [runS, hs]
          · have := (step_ok hq'.so (by omega) (ok t tm) hs).2
            omega
      · rintro σ H' ⟨q', ss', ch, rfl, s2, hq', er, le⟩
        refine ⟨_, rfl, z ss' q' H' ?_ s2 hq'⟩
        rw [er, List.length_map, List.drop_length]
        rfl
end
end K4
end
section
set_option Elab.async false
set_option linter.all false
set_option maxRecDepth 100000
set_option maxHeartbeats 8000000
namespace K4
open PySem PySem.Spec PyProof.Rows L2
theorem addL_nodup {L : List Str} {k : Str} (h : L.Nodup) : (TxSet.addL L k).Nodup := by
  unfold TxSet.addL
  split
  · exact h
  · rename_i e
    exact List.nodup_cons.mpr ⟨e, h⟩
theorem fold_nodup : ∀ {ks L : List Str}, L.Nodup → (ks.foldl TxSet.addL L).Nodup
  | [], _, h => h
  | k :: ks, L, h => fold_nodup (ks := ks) (addL_nodup h)
theorem fold_len : ∀ {ks L : List Str}, (ks.foldl TxSet.addL L).length ≤ ks.length + L.length
  | [], L => by simp
  | k :: ks, L => by
    have h1 := fold_len (ks := ks) (L := TxSet.addL L k)
    have h2 := TxSet.addL_len L k
    rw [List.foldl_cons, List.length_cons]
    omega
/-- the words of us are just those of ks, ascending -/
structure Told (us ks : List Str) : Prop where
  asc : Asc us
  nd : us.Nodup
  mem : ∀ x, x ∈ us ↔ x ∈ ks
theorem told_set {us ks : List Str} (p : us.Perm (ks.foldl TxSet.addL [])) (a : SrtX.Asc us) : Told us ks := ⟨a, p.nodup_iff.mpr (fold_nodup List.nodup_nil), fun x => by
  rw [p.mem_iff, TxSet.fold_mem]
  simp⟩
theorem Told.uniq {us vs ks ks' : List Str} (a : Told us ks) (b : Told vs ks') (h : ∀ x, x ∈ ks ↔ x ∈ ks') : us = vs := asc_ext a.nd b.nd (fun x => by rw [a.mem, b.mem, h]) a.asc b.asc
def ends (ss : List S5) : List Str := ss.map S5.st ++ ss.map S5.en
section
variable {P : Program} {w : World} {K : PySem.W.Frag} {mg : Str → Option Value} {base : Heap}
/-! ### ends_of -/
def spEndsOf : Sp := fun vs H Q _ => ∃ (l : Addr) (ts : List (Addr × S5)), vs = [.ref l] ∧ Sts H l ts ∧ ts.length ≤ 60 ∧ ∀ (D : Addr) (H' : Hp), Same H H' → H D = none → Ws H' D (ends (snds ts)) → Q (.ref D) H'
theorem scEndsOf : FnScope ["streets", "street"] ["streets"] (defScope sEndsOf) := ⟨rfl, rfl, rfl, by decide +kernel, rfl, by decide +kernel, by decide +kernel⟩
/-- [street[j] for street in streets] -/
theorem lc_part {H1 : Hp} {l : Addr} {ts : List (Addr × S5)} {g : S5 → Str} {j : Nat} (hj : ∀ s : S5, s.vals[j]? = some (.str (g s))) {σ : L2.St} {i : Nat} {D : Addr} {Qd : Hp → Prop} (nD : H1 D = none) (hl : Sts H1 l ts) (h60 : ts.length ≤ 60)
    (hi : ∀ v, ((wipe σ [i]).set i (some v))[i]? = some (some v)) (hw : ∀ v, wipe ((wipe σ [i]).set i (some v)) [i] = wipe σ [i]) (fin : ∀ H', Same H1 H' → Ws H' D (ts.map fun t => g t.2) → Qd H') :
    ∃ W : Nat → Nat → Hp → Prop, (∃ m, W 0 m (upd H1 D (.lst []))) ∧ ∀ n m H, W n m H →
      ((Itl K l).stop n H ∧ Qd H) ∨ ((Itl K l).go n H ∧ ∃ Nx : Hp → Prop, (∀ H', Nx H' → ∃ m', m' < m ∧ W (n + 1) m' H') ∧ ∀ x H', (Itl K l).yld n H x H' → gName i x (wipe σ [i]) H' fun σ2 H2 => wipe σ2 [i] = wipe σ [i] ∧ tYes σ2 H2 fun b H3 =>
        if b = true then tOp (rIxT K) (tVar i) (tC (.int (j : Nat))) σ2 H3 fun y H4 => ∃ acc, H4 D = some (.lst acc) ∧ acc.length < sizeLine ∧ Nx (upd H4 D (.lst (acc ++ [y]))) else Nx H3) := by
  have sl := sizeLine_eq
  refine lc_list (K := K) (a := l) (xs := ts.map fun t => V.ref t.1) (fun n H' => Same H1 H' ∧ H' D = some (.lst (((ts.map fun t => g t.2).take n).map V.str))) ⟨same_upd nD, upd_same⟩ (fun n H' _ h => SqL.of (h.1 _ _ hl.1)) ?_ ?_
  · rintro n x H' hn ⟨s1, hD⟩
    rw [List.getElem?_map] at hn
    cases e : ts[n]? with
    | none =>
      rw [e] at hn
      cases hn
    | some t =>
      rw [e] at hn
      cases hn
      have tm := List.mem_of_getElem? e
      have lt := (List.getElem?_eq_some_iff.mp e).1
      refine ⟨hw _, _, hi _, t.1, _, _, _, rfl, rfl, SqT.of (s1 _ _ (hl.2 t tm)), atI_nat (hj t.2), _, hD, ?_, fun b o eb => ?_, ?_⟩
      · rw [List.length_map, List.length_take, List.length_map]
        omega
      · rw [upd_ne (ne_of_none eb nD)]
        exact s1 _ _ eb
      · have et : (ts.map fun t => g t.2).take (n + 1) = (ts.map fun t => g t.2).take n ++ [g t.2] := by
          rw [List.take_add_one, List.getElem?_map, e]
          rfl
        rw [upd_same, et, List.map_append]
        rfl
  · rintro H' ⟨s1, hD⟩
    refine fin H' s1 ?_
    rw [List.take_of_length_le (by rw [List.length_map, List.length_map]; exact Nat.le_refl _)] at hD
    exact hD
theorem ok_endsOf {f : Addr} {fd : FuncData} (F : FnP K "ends_of" sEndsOf f fd) (T : Tx K mg) : FnOk P w K mg base CX0 1 f fd ["streets"] spEndsOf := by
  refine F.ok scEndsOf (fun vs H Q E h => ?_) (fun cdv A outer s H vs Q E hr h => ?_)
  · obtain ⟨_, _, rfl, _⟩ := h
    rfl
  · obtain ⟨l, ts, rfl, hl, h60, q⟩ := h
    refine ⟨_, PSs.nox (pss_one (ps_ret (pe_op op_cat
      (pe_lc (own := [("street", 1)]) (g := gName 1) (tt := tYes) (te := tOp (rIxT K) (tVar 1) (tC (.int ((1 : Nat) : Int)))) rfl scEndsOf.nd (pi_list (pv 0)) (blkOk_by (own := [("street", 1)]) (N := ["streets", "street"]) (sc := defScope sEndsOf) (by decide +kernel))
        (fun _ _ _ _ _ => pg_name (i := 1) scEndsOf.nd rfl (Or.inl rfl)) (fun _ _ _ _ _ => pts_nil) (fun _ _ _ _ _ => pe_ix ix_tup (pv 1) pe_int (fun _ _ => rfl)))
      (pe_lc (own := [("street", 1)]) (g := gName 1) (tt := tYes) (te := tOp (rIxT K) (tVar 1) (tC (.int ((2 : Nat) : Int)))) rfl scEndsOf.nd (pi_list (pv 0)) (blkOk_by (own := [("street", 1)]) (N := ["streets", "street"]) (sc := defScope sEndsOf) (by decide +kernel))
        (fun _ _ _ _ _ => pg_name (i := 1) scEndsOf.nd rfl (Or.inl rfl)) (fun _ _ _ _ _ => pts_nil) (fun _ _ _ _ _ => pe_ix ix_tup (pv 1) pe_int (fun _ _ => rfl)))))), ?_⟩
    have sl := sizeLine_eq
    refine ⟨_, rfl, l, rfl, ⟨_, SqL.of hl.1⟩, fun D nD => ?_⟩
    refine lc_part (K := K) (g := S5.st) (j := 1) (i := 1) (fun s => rfl) nD hl h60 (fun v => rfl) (fun v => rfl) fun H1 s1 hD => ?_
    have hl1 := hl.keep s1
    refine ⟨_, rfl, l, rfl, ⟨_, SqL.of hl1.1⟩, fun D2 nD2 => ?_⟩
    refine lc_part (K := K) (g := S5.en) (j := 2) (i := 1) (fun s => rfl) nD2 hl1 h60 (fun v => rfl) (fun v => rfl) fun H2 s2 hD2 => ?_
    refine ⟨D, D2, _, _, rfl, rfl, s2 _ _ hD, hD2, by simp only [List.length_map]; omega, fun p np => ?_⟩
    refine q p _ (same_trans (same_trans s1 s2) (same_upd np)) (s1.free (s2.free np)) ?_
    show upd H2 p _ p = _
    rw [upd_same, ← List.map_append]
    unfold ends
    show some (HO.lst (((ts.map fun t => t.2.st) ++ ts.map fun t => t.2.en).map V.str)) = some (.lst ((((ts.map fun t => t.2).map S5.st) ++ ((ts.map fun t => t.2).map S5.en)).map V.str))
    rw [List.map_map, List.map_map]
    rfl
structure Mc (P : Program) (w : World) (K : PySem.W.Frag) (mg : Str → Option Value) (base : Heap) (CQ : Addr) : Prop where
  qs : Mz P w K mg base CQ "streets" 1 (spFld CQ "_streets")
  qg : Mz P w K mg base CQ "gates" 1 (spFld CQ "_gates")
  cq : Fz P w K mg base "check_quarter" 1 ["value"] (spIns CQ)
  eo : Fz P w K mg base "ends_of" 1 ["streets"] spEndsOf
theorem ends_len (ss : List S5) : (ends ss).length = 2 * ss.length := by
  unfold ends
  rw [List.length_append, List.length_map, List.length_map]
  omega
/-! ### crossings_of -/
def spCross (CQ : Addr) : Sp := fun vs H Q _ => ∃ (q dx l g : Addr) (ts : List (Addr × S5)) (gs : List Str), vs = [.ref q] ∧ QuP H CQ q dx l g ts gs ∧ ts.length ≤ 60 ∧ gs.length ≤ 60 ∧
  ∀ (D : Addr) (us : List Str) (H' : Hp), Same H H' → H D = none → Told us (ends (snds ts) ++ gs) → Ws H' D us → Q (.ref D) H'
theorem scCross : FnScope ["quarter"] ["quarter"] (defScope sCrossings) := ⟨rfl, rfl, rfl, by decide +kernel, rfl, by decide +kernel, by decide +kernel⟩
theorem ok_cross {CQ : Addr} {f : Addr} {fd : FuncData} (F : FnP K "crossings_of" sCrossings f fd) (M : Mc P w K mg base CQ) (T : Tx K mg) : FnOk P w K mg base CX0 2 f fd ["quarter"] (spCross CQ) := by
  refine F.ok scCross (fun vs H Q E h => ?_) (fun cdv A outer s H vs Q E hr h => ?_)
  · obtain ⟨_, _, _, _, _, _, rfl, _⟩ := h
    rfl
  · obtain ⟨q, dx, l, g, ts, gs, rfl, hq, h60, g60, z⟩ := h
    have gSo := T.fr "sorted" (by decide +kernel)
    have gSe := T.fr "set" (by decide +kernel)
    have sl := sizeLine_eq
    refine ⟨_, PSs.nox (pss_cons (ps_expr (pe_fz M.cq hr (by rfl) (pa_cons (pv 0) pa_nil))) (pss_one (ps_ret (pe_callB (cr_sortedX rfl) (by rfl) gSo (by decide +kernel) (pa_cons
      (pe_callTy (cr_setX rfl) (by rfl) gSe (by decide +kernel) (pa_cons (pe_op op_cat (pe_fz M.eo hr (by rfl) (pa_cons (pe_mz M.qs (pv 0) hr) pa_nil)) (pe_mz M.qg (pv 0) hr)) pa_nil)) pa_nil))))), ?_⟩
    refine ⟨_, rfl, q, dx, _, rfl, hq.at_, ?_⟩
    refine ⟨_, rfl, q, dx, _, rfl, hq.at_, rfl, q, dx, l, _, _, rfl, hq.at_, rfl, hq.s.1, fun D1 n1 => ?_⟩
    have s1 := same_upd (o := .lst (ts.map fun t => V.ref t.1)) n1
    have hD1 : Sts (upd H D1 (.lst (ts.map fun t => V.ref t.1))) D1 ts := ⟨upd_same, fun t ht => s1 _ _ (hq.s.2 t ht)⟩
    generalize upd H D1 (.lst (ts.map fun t => V.ref t.1)) = H1 at s1 hD1 ⊢
    refine ⟨D1, ts, rfl, hD1, h60, fun D2 H2 s2 n2 hD2 => ?_⟩
    have hq2 := hq.keep (same_trans s1 s2)
    refine ⟨_, rfl, q, dx, _, rfl, hq2.at_, rfl, q, dx, g, _, _, rfl, hq2.at_, rfl, hq2.g, fun D3 n3 => ?_⟩
    have s3 := same_upd (o := .lst (gs.map V.str)) n3
    have e1 := ends_len (snds ts)
    rw [List.length_map] at e1
    refine ⟨D2, D3, _, _, rfl, rfl, s3 _ _ hD2, upd_same, by rw [List.length_map, List.length_map]; omega, fun D4 n4 => ?_⟩
    rw [← List.map_append]
    have s4 := same_upd (o := .lst ((ends (snds ts) ++ gs).map V.str)) n4
    have s04 := same_trans (same_trans s1 s2) (same_trans s3 s4)
    refine ⟨D4, _, rfl, SqL.of upd_same, ?_, fun D5 n5 => ?_⟩
    · rw [List.length_append]
      unfold scanBound
      omega
    have s5 := same_upd (o := SetX w D5 ((ends (snds ts) ++ gs).foldl TxSet.addL [])) n5
    have fl := fold_len (ks := ends (snds ts) ++ gs) (L := [])
    rw [List.length_append, List.length_nil] at fl
    refine ⟨D5, _, rfl, upd_same, by omega, fun us D6 pm as n6 => ?_⟩
    have s6 := same_upd (o := .lst (us.map V.str)) n6
    exact z D6 us _ (same_trans s04 (same_trans s5 s6)) (s04.free (s5.free n6)) (told_set pm as) upd_same

/-! ### street_of -/
def spStreetOf (CQ : Addr) : Sp := fun vs H Q _ => ∃ (q dx l g : Addr) (ts : List (Addr × S5)) (gs : List Str) (t : Addr × S5), vs = [.ref q, .str t.2.nm] ∧ QuP H CQ q dx l g ts gs ∧ t ∈ ts ∧ (ts.map fun t => t.2.nm).Nodup ∧
  ∀ H', Same H H' → Q (.ref t.1) H'
theorem scStreetOf : FnScope ["quarter", "name", "street"] ["quarter", "name"] (defScope sStreetOf) := ⟨rfl, rfl, rfl, by decide +kernel, rfl, by decide +kernel, by decide +kernel⟩
theorem ok_streetOf {CQ : Addr} {f : Addr} {fd : FuncData} (F : FnP K "street_of" sStreetOf f fd) (M : Mc P w K mg base CQ) (T : Tx K mg) : FnOk P w K mg base CX0 2 f fd ["quarter", "name"] (spStreetOf CQ) := by
  refine F.ok scStreetOf (fun vs H Q E h => ?_) (fun cdv A outer s H vs Q E hr h => ?_)
  · obtain ⟨_, _, _, _, _, _, _, rfl, _⟩ := h
    rfl
  · obtain ⟨q, dx, l, g, ts, gs, t, rfl, hq, ht, nd, z⟩ := h
    refine ⟨_, PSs.nox (pss_cons (ps_expr (pe_fz M.cq hr (by rfl) (pa_cons (pv 0) pa_nil))) (pss_cons (ps_for PassesOwn.never rfl (pi_list (pe_mz M.qs (pv 0) hr)) (pg_name (i := 2) scStreetOf.nd rfl (Or.inl rfl))
      (pss_one (ps_if (pt_cmpR op_eq (pe_ix ix_tup (pv 2) pe_int (fun _ _ => rfl)) (pv 1) (nomark _)) (pss_one (ps_ret (pv 2))) pss_nil))) (pss_one ps_never))), ?_⟩
    refine ⟨_, rfl, q, dx, _, rfl, hq.at_, ?_⟩
    refine ⟨_, rfl, q, dx, _, rfl, hq.at_, rfl, q, dx, l, _, _, rfl, hq.at_, rfl, hq.s.1, fun D1 n1 => ?_⟩
    have s1 := same_upd (o := .lst (ts.map fun t => V.ref t.1)) n1
    have hD1 : Sts (upd H D1 (.lst (ts.map fun t => V.ref t.1))) D1 ts := ⟨upd_same, fun t ht => s1 _ _ (hq.s.2 t ht)⟩
    generalize upd H D1 (.lst (ts.map fun t => V.ref t.1)) = H1 at s1 hD1 ⊢
    obtain ⟨k, hk⟩ := List.mem_iff_getElem?.mp ht
    have kl := (List.getElem?_eq_some_iff.mp hk).1
    refine ⟨D1, rfl, ⟨_, SqL.of hD1.1⟩, ?_⟩
    refine for_list (K := K) (a := D1) (xs := ts.map fun t => V.ref t.1) (fun i σ H' => (∃ o, σ = [some (.ref q), some (.str t.2.nm), o]) ∧ H' = H1 ∧ i ≤ k) ⟨⟨_, rfl⟩, rfl, Nat.zero_le _⟩ (fun i σ H' _ h => by rw [h.2.1]; exact SqL.of hD1.1) ?_ ?_
    · rintro i x σ H' hi ⟨⟨o, rfl⟩, rfl, ik⟩
      rw [List.getElem?_map] at hi
      cases e : ts[i]? with
      | none =>
        rw [e] at hi
        cases hi
      | some u =>
        rw [e] at hi
        cases hi
        have um := List.mem_of_getElem? e
        refine ⟨_, rfl, u.1, _, ((0 : Nat) : Int), _, rfl, rfl, SqT.of (hD1.2 u um), atI_nat rfl, _, rfl, rfl, _, rfl, ite2 (fun c => ?_) (fun c => ?_)⟩
        · have en : u.2.nm = t.2.nm := by
            have := of_decide_eq_true c
            exact V.str.inj this
          have eu : u = t := nodup_inj nd u um t ht en
          rw [eu]
          exact ⟨_, rfl, z _ s1⟩
        · refine ⟨⟨_, rfl⟩, rfl, ?_⟩
          have : i ≠ k := fun z => by
            rw [z, hk] at e
            cases e
            exact c (decide_eq_true rfl)
          omega
    · rintro σ H' ⟨_, _, ik⟩
      rw [List.length_map] at ik
      omega
end
end K4
end
section
set_option Elab.async false
set_option linter.all false
set_option maxRecDepth 100000
set_option maxHeartbeats 4000000
namespace K4
open PySem PySem.Spec PyProof.Rows L2 H3 H4
/-- the classes of errors that the law tells apart -/
structure Xs (K : PySem.W.Frag) (mg : Str → Option Value) (CI CL CC CG CS : Addr) : Prop where
  mG : mg "GateError" = some (.ref CG)
  mS : mg "InvalidStreets" = some (.ref CS)
  e1 : PySem.W.exmOne K (.ref CI) (.ref CI) = some true
  e2 : PySem.W.exmOne K (.ref CL) (.ref CI) = some false
  e3 : PySem.W.exmOne K (.ref CL) (.ref CL) = some true
  e4 : PySem.W.exmOne K (.ref CC) (.ref CI) = some false
  e5 : PySem.W.exmOne K (.ref CC) (.ref CL) = some false
  e6 : PySem.W.exmOne K (.ref CC) (.ref CC) = some true
  k1 : PySem.W.kitAny K (.ref CI) [.ref CC, .ref CL] = some false
  k2 : PySem.W.kitAny K (.ref CL) [.ref CC, .ref CI] = some false
  k3 : PySem.W.kitAny K (.ref CC) [.ref CL, .ref CS] = some false
  g1 : PySem.W.kitOne K (.ref CI) (.ref CG) = some true
  g2 : PySem.W.kitOne K (.ref CL) (.ref CG) = some true
  g3 : PySem.W.kitOne K (.ref CC) (.ref CG) = some true
section
variable {P : Program} {w : World} {K : PySem.W.Frag} {mg : Str → Option Value} {base : Heap}
theorem Xz.t {x : Str} {C : Addr} (Z : Xz P w K mg base x C) : ∃ fI, XcT K mg x C fI := by
  obtain ⟨fI, _, T, _⟩ := Z.ex
  exact ⟨fI, T⟩
/-- an error's report -/
def Rep (H : Hp) (t : Addr) (z : Str) (v : V) : Prop := H t = some (.tup [.str z, v, .bl false, .bl true])
/-- what a made quarter's report holds -/
structure MdR (H : Hp) (t : Addr) (ss : List S5) (gs : List Str) : Prop where
  ex : ∃ L S G C ts us cs, H t = some (.tup [.str "made", .ref L]) ∧ H L = some (.lst [.ref S, .ref G, .ref C]) ∧ Sts H S ts ∧ (snds ts).Perm ss ∧ Asc5 (snds ts) ∧ Ws H G us ∧ us.Perm gs ∧ Asc us ∧ Ws H C cs ∧ Told cs (ends ss ++ gs)
/-- what a suite returns -/
theorem su {Rt : V → Hp → Prop} {z : Str} {v : V} {C c1 c2 CG a d : Addr} {σ : L2.St} {H1 : Hp} (hσ : σ[4]? = some (some (.ref a))) (hx : H1 d = some (xd1 v)) (ex : ExcC K C) (k1 : PySem.W.kitAny K (.ref C) [.ref c1, .ref c2] = some false) (k2 : PySem.W.kitOne K (.ref C) (.ref CG) = some true)
    (fin : ∀ p H', Same H1 H' → H1 p = none → Rep H' p z v → Rt (.ref p) H') :
    tCons (tCB (rIsPT K a (.ref C) (some d)) (tCons (tVar 4) (tCons (tTup (tCons (tC (.ref c1)) (tCons (tC (.ref c2)) tNil))) tNil))) (tCons (tCB (rIsP K a (.ref C) (some d)) (tCons (tVar 4) (tCons (tC (.ref CG)) tNil))) tNil) σ H1
      fun xs H2 => (V.str z :: v :: xs).length ≤ sizeLine ∧ ∀ p, H2 p = none → Rt (.ref p) (upd H2 p (.tup (V.str z :: v :: xs))) := by
  have sl := sizeLine_eq
  refine ⟨_, hσ, (by show 2 ≤ sizeLine; omega), fun tp ntp => ?_⟩
  have s1 := same_upd (o := .tup [V.ref c1, V.ref c2]) ntp
  have ht : upd H1 tp (.tup [V.ref c1, V.ref c2]) tp = some (.tup [V.ref c1, V.ref c2]) := upd_same
  generalize upd H1 tp (.tup [V.ref c1, V.ref c2]) = H2 at s1 ht ⊢
  refine ⟨tp, _, [.ref c1, .ref c2], false, C, d, _, rfl, ht, .cons (.own _) (.cons (.own _) .nil), rfl, rfl, s1 _ _ hx, ex, k1, ?_⟩
  refine ⟨_, hσ, _, .ref CG, true, C, d, _, rfl, .own _, rfl, rfl, s1 _ _ hx, ex, k2, (by show 4 ≤ sizeLine; omega), fun p np => ?_⟩
  exact fin p _ (same_trans s1 (same_upd np)) (s1.free np) upd_same
/-- what is returned of a made quarter -/
theorem md {CQ q : Addr} {ss : List S5} {gs : List Str} {σ : L2.St} {H1 : Hp} {D : Ends} (hσ : σ[3]? = some (some (.ref q))) (hq : IsQ H1 CQ q ss gs) (fin : ∀ t H', Same H1 H' → H1 t = none → MdR H' t ss gs → D.rt (.ref t) H') :
    tRet (tTup (tCons (tC (V.str "made")) (tCons (tLst (tCons (tMeth CQ "streets" (spFld CQ "_streets") [] E0 (tVar 3) tNil) (tCons (tMeth CQ "gates" (spFld CQ "_gates") [] E0 (tVar 3) tNil) (tCons (tCall (spCross CQ) [] E0 (tCons (tVar 3) tNil)) tNil)))) tNil))) D σ H1 := by
  have sl := sizeLine_eq
  obtain ⟨⟨dx, ml, mg', mts, mgs, hqp, pt, as, pg, ag⟩, so, go⟩ := hq
  refine ⟨_, hσ, q, dx, _, rfl, hqp.at_, rfl, q, dx, ml, _, _, rfl, hqp.at_, rfl, hqp.s.1, fun D1 n1 => ?_⟩
  have s1 := same_upd (o := .lst (mts.map fun t => V.ref t.1)) n1
  have hD1 : Sts (upd H1 D1 (.lst (mts.map fun t => V.ref t.1))) D1 mts := ⟨upd_same, fun t ht => s1 _ _ (hqp.s.2 t ht)⟩
  generalize upd H1 D1 (.lst (mts.map fun t => V.ref t.1)) = H2 at s1 hD1 ⊢
  have hq1 := hqp.keep s1
  refine ⟨_, hσ, q, dx, _, rfl, hq1.at_, rfl, q, dx, mg', _, _, rfl, hq1.at_, rfl, hq1.g, fun D2 n2 => ?_⟩
  have s2 := same_upd (o := .lst (mgs.map V.str)) n2
  have hD2 : Ws (upd H2 D2 (.lst (mgs.map V.str))) D2 mgs := upd_same
  generalize upd H2 D2 (.lst (mgs.map V.str)) = H3 at s2 hD2 ⊢
  have hq2 := hq1.keep s2
  have l1 : mts.length ≤ 60 := by
    have := pt.length_eq
    rw [snds_len] at this
    have := so.l
    omega
  have l2 : mgs.length ≤ 60 := by
    have := pg.length_eq
    have := go.l
    omega
  refine ⟨_, hσ, q, dx, ml, mg', mts, mgs, rfl, hq2, l1, l2, fun D3 us H4 s3 n3 told hD3 => ?_⟩
  refine ⟨(by show 3 ≤ sizeLine; omega), fun L nL => ?_⟩
  have s4 := same_upd (o := .lst [V.ref D1, V.ref D2, V.ref D3]) nL
  have hL : upd H4 L (.lst [V.ref D1, V.ref D2, V.ref D3]) L = some (.lst [V.ref D1, V.ref D2, V.ref D3]) := upd_same
  generalize upd H4 L (.lst [V.ref D1, V.ref D2, V.ref D3]) = H5 at s4 hL ⊢
  refine ⟨(by show 2 ≤ sizeLine; omega), fun t nt => ?_⟩
  have s5 := same_upd (o := .tup [V.str "made", V.ref L]) nt
  have s15 := same_trans s1 (same_trans s2 (same_trans s3 (same_trans s4 s5)))
  refine fin t _ s15 ((same_trans s1 (same_trans s2 (same_trans s3 s4))).free nt) ⟨L, D1, D2, D3, mts, mgs, us, upd_same, s5 _ _ hL, hD1.keep (same_trans s2 (same_trans s3 (same_trans s4 s5))), pt, as, same_trans s3 (same_trans s4 s5) _ _ hD2, pg, ag, same_trans s4 s5 _ _ hD3, told.asc, told.nd, fun x => ?_⟩
  rw [told.mem, List.mem_append, List.mem_append, pg.mem_iff]
  have : x ∈ ends (snds mts) ↔ x ∈ ends ss := by
    unfold ends
    rw [List.mem_append, List.mem_append, (pt.map S5.st).mem_iff, (pt.map S5.en).mem_iff]
  rw [this]
def spTold (CQ : Addr) : Sp := fun vs H Q _ => ∃ (one : Bool) (v vc : V), vs = [.str (if one then "one" else "all"), v, vc] ∧
  ((∃ T, KindV H v (.type T) ∧ ∀ t H', Same H H' → H t = none → Rep H' t "quarter" v → Q (.ref t) H') ∨ ∃ q ss gs, v = .ref q ∧ IsQ H CQ q ss gs ∧
    (if one = true then
      (ss.length ≤ 59 ∧ ((∃ o, OdV H vc o ∧ isChangeO o = false ∧ ∀ t H', Same H H' → H t = none → Rep H' t "change" vc → Q (.ref t) H') ∨ ∃ c k, vc = .ref c ∧ k.At H c ∧ k.Ok ∧
        (stepS ss k = none → ∀ t H', Same H H' → H t = none → Rep H' t "change" vc → Q (.ref t) H') ∧ ∀ ss' t H', stepS ss k = some ss' → Same H H' → H t = none → MdR H' t ss' gs → Q (.ref t) H'))
     else
      (((∃ o, OdV H vc o ∧ o.short ∧ areChO o = false) ∨ ∃ a dx fs, vc = .ref a ∧ H a = some (.ins CQ dx fs)) ∧ (∀ t H', Same H H' → H t = none → Rep H' t "changes" vc → Q (.ref t) H') ∨
       ∃ l ks, vc = .ref l ∧ ChL H l ks ∧ (∀ t ∈ ks, t.2.Ok) ∧ ss.length + ks.length ≤ 60 ∧ (∀ a, runS ss ks = .inl a → ∀ t H', Same H H' → H t = none → Rep H' t "change" (.ref a) → Q (.ref t) H') ∧
         ∀ ss' t H', runS ss ks = .inr ss' → Same H H' → H t = none → MdR H' t ss' gs → Q (.ref t) H')))
abbrev NTo : List Str := ["_law_way", "_law_quarter_here", "_law_value", "_law_made", "e"]
theorem scTold : FnScope NTo ["_law_way", "_law_quarter_here", "_law_value"] (defScope sTold) := ⟨rfl, rfl, rfl, by decide +kernel, rfl, by decide +kernel, by decide +kernel⟩
theorem ok_told {CQ CI CL CC CG CS : Addr} {f : Addr} {fd : FuncData} (F : FnP K "_law_told" sTold f fd) (GC : FzX P w K mg base "changed" 9 ["quarter", "change"] (spChanged CQ CI CC)) (GB : FzX P w K mg base "changed_by" 10 ["quarter", "changes"] (spChangedBy CQ CI CC CL))
    (GX : Fz P w K mg base "crossings_of" 2 ["quarter"] (spCross CQ)) (M : Mc P w K mg base CQ) (ZI : Xz P w K mg base "InvalidQuarter" CI) (ZL : Xz P w K mg base "InvalidChanges" CL) (ZC : Xz P w K mg base "InvalidChange" CC) (X : Xs K mg CI CL CC CG CS) (T : Tx K mg) :
    FnOk P w K mg base CX0 11 f fd ["_law_way", "_law_quarter_here", "_law_value"] (spTold CQ) := by
  refine F.ok scTold (fun vs H Q E h => ?_) (fun cdv A outer s H vs Q E hr h => ?_)
  · obtain ⟨_, _, _, rfl, _⟩ := h
    rfl
  · obtain ⟨one, v, vc, rfl, h⟩ := h
    have gIs := T.fr "isinstance" (by decide +kernel)
    obtain ⟨fI, tI⟩ := ZI.t
    obtain ⟨fL, tL⟩ := ZL.t
    obtain ⟨fC, tC'⟩ := ZC.t
    have r1 : Room 1 (A.deeper (envOfC "_law_told" (defScope sTold) s.heap.objs.size f cdv)) := hr.mono (by decide)
    have r2 : Room 2 (A.deeper (envOfC "_law_told" (defScope sTold) s.heap.objs.size f cdv)) := hr.mono (by decide)
    have r9 : Room 9 (A.deeper (envOfC "_law_told" (defScope sTold) s.heap.objs.size f cdv)) := hr.mono (by decide)
    refine ⟨_, pss_cons (ps_try_all (Wout := fun _ _ _ _ => False) (l := [⟨.ref CI, 4, fun a cls d => _⟩, ⟨.ref CL, 4, fun a cls d => _⟩, ⟨.ref CC, 4, fun a cls d => _⟩]) rfl rfl scTold.nd takes0
        (fun W pn xe tk _ => pss_one (ps_set (i := 3) scTold.nd rfl (Or.inl rfl) (pe_ifExp (pt_cmpR op_eq (pv 0) pe_str (nomark _)) (pe_fzX GC r9 (by rfl) tk (pa_cons (pv 1) (pa_cons (pv 2) pa_nil))) (pe_fzX GB hr (by rfl) tk (pa_cons (pv 1) (pa_cons (pv 2) pa_nil))))))
        (.cons ⟨rfl, by decide, .inl tI.gC⟩ rfl rfl (fun a oe cls d pn hz hf => pss_one (ps_ret (pe_tup (pa_cons pe_str (pa_cons (pe_xf tI.xf tI.xv.noV hz hf (pv 4)) (pa_cons (pe_callB (call_isPT hz hf) (by rfl) gIs (by decide +kernel) (pa_cons (pv 4) (pa_cons (pe_tup (pa_cons (C8.pe_gc (v := .ref CC) (by rfl) ⟨_, tC'.gC, rfl⟩) (pa_cons (C8.pe_gc (v := .ref CL) (by rfl) ⟨_, tL.gC, rfl⟩) pa_nil))) pa_nil))) (pa_cons (pe_callB (call_isP hz hf) (by rfl) gIs (by decide +kernel) (pa_cons (pv 4) (pa_cons (C8.pe_gc (v := .ref CG) (by rfl) ⟨_, X.mG, rfl⟩) pa_nil))) pa_nil)))))))
        (.cons ⟨rfl, by decide, .inl tL.gC⟩ rfl rfl (fun a oe cls d pn hz hf => pss_one (ps_ret (pe_tup (pa_cons pe_str (pa_cons (pe_xf tL.xf tL.xv.noV hz hf (pv 4)) (pa_cons (pe_callB (call_isPT hz hf) (by rfl) gIs (by decide +kernel) (pa_cons (pv 4) (pa_cons (pe_tup (pa_cons (C8.pe_gc (v := .ref CC) (by rfl) ⟨_, tC'.gC, rfl⟩) (pa_cons (C8.pe_gc (v := .ref CI) (by rfl) ⟨_, tI.gC, rfl⟩) pa_nil))) pa_nil))) (pa_cons (pe_callB (call_isP hz hf) (by rfl) gIs (by decide +kernel) (pa_cons (pv 4) (pa_cons (C8.pe_gc (v := .ref CG) (by rfl) ⟨_, X.mG, rfl⟩) pa_nil))) pa_nil)))))))
        (.cons ⟨rfl, by decide, .inl tC'.gC⟩ rfl rfl (fun a oe cls d pn hz hf => pss_one (ps_ret (pe_tup (pa_cons pe_str (pa_cons (pe_xf tC'.xf tC'.xv.noV hz hf (pv 4)) (pa_cons (pe_callB (call_isPT hz hf) (by rfl) gIs (by decide +kernel) (pa_cons (pv 4) (pa_cons (pe_tup (pa_cons (C8.pe_gc (v := .ref CL) (by rfl) ⟨_, tL.gC, rfl⟩) (pa_cons (C8.pe_gc (v := .ref CS) (by rfl) ⟨_, X.mS, rfl⟩) pa_nil))) pa_nil))) (pa_cons (pe_callB (call_isP hz hf) (by rfl) gIs (by decide +kernel) (pa_cons (pv 4) (pa_cons (C8.pe_gc (v := .ref CG) (by rfl) ⟨_, X.mG, rfl⟩) pa_nil))) pa_nil)))))))
        .nil))))
      (pss_one (ps_ret (pe_tup (pa_cons pe_str (pa_cons (pe_lst (pa_cons (pe_mz M.qs (pv 3) r1) (pa_cons (pe_mz M.qg (pv 3) r1) (pa_cons (pe_fz GX r2 (by rfl) (pa_cons (pv 3) pa_nil)) pa_nil)))) pa_nil))))), ?_⟩
    cases one with
    | true =>
      refine ⟨_, rfl, rfl, _, rfl, ifT (by decide +kernel) ⟨_, rfl, _, rfl, v, vc, rfl, ?_⟩⟩
      rcases h with ⟨U, k, z⟩ | ⟨q, ss, gs, rfl, hq, h⟩
      · refine .inl ⟨U, k, fun d nd => ⟨true, X.e1, fun _ a na => ⟨_, rfl, rfl, rfl, d, _, v, rfl, upd_same, rfl, ?_⟩, fun e => nomatch e⟩⟩
        have sd := same_upd (o := xd1 v) nd
        exact su rfl upd_same tI.ex X.k1 X.g1 fun p H' s' np r => z p H' (same_trans sd s') (sd.free np) r
      · obtain ⟨l59, h⟩ := (if_pos rfl ▸ h : _ ∧ _)
        refine .inr ⟨q, ss, gs, rfl, hq, l59, ?_⟩
        rcases h with ⟨o, ho, e, z⟩ | ⟨c, k, rfl, hc, ok, z0, z⟩
        · refine .inl ⟨o, ho, e, fun H1 s1 d nd => ⟨false, X.e4, (fun e => nomatch e), fun _ => ⟨false, X.e5, (fun e => nomatch e), fun _ => ⟨true, X.e6, fun _ a na => ⟨_, rfl, rfl, rfl, d, _, vc, rfl, upd_same, rfl, ?_⟩, fun e => nomatch e⟩⟩⟩⟩
          have sd := same_upd (o := xd1 vc) nd
          exact su rfl upd_same tC'.ex X.k3 X.g3 fun p H' s' np r => z p H' (same_trans s1 (same_trans sd s')) ((same_trans s1 sd).free np) r
        · refine .inr ⟨c, k, rfl, hc, ok, fun hn H1 s1 d nd => ⟨false, X.e4, (fun e => nomatch e), fun _ => ⟨false, X.e5, (fun e => nomatch e), fun _ => ⟨true, X.e6, fun _ a na => ⟨_, rfl, rfl, rfl, d, _, _, rfl, upd_same, rfl, ?_⟩, fun e => nomatch e⟩⟩⟩, fun ss' q' H1 hs s1 nq hq' => ?_⟩
          · have sd := same_upd (o := xd1 (.ref c)) nd
            exact su rfl upd_same tC'.ex X.k3 X.g3 fun p H' s' np r => z0 hn p H' (same_trans s1 (same_trans sd s')) ((same_trans s1 sd).free np) r
          · exact md rfl hq' fun t H' s' nt m => z ss' t H' hs (same_trans s1 s') (s1.free nt) m
    | false =>
      refine ⟨_, rfl, rfl, _, rfl, ifF (by decide +kernel) ⟨_, rfl, _, rfl, v, vc, rfl, ?_⟩⟩
      rcases h with ⟨U, k, z⟩ | ⟨q, ss, gs, rfl, hq, h⟩
      · refine .inl ⟨U, k, fun d nd => ⟨true, X.e1, fun _ a na => ⟨_, rfl, rfl, rfl, d, _, v, rfl, upd_same, rfl, ?_⟩, fun e => nomatch e⟩⟩
        have sd := same_upd (o := xd1 v) nd
        exact su rfl upd_same tI.ex X.k1 X.g1 fun p H' s' np r => z p H' (same_trans sd s') (sd.free np) r
      · rw [if_neg nf] at h
        refine .inr ⟨q, ss, gs, rfl, hq, ?_⟩
        rcases h with ⟨hb, z⟩ | ⟨l, ks, rfl, hl, ok, len, ze, z⟩
        · refine .inl ⟨hb, fun H1 s1 d nd => ⟨false, X.e2, (fun e => nomatch e), fun _ => ⟨true, X.e3, fun _ a na => ⟨_, rfl, rfl, rfl, d, _, vc, rfl, upd_same, rfl, ?_⟩, fun e => nomatch e⟩⟩⟩
          have sd := same_upd (o := xd1 vc) nd
          exact su rfl upd_same tL.ex X.k2 X.g2 fun p H' s' np r => z p H' (same_trans s1 (same_trans sd s')) ((same_trans s1 sd).free np) r
        · refine .inr ⟨l, ks, rfl, hl, ok, len, fun b hn H1 s1 d nd => ⟨false, X.e4, (fun e => nomatch e), fun _ => ⟨false, X.e5, (fun e => nomatch e), fun _ => ⟨true, X.e6, fun _ a na => ⟨_, rfl, rfl, rfl, d, _, _, rfl, upd_same, rfl, ?_⟩, fun e => nomatch e⟩⟩⟩, fun ss' q' H1 hs s1 hq' => ?_⟩
          · have sd := same_upd (o := xd1 (.ref b)) nd
            exact su rfl upd_same tC'.ex X.k3 X.g3 fun p H' s' np r => ze b hn p H' (same_trans s1 (same_trans sd s')) ((same_trans s1 sd).free np) r
          · exact md rfl hq' fun t H' s' nt m => z ss' t H' hs (same_trans s1 s') (s1.free nt) m
end
end K4
end
section
set_option Elab.async false
set_option linter.all false
set_option maxRecDepth 100000
set_option maxHeartbeats 4000000
namespace K4
open PySem PySem.Spec PyProof.Rows L2 H3 H4
/-- what becomes of a street -/
def el (k : Ch) (s : S5) : List S5 :=
  match k with
  | .put _ => [s]
  | .out z => if s.nm = z then [] else [s]
  | .ck k => if s.nm = k.nm then [k.alt s] else [s]
def Ch.nm : Ch → Str
  | .put s => s.nm
  | .out z => z
  | .ck k => k.nm
/-- the law's own step -/
def lstep (ss : List S5) : Ch → Option (List S5)
  | .put s => if s.nm ∈ nms ss then none else some (ss ++ [s])
  | k => if k.nm ∈ nms ss then (if ss.flatMap (el k) = ss then none else some (ss.flatMap (el k))) else none
def Ch.word : Ch → Str
  | .put _ => "put"
  | .out _ => "out"
  | .ck (.w _ _) => "width"
  | .ck (.l _ _) => "length"
  | .ck (.t _) => "turn"
section
variable {P : Program} {w : World} {K : PySem.W.Frag} {mg : Str → Option Value} {base : Heap}
/-- the last statement of a turn -/
theorem ap {σ : L2.St} {H' : Hp} {D : Ends} {c F a : Addr} {vals : List V} {us : List (Addr × S5)} {nm wd z : Str} {s' : S5} (h1 : σ[1]? = some (some (.ref c))) (h2 : σ[2]? = some (some (.ref a))) (h3 : σ[3]? = some (some (.str wd))) (h5 : σ[5]? = some (some (.ref F))) (h6 : σ[6]? = some (some (.str nm)))
    (hc : H' c = some (.tup vals)) (e1 : vals[1]? = some (.str z)) (hF : Sts H' F us) (ha : H' a = some (.tup s'.vals)) (l : us.length ≤ 100)
    (fin : ∀ F' H'', Same H' H'' → H' F' = none → Sts H'' F' (us ++ if nm = z ∧ wd = "out" then [] else [(a, s')]) → D.nx (σ.set 5 (some (.ref F'))) H'') :
    tAsg (tOp rCat (tVar 5) (tOp rRep (tLst (tCons (tVar 2) tNil)) (tCB (fun xs H Q => (∃ i, xs = [V.int i] ∧ Q (V.int i) H) ∨ ∃ k, xs = [V.bl k] ∧ Q (V.int (if k = true then 1 else 0)) H)
      (tCons (tOrV (tOp rNe (tVar 6) (tOp (rIxT K) (tVar 1) (tC (V.int 1)))) (tOp rNe (tVar 3) (tC (V.str "out")))) tNil)))) (gName 5) D σ H' := by
  have sl := sizeLine_eq
  have key : ∀ (b : Bool) (L : Addr) (H1 : Hp), Same H' H1 → H1 L = some (.lst [V.ref a]) → (b = true ↔ ¬ (nm = z ∧ wd = "out")) →
      (rRep (.ref L) (V.int (if b = true then 1 else 0)) H1 fun y H2 => rCat (.ref F) y H2 fun v H3 => D.nx (σ.set 5 (some v)) H3) := by
    intro b L H1 s1 hL hb
    refine ⟨L, _, [V.ref a], rfl, rfl, hL, by cases b <;> decide, by cases b <;> decide, by
      cases b
      · show 1 * 0 ≤ sizeLine
        omega
      · show 1 * 1 ≤ sizeLine
        omega, fun p np => ?_⟩
    have s2 := same_upd (o := .lst (List.replicate (if b = true then (1 : Int) else 0).toNat [V.ref a]).flatten) np
    refine ⟨F, p, _, _, rfl, rfl, s2 _ _ (s1 _ _ hF.1), upd_same, ?_, fun q nq => ?_⟩
    · rw [List.length_map]
      cases b
      · show us.length + 0 ≤ _
        omega
      · show us.length + 1 ≤ _
        omega
    have s3 := same_upd (o := .lst ((us.map fun t => V.ref t.1) ++ (List.replicate (if b = true then (1 : Int) else 0).toNat [V.ref a]).flatten)) nq
    have s13 := same_trans s1 (same_trans s2 s3)
    refine fin q _ s13 ((same_trans s1 s2).free nq) ⟨?_, fun t ht => s13 _ _ ?_⟩
    · rw [upd_same, List.map_append]
      cases b
      · have h : nm = z ∧ wd = "out" := Classical.byContradiction fun h => nf (hb.mpr h)
        rw [if_pos h]
        rfl
      · rw [if_neg (hb.mp rfl)]
        rfl
    · rcases List.mem_append.mp ht with h | h
      · exact hF.2 t h
      · by_cases hh : nm = z ∧ wd = "out"
        · rw [if_pos hh] at h
          cases h
        · rw [if_neg hh, List.mem_singleton] at h
          rw [h]
          exact ha
  refine ⟨_, h5, _, h2, (by show 1 ≤ sizeLine; omega), fun L nL => ?_⟩
  have s1 := same_upd (o := .lst [V.ref a]) nL
  have hL : upd H' L (.lst [V.ref a]) L = some (.lst [V.ref a]) := upd_same
  generalize upd H' L (.lst [V.ref a]) = H1 at s1 hL ⊢
  refine ⟨_, h6, _, h1, c, _, ((1 : Nat) : Int), _, rfl, rfl, SqT.of (s1 _ _ hc), atI_nat e1, rfl, _, rfl, ?_⟩
  by_cases hx : nm = z
  · refine ifF (by simp [hx]) ⟨_, h3, rfl, .inr ⟨_, rfl, ?_⟩⟩
    refine key _ L H1 s1 hL ?_
    simp [hx]
  · exact ifT (by simp [hx]) (.inr ⟨_, rfl, key true L H1 s1 hL (by simp [hx])⟩)
theorem Ch.At.w0 {H : Hp} {c : Addr} {k : Ch} (h : k.At H c) : ∃ vals, H c = some (.tup vals) ∧ vals[0]? = some (.str k.word) := by
  cases k with
  | put s =>
    obtain ⟨t, h1, _⟩ := h
    exact ⟨_, h1, rfl⟩
  | out z => exact ⟨_, h, rfl⟩
  | ck k => cases k <;> exact ⟨_, h, rfl⟩
theorem flat_eq {ss : List S5} {k : Ch} : ∀ n, ((ss.take (n + 1)).flatMap (el k)) = ((ss.take n).flatMap (el k)) ++ (match ss[n]? with | some s => el k s | none => []) := by
  intro n
  rw [List.take_add_one, List.flatMap_append]
  cases ss[n]? <;> simp
theorem el_ok {k : Ch} {s : S5} (ok : k.Ok) (o : s.Ok) : ∀ x ∈ el k s, x.Ok := by
  intro x hx
  cases k with
  | put y =>
    rw [List.mem_singleton.mp hx]
    exact o
  | out z =>
    by_cases h : s.nm = z
    · simp [el, h] at hx
    · simp only [el, h, if_false, List.mem_singleton] at hx
      rw [hx]
      exact o
  | ck k =>
    by_cases h : s.nm = k.nm
    · simp only [el, h, if_true, List.mem_singleton] at hx
      rw [hx]
      exact alt_ok ok o
    · simp only [el, h, if_false, List.mem_singleton] at hx
      rw [hx]
      exact o
def spStep : Sp := fun vs H Q _ => ∃ (l c : Addr) (ts : List (Addr × S5)) (k : Ch), vs = [.ref l, .ref c] ∧ Sts H l ts ∧ SOk (snds ts) ∧ k.At H c ∧ k.Ok ∧
  (lstep (snds ts) k = none → ∀ H', Same H H' → Q .non H') ∧ ∀ ss D ts' H', lstep (snds ts) k = some ss → Same H H' → H D = none → Sts H' D ts' → snds ts' = ss → Q (.ref D) H'
abbrev NSp : List Str := ["_law_streets", "_law_change_here", "_law_street", "_law_word_here", "_law_names", "_law_found", "_law_name", "_law_start", "_law_end", "_law_width_here", "_law_length_here"]
theorem scSp : FnScope NSp ["_law_streets", "_law_change_here"] (defScope sStepped) := ⟨rfl, rfl, rfl, by decide +kernel, rfl, by decide +kernel, by decide +kernel⟩
theorem ok_step {f : Addr} {fd : FuncData} (F : FnP K "_law_stepped" sStepped f fd) (T : Tx K mg) : FnOk P w K mg base CX0 1 f fd ["_law_streets", "_law_change_here"] spStep := by
  refine F.ok scSp (fun vs H Q E h => ?_) (fun cdv A outer s H vs Q E hr h => ?_)
  · obtain ⟨_, _, _, _, rfl, _⟩ := h
    rfl
  · obtain ⟨l, c, ts, k, rfl, hl, so, hc, ok, q0, q⟩ := h
    have gI := T.fr "int" (by decide +kernel)
    have sl := sizeLine_eq
    have l60 := so.l
    rw [snds_len] at l60
    have hu : (A.deeper (envOfC "_law_stepped" (defScope sStepped) s.heap.objs.size f cdv)).units + 64 < cLine := by
      have := hr.un
      omega
    refine ⟨_, PSs.nox (pss_cons (ps_par (i := 3) (j := 4) rfl scSp.nd rfl rfl (by decide) rfl rfl (pa_cons (pe_ix ix_tup (pv 1) pe_int (fun _ _ => rfl)) (pa_cons (pe_lc (own := [("_law_street", 2)]) (g := gName 2) (tt := tYes) (te := tOp (rIxT K) (tVar 2) (tC (.int ((0 : Nat) : Int)))) rfl scSp.nd (pi_list (pv 0)) (blkOk_by (own := [("_law_street", 2)]) (N := NSp) (sc := defScope sStepped) (by decide +kernel))
          (fun _ _ _ _ _ => pg_name (i := 2) scSp.nd rfl (Or.inl rfl)) (fun _ _ _ _ _ => pts_nil) (fun _ _ _ _ _ => pe_ix ix_tup (pv 2) pe_int (fun _ _ => rfl))) pa_nil)) (by rfl))
      (pss_cons (ps_if (pt_cmpR op_eq (pv 3) pe_str (nomark _)) (pss_one (ps_ret (pe_ifExp (pt_cmpR op_in_seq (pe_ix ix_tup (pe_ix ix_tup (pv 1) pe_int (fun _ _ => rfl)) pe_int (fun _ _ => rfl)) (pv 4) rfl) pe_non (pe_op op_cat (pv 0) (pe_lst (pa_cons (pe_ix ix_tup (pv 1) pe_int (fun _ _ => rfl)) pa_nil)))))) pss_nil)
      (pss_cons (ps_if (pt_cmpR op_notIn_seq (pe_ix ix_tup (pv 1) pe_int (fun _ _ => rfl)) (pv 4) rfl) (pss_one (ps_ret pe_non)) pss_nil)
      (pss_cons (ps_set (i := 5) scSp.nd rfl (Or.inl rfl) (pe_lst pa_nil))
      (pss_cons (ps_for PassesOwn.never rfl (pi_list (pv 0)) (pg_tup rfl (pgs_cons (pg_name (i := 6) scSp.nd rfl (Or.inl rfl)) (pgs_cons (pg_name (i := 7) scSp.nd rfl (Or.inl rfl)) (pgs_cons (pg_name (i := 8) scSp.nd rfl (Or.inl rfl)) (pgs_cons (pg_name (i := 9) scSp.nd rfl (Or.inl rfl)) (pgs_cons (pg_name (i := 10) scSp.nd rfl (Or.inl rfl)) pgs_nil))))))
        (pss_cons (ps_set (i := 2) scSp.nd rfl (Or.inl rfl) (pe_tup (pa_cons (pv 6) (pa_cons (pv 7) (pa_cons (pv 8) (pa_cons (pv 9) (pa_cons (pv 10) pa_nil)))))))
        (pss_cons (ps_if (PW.pt (pw_and (pt_cmpR op_eq (pv 6) (pe_ix ix_tup (pv 1) pe_int (fun _ _ => rfl)) (nomark _)) (pw_and1 (pt_cmpR op_in_seq (pv 3) (pe_tup (pa_cons pe_str (pa_cons pe_str pa_nil))) rfl))))
          (pss_one (ps_set (i := 2) scSp.nd rfl (Or.inl rfl) (pe_ifExp (pt_cmpR op_eq (pv 3) pe_str (nomark _)) (pe_tup (pa_cons (pv 6) (pa_cons (pv 7) (pa_cons (pv 8) (pa_cons (pe_ix ix_tup (pv 1) pe_int (fun _ _ => rfl)) (pa_cons (pv 10) pa_nil))))))
            (pe_tup (pa_cons (pv 6) (pa_cons (pv 7) (pa_cons (pv 8) (pa_cons (pv 9) (pa_cons (pe_ix ix_tup (pv 1) pe_int (fun _ _ => rfl)) pa_nil))))))))) pss_nil)
        (pss_cons (ps_if (PW.pt (pw_and (pt_cmpR op_eq (pv 6) (pe_ix ix_tup (pv 1) pe_int (fun _ _ => rfl)) (nomark _)) (pw_and1 (pt_cmpR op_eq (pv 3) pe_str (nomark _)))))
          (pss_one (ps_set (i := 2) scSp.nd rfl (Or.inl rfl) (pe_tup (pa_cons (pv 6) (pa_cons (pv 8) (pa_cons (pv 7) (pa_cons (pv 9) (pa_cons (pv 10) pa_nil)))))))) pss_nil)
        (pss_one (ps_set (i := 5) scSp.nd rfl (Or.inl rfl) (pe_op op_cat (pv 5) (pe_op op_rep (pe_lst (pa_cons (pv 2) pa_nil)) (pe_callTy call_int1 (by rfl) gI (by decide +kernel) (pa_cons (pe_or (pe_cmpR op_ne (pv 6) (pe_ix ix_tup (pv 1) pe_int (fun _ _ => rfl)) (nomark _)) (pe_one (pe_cmpR op_ne (pv 3) pe_str (nomark _)))) pa_nil))))))))))
      (pss_one (ps_ret (pe_ifExp (pt_cmpR (op_neD hu) (pv 5) (pv 0) (nomark _)) (pv 5) pe_non)))))))), ?_⟩
    obtain ⟨v0, hc0, e0⟩ := hc.w0
    refine ⟨_, rfl, c, _, ((0 : Nat) : Int), _, rfl, rfl, SqT.of hc0, atI_nat e0, _, rfl, l, rfl, ⟨_, SqL.of hl.1⟩, fun D1 n1 => ?_⟩
    refine lc_val (us := ts) (vf := fun t => V.ref t.1) (p := fun _ => true) (gv := fun t => V.str t.2.nm) n1 hl.1 (by omega) (fun u hu H' s1 N N0 h1 h2 => ?_) (fun H1 s1 hD1 => ?_)
    · exact ⟨rfl, _, rfl, u.1, _, ((0 : Nat) : Int), _, rfl, rfl, SqT.of (s1 _ _ (hl.2 u hu)), atI_nat rfl, h1 rfl _ (Same.refl _)⟩
    have hD1' : H1 D1 = some (.lst ((nms (snds ts)).map V.str)) := by
      rw [hD1, List.filter_eq_self.mpr (fun _ _ => rfl)]
      simp only [nms, snds, List.map_map]
      rfl
    have hc1 := hc.keep s1
    have hl1 := hl.keep s1
    by_cases hput : ∃ x, k = .put x
    · obtain ⟨x, rfl⟩ := hput
      obtain ⟨t, hc', ht⟩ := hc1
      refine ⟨_, _, rfl, _, rfl, rfl, _, rfl, ifT (show decide (V.str "put" = V.str "put") = true by decide +kernel) ?_⟩
      refine ⟨_, rfl, c, _, ((1 : Nat) : Int), _, rfl, rfl, SqT.of hc', atI_nat rfl, t, _, ((0 : Nat) : Int), _, rfl, rfl, SqT.of ht, atI_nat rfl, _, rfl, D1, _, rfl, Or.inl (SqL.of hD1'), rfl, flat_strs _, _, rfl, ?_⟩
      rw [inV_str]
      by_cases hx : x.nm ∈ nms (snds ts)
      · exact ifT (by rw [decide_eq_true hx]; rfl) (q0 (by simp only [lstep, hx, if_true]) _ s1)
      · refine ifF (by rw [decide_eq_false hx]; decide) ⟨_, rfl, _, rfl, c, _, ((1 : Nat) : Int), _, rfl, rfl, SqT.of hc', atI_nat rfl, by show 1 ≤ sizeLine; omega, fun L nL => ?_⟩
        have s2 := same_upd (o := .lst [V.ref t]) nL
        have hL : upd H1 L (.lst [V.ref t]) L = some (.lst [V.ref t]) := upd_same
        generalize upd H1 L (.lst [V.ref t]) = H2 at s2 hL ⊢
        have s02 := same_trans s1 s2
        refine ⟨l, L, _, _, rfl, rfl, s02 _ _ hl.1, hL, by rw [List.length_map]; show ts.length + 1 ≤ _; omega, fun D3 n3 => ?_⟩
        have s3 := same_upd (o := .lst ((ts.map fun t => V.ref t.1) ++ [V.ref t])) n3
        refine q (snds ts ++ [x]) D3 (ts ++ [(t, x)]) _ (by simp only [lstep, hx, if_false]) (same_trans s02 s3) (s02.free n3) ⟨by rw [upd_same, List.map_append]; rfl, fun u hu => ?_⟩ (by simp [snds])
        rcases List.mem_append.mp hu with h | h
        · exact s3 _ _ (s02 _ _ (hl.2 u h))
        · rw [List.mem_singleton.mp h]
          exact s3 _ _ (s2 _ _ ht)
    · have hw : k.word ≠ "put" := by
        cases k with
        | put x => exact absurd ⟨x, rfl⟩ hput
        | out z => exact (by decide +kernel : ("out" : Str) ≠ "put")
        | ck k =>
          cases k with
          | w z i => exact (by decide +kernel : ("width" : Str) ≠ "put")
          | l z i => exact (by decide +kernel : ("length" : Str) ≠ "put")
          | t z => exact (by decide +kernel : ("turn" : Str) ≠ "put")
      have e1 : ∃ vals, H c = some (.tup vals) ∧ vals[1]? = some (.str k.nm) := by
        cases k with
        | put x => exact absurd ⟨x, rfl⟩ hput
        | out z => exact ⟨_, hc, rfl⟩
        | ck k => exact ⟨_, hc, ck1 k⟩
      obtain ⟨v1, hv1, e1⟩ := e1
      have hst : lstep (snds ts) k = if k.nm ∈ nms (snds ts) then (if (snds ts).flatMap (el k) = snds ts then none else some ((snds ts).flatMap (el k))) else none := by
        cases k with
        | put x => exact absurd ⟨x, rfl⟩ hput
        | out z => rfl
        | ck k => rfl
      refine ⟨_, _, rfl, _, rfl, rfl, _, rfl, ifF (by rw [decide_eq_false (fun e => hw (V.str.inj e))]; decide) ?_⟩
      refine ⟨_, rfl, c, _, ((1 : Nat) : Int), _, rfl, rfl, SqT.of (s1 _ _ hv1), atI_nat e1, _, rfl, D1, _, rfl, Or.inl (SqL.of hD1'), rfl, flat_strs _, _, rfl, ?_⟩
      rw [inV_str]
      by_cases hin : k.nm ∈ nms (snds ts)
      case neg => exact ifT (by rw [decide_eq_false hin]; rfl) (q0 (by rw [hst, if_neg hin]) _ s1)
      refine ifF (by rw [decide_eq_true hin]; decide) ⟨(by show 0 ≤ sizeLine; omega), fun F0 nF0 => ?_⟩
      rw [if_pos hin] at hst
      have sF := same_upd (o := .lst []) nF0
      have hF0 : Sts (upd H1 F0 (.lst [])) F0 [] := ⟨upd_same, fun t ht => by simp at ht⟩
      generalize upd H1 F0 (.lst []) = H2 at sF hF0 ⊢
      have s02 := same_trans s1 sF
      refine ⟨_, rfl, l, rfl, ⟨_, SqL.of (s02 _ _ hl.1)⟩, ?_⟩
      refine for_list (xs := ts.map fun t => V.ref t.1) (fun j σ H' => ∃ F us x2 y1 y2 y3 y4 y5, σ = [some (.ref l), some (.ref c), x2, some (.str k.word), some (.ref D1), some (.ref F), y1, y2, y3, y4, y5] ∧ Same H H' ∧ H F = none ∧ Sts H' F us ∧ us.length ≤ j ∧ snds us = ((snds ts).take j).flatMap (el k))
        ⟨F0, [], none, none, none, none, none, none, rfl, s02, s1.free nF0, hF0, Nat.le_refl _, rfl⟩ ?_ ?_ ?_
      · rintro j σ H' _ ⟨F, us, x2, y1, y2, y3, y4, y5, _, s3, _⟩
        exact SqL.of (s3 _ _ hl.1)
      · rintro j x σ H' hj ⟨F, us, x2, y1, y2, y3, y4, y5, rfl, s3, nF, hF, lu, eu⟩
        obtain ⟨t, ht, rfl⟩ := at_map hj
        have tm := List.mem_of_getElem? ht
        have lt := (List.getElem?_eq_some_iff.mp ht).1
        have ht' := s3 _ _ (hl.2 t tm)
        have hes : (snds ts)[j]? = some t.2 := by
          rw [show snds ts = ts.map fun t => t.2 from rfl, List.getElem?_map, ht]
          rfl
        have five : 5 ≤ sizeLine := by omega
        have two : 2 ≤ sizeLine := by omega
        have nx : snds us ++ el k t.2 = ((snds ts).take (j + 1)).flatMap (el k) := by
          rw [flat_eq, hes, eu]
        refine ⟨t.1, _, rfl, SqT.of ht', rfl, _, _, rfl, _, _, rfl, _, _, rfl, _, _, rfl, _, _, rfl, rfl, ?_⟩
        refine ⟨_, rfl, _, rfl, _, rfl, _, rfl, _, rfl, five, fun a na => ?_⟩
        have s4 := same_upd (o := .tup [V.str t.2.nm, V.str t.2.st, V.str t.2.en, V.int t.2.wd, V.int t.2.ln]) na
        have ha : upd H' a (.tup [V.str t.2.nm, V.str t.2.st, V.str t.2.en, V.int t.2.wd, V.int t.2.ln]) a = some (.tup t.2.vals) := upd_same
        generalize upd H' a (.tup [V.str t.2.nm, V.str t.2.st, V.str t.2.en, V.int t.2.wd, V.int t.2.ln]) = H3 at s4 ha ⊢
        have s34 := same_trans s3 s4
        refine ⟨_, rfl, _, rfl, c, _, ((1 : Nat) : Int), _, rfl, rfl, SqT.of (s34 _ _ hv1), atI_nat e1, rfl, _, rfl, ?_⟩
        by_cases hx : t.2.nm = k.nm
        case neg =>
          have hxd : ¬ decide (V.str t.2.nm = V.str k.nm) = true := by simp [hx]
          refine ifF hxd (ifF nf ?_)
          refine ⟨_, rfl, _, rfl, c, _, ((1 : Nat) : Int), _, rfl, rfl, SqT.of (s34 _ _ hv1), atI_nat e1, rfl, _, rfl, ifF hxd (ifF nf ?_)⟩
          refine ap (c := c) (F := F) (a := a) (us := us) (nm := t.2.nm) (wd := k.word) (z := k.nm) (s' := t.2) rfl rfl rfl rfl rfl (s34 _ _ hv1) e1 (hF.keep s4) ha (by omega) fun F' H4 s5 nF' hF' => ?_
          rw [if_neg (fun h => hx h.1)] at hF'
          refine ⟨F', _, _, _, _, _, _, _, rfl, same_trans s34 s5, s34.free nF', hF', by rw [List.length_append]; show us.length + 1 ≤ j + 1; omega, ?_⟩
          rw [← nx, show snds (us ++ [(a, t.2)]) = snds us ++ [t.2] by simp [snds]]
          have : el k t.2 = [t.2] := by
            cases k with
            | put x => rfl
            | out z => simp only [el, show ¬ t.2.nm = z from hx, if_false]
            | ck k => simp only [el, show ¬ t.2.nm = k.nm from hx, if_false]
          rw [this]
        have hxd : decide (V.str t.2.nm = V.str k.nm) = true := by simp [hx]
        refine ifT hxd ⟨_, rfl, two, fun p np => ?_⟩
        have s5 := same_upd (o := .tup [V.str "width", V.str "length"]) np
        have hp : upd H3 p (.tup [V.str "width", V.str "length"]) p = some (.tup [V.str "width", V.str "length"]) := upd_same
        generalize upd H3 p (.tup [V.str "width", V.str "length"]) = H4 at s5 hp ⊢
        have s35 := same_trans s34 s5
        refine ⟨p, _, rfl, Or.inr (SqT.of hp), rfl, rfl, _, rfl, ?_⟩
        cases k with
        | put x => exact absurd ⟨x, rfl⟩ hput
        | out z =>
          refine ifF (show ¬ inV (V.str "out") [V.str "width", V.str "length"] = true by decide +kernel) ?_
          refine ⟨_, rfl, _, rfl, c, _, ((1 : Nat) : Int), _, rfl, rfl, SqT.of (s35 _ _ hv1), atI_nat e1, rfl, _, rfl, ifT hxd ⟨_, rfl, rfl, _, rfl, ifF (show ¬ decide (V.str "out" = V.str "turn") = true by decide +kernel) ?_⟩⟩
          refine ap (c := c) (F := F) (a := a) (us := us) (nm := t.2.nm) (wd := "out") (z := z) (s' := t.2) rfl rfl rfl rfl rfl (s35 _ _ hv1) e1 (hF.keep (same_trans s4 s5)) (s5 _ _ ha) (by omega) fun F' H5 s6 nF' hF' => ?_
          rw [if_pos ⟨hx, rfl⟩, List.append_nil] at hF'
          refine ⟨F', _, _, _, _, _, _, _, rfl, same_trans s35 s6, s35.free nF', hF', by omega, ?_⟩
          rw [← nx, show el (.out z) t.2 = [] by simp only [el, show t.2.nm = z from hx, if_true], List.append_nil]
        | ck k =>
          have hx' : t.2.nm = k.nm := hx
          have nx' : snds us ++ [k.alt t.2] = ((snds ts).take (j + 1)).flatMap (el (.ck k)) := by
            rw [← nx, show el (.ck k) t.2 = [k.alt t.2] by simp only [el, hx', if_true]]
          have fin : ∀ (wd : Str) (b : Addr) (H6 : Hp), wd ≠ "out" → Same H H6 → Same H' H6 → H6 b = some (.tup (k.alt t.2).vals) → ∀ F' H7, Same H6 H7 → H6 F' = none → Sts H7 F' (us ++ if t.2.nm = k.nm ∧ wd = "out" then [] else [(b, k.alt t.2)]) →
              Same H H7 ∧ H F' = none ∧ Sts H7 F' (us ++ [(b, k.alt t.2)]) ∧ (us ++ [(b, k.alt t.2)]).length ≤ j + 1 ∧ snds (us ++ [(b, k.alt t.2)]) = ((snds ts).take (j + 1)).flatMap (el (.ck k)) := by
            intro wd b H6 nw sa sb hb F' H7 s7 nF' hF'
            rw [if_neg (fun h => nw h.2)] at hF'
            refine ⟨same_trans sa s7, sa.free nF', hF', by rw [List.length_append]; show us.length + 1 ≤ j + 1; omega, ?_⟩
            rw [← nx']
            simp [snds]
          cases k with
          | w z i =>
            have hc5 : H4 c = some (.tup [.str "width", .str z, .int i]) := s35 _ _ hc
            refine ifT (show inV (V.str "width") [V.str "width", V.str "length"] = true by decide +kernel) ⟨_, rfl, rfl, _, rfl, ifT (show decide (V.str "width" = V.str "width") = true by decide +kernel) ⟨_, rfl, _, rfl, _, rfl, _, rfl, c, _, ((2 : Nat) : Int), _, rfl, rfl, SqT.of hc5, atI_nat rfl, _, rfl, five, fun b nb => ?_⟩⟩
            have s6 := same_upd (o := .tup [V.str t.2.nm, V.str t.2.st, V.str t.2.en, V.int i, V.int t.2.ln]) nb
            have hb : upd H4 b (.tup [V.str t.2.nm, V.str t.2.st, V.str t.2.en, V.int i, V.int t.2.ln]) b = some (.tup ((CK.w z i).alt t.2).vals) := upd_same
            generalize upd H4 b (.tup [V.str t.2.nm, V.str t.2.st, V.str t.2.en, V.int i, V.int t.2.ln]) = H5 at s6 hb ⊢
            have s36 := same_trans s35 s6
            refine ⟨_, rfl, _, rfl, c, _, ((1 : Nat) : Int), _, rfl, rfl, SqT.of (s36 _ _ hv1), atI_nat e1, rfl, _, rfl, ifT hxd ⟨_, rfl, rfl, _, rfl, ifF (show ¬ decide (V.str "width" = V.str "turn") = true by decide +kernel) ?_⟩⟩
            refine ap (c := c) (F := F) (a := b) (us := us) (nm := t.2.nm) (wd := "width") (z := z) (s' := (CK.w z i).alt t.2) rfl rfl rfl rfl rfl (s36 _ _ hv1) e1 (hF.keep (same_trans s4 (same_trans s5 s6))) hb (by omega) fun F' H6 s7 nF' hF' => ?_
            obtain ⟨f1, f2, f3, f4, f5⟩ := fin "width" b H5 (by decide +kernel) s36 (same_trans s4 (same_trans s5 s6)) hb F' H6 s7 nF' hF'
            exact ⟨F', _, _, _, _, _, _, _, rfl, f1, f2, f3, f4, f5⟩
          | l z i =>
            have hc5 : H4 c = some (.tup [.str "length", .str z, .int i]) := s35 _ _ hc
            refine ifT (show inV (V.str "length") [V.str "width", V.str "length"] = true by decide +kernel) ⟨_, rfl, rfl, _, rfl, ifF (show ¬ decide (V.str "length" = V.str "width") = true by decide +kernel) ⟨_, rfl, _, rfl, _, rfl, _, rfl, _, rfl, c, _, ((2 : Nat) : Int), _, rfl, rfl, SqT.of hc5, atI_nat rfl, five, fun b nb => ?_⟩⟩
            have s6 := same_upd (o := .tup [V.str t.2.nm, V.str t.2.st, V.str t.2.en, V.int t.2.wd, V.int i]) nb
            have hb : upd H4 b (.tup [V.str t.2.nm, V.str t.2.st, V.str t.2.en, V.int t.2.wd, V.int i]) b = some (.tup ((CK.l z i).alt t.2).vals) := upd_same
            generalize upd H4 b (.tup [V.str t.2.nm, V.str t.2.st, V.str t.2.en, V.int t.2.wd, V.int i]) = H5 at s6 hb ⊢
            have s36 := same_trans s35 s6
            refine ⟨_, rfl, _, rfl, c, _, ((1 : Nat) : Int), _, rfl, rfl, SqT.of (s36 _ _ hv1), atI_nat e1, rfl, _, rfl, ifT hxd ⟨_, rfl, rfl, _, rfl, ifF (show ¬ decide (V.str "length" = V.str "turn") = true by decide +kernel) ?_⟩⟩
            refine ap (c := c) (F := F) (a := b) (us := us) (nm := t.2.nm) (wd := "length") (z := z) (s' := (CK.l z i).alt t.2) rfl rfl rfl rfl rfl (s36 _ _ hv1) e1 (hF.keep (same_trans s4 (same_trans s5 s6))) hb (by omega) fun F' H6 s7 nF' hF' => ?_
            obtain ⟨f1, f2, f3, f4, f5⟩ := fin "length" b H5 (by decide +kernel) s36 (same_trans s4 (same_trans s5 s6)) hb F' H6 s7 nF' hF'
            exact ⟨F', _, _, _, _, _, _, _, rfl, f1, f2, f3, f4, f5⟩
          | t z =>
            refine ifF (show ¬ inV (V.str "turn") [V.str "width", V.str "length"] = true by decide +kernel) ?_
            refine ⟨_, rfl, _, rfl, c, _, ((1 : Nat) : Int), _, rfl, rfl, SqT.of (s35 _ _ hv1), atI_nat e1, rfl, _, rfl, ifT hxd ⟨_, rfl, rfl, _, rfl, ifT (show decide (V.str "turn" = V.str "turn") = true by decide +kernel) ⟨_, rfl, _, rfl, _, rfl, _, rfl, _, rfl, five, fun b nb => ?_⟩⟩⟩
            have s6 := same_upd (o := .tup [V.str t.2.nm, V.str t.2.en, V.str t.2.st, V.int t.2.wd, V.int t.2.ln]) nb
            have hb : upd H4 b (.tup [V.str t.2.nm, V.str t.2.en, V.str t.2.st, V.int t.2.wd, V.int t.2.ln]) b = some (.tup ((CK.t z).alt t.2).vals) := upd_same
            generalize upd H4 b (.tup [V.str t.2.nm, V.str t.2.en, V.str t.2.st, V.int t.2.wd, V.int t.2.ln]) = H5 at s6 hb ⊢
            have s36 := same_trans s35 s6
            refine ap (c := c) (F := F) (a := b) (us := us) (nm := t.2.nm) (wd := "turn") (z := z) (s' := (CK.t z).alt t.2) rfl rfl rfl rfl rfl (s36 _ _ hv1) e1 (hF.keep (same_trans s4 (same_trans s5 s6))) hb (by omega) fun F' H6 s7 nF' hF' => ?_
            obtain ⟨f1, f2, f3, f4, f5⟩ := fin "turn" b H5 (by decide +kernel) s36 (same_trans s4 (same_trans s5 s6)) hb F' H6 s7 nF' hF'
            exact ⟨F', _, _, _, _, _, _, _, rfl, f1, f2, f3, f4, f5⟩
      · rintro σ H' ⟨F, us, x2, y1, y2, y3, y4, y5, rfl, s3, nF, hF, lu, eu⟩
        rw [List.length_map, ← snds_len, List.take_length] at eu
        have oks : ∀ x ∈ snds us, x.Ok := fun x hx => by
          rw [eu] at hx
          obtain ⟨y, hy, hx⟩ := List.mem_flatMap.mp hx
          exact el_ok ok (so.ok y hy) x hx
        refine ⟨_, rfl, _, rfl, _, _, dp_of hF, dp_of (hl.keep s3), sts_shaped oks, sts_shaped so.ok, _, rfl, ?_⟩
        rw [eqv_sts]
        by_cases e : snds us = snds ts
        · refine ifF (by rw [decide_eq_true e]; decide) (q0 ?_ _ s3)
          rw [hst, if_pos (eu ▸ e)]
        · refine ifT (by rw [decide_eq_false e]; rfl) ⟨_, rfl, q _ F us H' ?_ s3 nF hF eu⟩
          rw [hst, if_neg (fun h => e (eu.trans h))]
end
end K4
end
section
set_option Elab.async false
set_option linter.all false
set_option maxRecDepth 100000
set_option maxHeartbeats 4000000
namespace K4
open PySem PySem.Spec PyProof.Rows L2 H3 H4
theorem flat_out (z : Str) : ∀ ss : List S5, ss.flatMap (el (.out z)) = ss.filter fun s => decide (s.nm ≠ z)
  | [] => rfl
  | s :: ss => by
    rw [List.flatMap_cons, flat_out z ss, List.filter_cons]
    by_cases h : s.nm = z
    · simp [el, h]
    · simp [el, h]
theorem perm_ck (k : CK) : ∀ ss : List S5, (ss.flatMap (el (.ck k))).Perm (chgS ss k)
  | [] => .refl _
  | s :: ss => by
    have ih := perm_ck k ss
    unfold chgS at ih ⊢
    rw [List.flatMap_cons, List.filter_cons, List.filter_cons]
    by_cases h : s.nm = k.nm
    · simp only [el, h, if_true, ne_eq, not_true_eq_false, decide_false, Bool.false_eq_true, if_false, decide_true, List.map_cons]
      exact (ih.cons _).trans List.perm_middle.symm
    · simp only [el, h, if_false, ne_eq, not_false_eq_true, decide_true, if_true, decide_false, Bool.false_eq_true]
      exact ih.cons _
theorem flat_ck (k : CK) : ∀ ss : List S5, ss.flatMap (el (.ck k)) = ss.map fun s => if s.nm = k.nm then k.alt s else s
  | [] => rfl
  | s :: ss => by
    rw [List.flatMap_cons, flat_ck k ss, List.map_cons]
    by_cases h : s.nm = k.nm
    · simp [el, h]
    · simp [el, h]
/-- the law's own step tells what the program's does -/
theorem lstep_step {ss : List S5} {k : Ch} (so : SOk ss) : (lstep ss k = none ∧ stepS ss k = none) ∨ ∃ r r', lstep ss k = some r ∧ stepS ss k = some r' ∧ r.Perm r' := by
  cases k with
  | put x =>
    by_cases hx : x.nm ∈ nms ss
    · exact .inl ⟨by simp only [lstep, hx, if_true], by simp only [stepS, hx, if_true]⟩
    · exact .inr ⟨_, _, by simp only [lstep, hx, if_false]; rfl, by simp only [stepS, hx, if_false], .refl _⟩
  | out z =>
    by_cases hx : z ∈ nms ss
    · refine .inr ⟨ss.flatMap (el (.out z)), ss.filter fun s => decide (s.nm ≠ z), ?_, by simp only [stepS, hx, if_true], by rw [flat_out]⟩
      have ne : ss.flatMap (el (.out z)) ≠ ss := fun e => by
        have h := filt_lt hx
        rw [← flat_out, e] at h
        exact Nat.lt_irrefl _ h
      show (if z ∈ nms ss then _ else _) = _
      rw [if_pos hx, if_neg ne]
    · refine .inl ⟨?_, by simp only [stepS, hx, if_false]⟩
      show (if z ∈ nms ss then _ else _) = _
      rw [if_neg hx]
  | ck k =>
    by_cases hx : k.nm ∈ nms ss
    · obtain ⟨s0, m0, e0⟩ := List.mem_map.mp hx
      have hs := step_ck so.nd m0 e0
      have hl : lstep ss (.ck k) = if ss.flatMap (el (.ck k)) = ss then none else some (ss.flatMap (el (.ck k))) := by
        show (if k.nm ∈ nms ss then _ else _) = _
        rw [if_pos hx]
      have iff : ss.flatMap (el (.ck k)) = ss ↔ k.alt s0 ∈ ss := by
        constructor
        · intro e
          have : k.alt s0 ∈ ss.flatMap (el (.ck k)) := List.mem_flatMap.mpr ⟨s0, m0, by simp [el, e0]⟩
          rwa [e] at this
        · intro h
          have e : k.alt s0 = s0 := nodup_inj so.nd _ h s0 m0 (alt_nm k s0)
          rw [flat_ck]
          refine (List.map_congr_left fun s hs => ?_).trans (List.map_id _)
          by_cases h2 : s.nm = k.nm
          · have : s = s0 := nodup_inj so.nd s hs s0 m0 (h2.trans e0.symm)
            rw [if_pos h2, this, e]
            rfl
          · rw [if_neg h2]
            rfl
      by_cases ha : k.alt s0 ∈ ss
      · exact .inl ⟨by rw [hl, if_pos (iff.mpr ha)], by rw [hs, if_neg (fun h => h ha)]⟩
      · exact .inr ⟨_, _, by rw [hl, if_neg (fun h => ha (iff.mp h))], by rw [hs, if_pos ha], perm_ck k ss⟩
    · refine .inl ⟨?_, step_ck0 hx⟩
      show (if k.nm ∈ nms ss then _ else _) = _
      rw [if_neg hx]
end K4
end
section
set_option Elab.async false
set_option linter.all false
set_option maxRecDepth 100000
set_option maxHeartbeats 4000000
namespace K4
open PySem PySem.Spec PyProof.Rows L2 H3 H4
theorem pu_ne_sts {H : Hp} {p l : Addr} {n : Int} {ts : List (Addr × S5)} (hp : Pu H p n) (h : H l = some (.lst (ts.map fun t => V.ref t.1))) : l ≠ p := fun e => by
  obtain ⟨xs, hx, a, b, c, d, ex, _⟩ := hp
  rw [e, hx, ex] at h
  cases ts with
  | nil => cases h
  | cons t ts => cases h
theorem pu_ne_ws {H : Hp} {p l : Addr} {n : Int} {ws : List Str} (hp : Pu H p n) (h : Ws H l ws) : l ≠ p := fun e => by
  obtain ⟨xs, hx, a, b, c, d, ex, _⟩ := hp
  have h : H l = some (.lst (ws.map V.str)) := h
  rw [e, hx, ex] at h
  cases ws with
  | nil => cases h
  | cons t ts => cases h
/-- what a change is drawn from -/
structure ChH (H : Hp) (p W lc ln l : Addr) (cs ns : List Str) (ts : List (Addr × S5)) (n : Int) : Prop where
  at_ : ∃ a b, H W = some (.lst [a, b, .ref lc, .ref ln])
  nW : W ≠ p
  c : Ws H lc cs
  nm : Ws H ln ns
  s : Sts H l ts
  pu : Pu H p n
  cd : cs.Nodup
  cw : ∀ x ∈ cs, Wd x
  cl : cs.length ≤ 20
  nw : ∀ x ∈ ns, Wd x
  ne : ns ≠ []
  nl : ns.length ≤ 50
  ok : ∀ s ∈ snds ts, s.Ok
  tl : ts.length ≤ 60
theorem ChH.but {H H' : Hp} {p W lc ln l : Addr} {cs ns : List Str} {ts : List (Addr × S5)} {n m : Int} (h : ChH H p W lc ln l cs ns ts n) (b : But p H H') (hp : Pu H' p m) : ChH H' p W lc ln l cs ns ts m := by
  obtain ⟨⟨x, y, h1⟩, h2, h3, h4, h5, h6, r1, r2, r3, r4, r5, r6, r7, r8⟩ := h
  exact ⟨⟨x, y, b _ _ h2 h1⟩, h2, b _ _ (pu_ne_ws h6 h3) h3, b _ _ (pu_ne_ws h6 h4) h4, h5.but b (pu_ne_sts h6 h5.1) h6.lst, hp, r1, r2, r3, r4, r5, r6, r7, r8⟩
theorem ChH.keep {H H' : Hp} {p W lc ln l : Addr} {cs ns : List Str} {ts : List (Addr × S5)} {n : Int} (h : ChH H p W lc ln l cs ns ts n) (s : Same H H') : ChH H' p W lc ln l cs ns ts n := by
  obtain ⟨⟨x, y, h1⟩, h2, h3, h4, h5, h6, r1, r2, r3, r4, r5, r6, r7, r8⟩ := h
  exact ⟨⟨x, y, s _ _ h1⟩, h2, s _ _ h3, s _ _ h4, h5.keep s, h6.same s, r1, r2, r3, r4, r5, r6, r7, r8⟩
theorem ChH.mono {H : Hp} {p W lc ln l : Addr} {cs ns : List Str} {ts : List (Addr × S5)} {n m : Int} (h : ChH H p W lc ln l cs ns ts n) (b : n ≤ m) : ChH H p W lc ln l cs ns ts m := by
  obtain ⟨h1, h2, h3, h4, h5, h6, r1, r2, r3, r4, r5, r6, r7, r8⟩ := h
  exact ⟨h1, h2, h3, h4, h5, h6.mono b, r1, r2, r3, r4, r5, r6, r7, r8⟩
theorem pu_b {H : Hp} {p : Addr} {n : Int} {ys : List V} (h : PuOk n ys) : Pu (upd H p (.lst ys)) p n ∧ But p H (upd H p (.lst ys)) := ⟨⟨ys, upd_same, h⟩, fun b o nb eb => by rwa [upd_ne nb]⟩
theorem pu_new {H : Hp} {p c : Addr} {n : Int} (h : Pu H p n) (nc : H c = none) : c ≠ p := fun e => by
  obtain ⟨xs, hx, _⟩ := h
  rw [e, hx] at nc
  cases nc
section
variable {P : Program} {w : World} {K : PySem.W.Frag} {mg : Str → Option Value} {base : Heap}
def spChange : Sp := fun vs H Q _ => ∃ (p W lc ln l : Addr) (cs ns : List Str) (ts : List (Addr × S5)) (n : Int), vs = [.ref p, .ref W, .ref l] ∧ ChH H p W lc ln l cs ns ts n ∧ n ≤ 700000 ∧
  ∀ (c : Addr) (k : Ch) (H' : Hp), ChH H' p W lc ln l cs ns ts (n + 10) → But p H H' → H c = none → k.At H' c → k.Ok → Q (.ref c) H'
abbrev NCg : List Str := ["_law_purse_here", "_law_world_here", "_law_streets", "_law_way", "_law_names", "_law_name", "_law_count", "_law_street"]
theorem scCg : FnScope NCg ["_law_purse_here", "_law_world_here", "_law_streets"] (defScope sChange) := ⟨rfl, rfl, rfl, by decide +kernel, rfl, by decide +kernel, by decide +kernel⟩
def cgS (j : Nat) : Stmt := (defBody sChange).getD j (.Pass ⟨0, 0, 0, 0⟩)
abbrev TCg (P : Program) (w : World) (K : PySem.W.Frag) (mg : Str → Option Value) (base : Heap) (f : Addr) (cdv : Value) (A : Around) (outer : List Env) (s : Shared) (Hl : Hp) (E : XK) : Cx := (cxOf CX0 P w K mg base NCg "_law_change" (defScope sChange) f cdv A outer s Hl E).nox
/-- out, turn, width, length -/
def tLow : TS := fun Z σ H => ∃ (p W lc ln l : Addr) (cs ns : List Str) (ts : List (Addr × S5)) (n r : Int) (N : Addr) (z : Str) (o6 o7 : Option V), σ = [some (.ref p), some (.ref W), some (.ref l), some (.int r), some (.ref N), some (.str z), o6, o7] ∧ ChH H p W lc ln l cs ns ts n ∧ n ≤ 790000 ∧ Wd z ∧
  ∀ (c : Addr) (k : Ch) (H' : Hp), ChH H' p W lc ln l cs ns ts (n + 3) → But p H H' → H c = none → k.At H' c → k.Ok → Z.rt (.ref c) H'
theorem lowB {f : Addr} {cdv : Value} {A : Around} {outer : List Env} {s : Shared} {Hl : Hp} {E : XK} (G : DrawZ P w K mg base) (GO : OneZ P w K mg base) (GW : WidthZ P w K mg base) (GL : LengthZ P w K mg base) (hr : Room 4 (A.deeper (envOfC "_law_change" (defScope sChange) s.heap.objs.size f cdv))) :
    PSs (TCg P w K mg base f cdv A outer s Hl E) [cgS 3, cgS 4, cgS 5] tLow := by
  have r2 : Room 2 (A.deeper (envOfC "_law_change" (defScope sChange) s.heap.objs.size f cdv)) := hr.mono (by decide)
  have r3 : Room 3 (A.deeper (envOfC "_law_change" (defScope sChange) s.heap.objs.size f cdv)) := hr.mono (by decide)
  have sl := sizeLine_eq
  refine weak (pss_cons (ps_if (pt_cmpR op_lt (pv 3) pe_int (nomark _)) (pss_one (ps_ret (pe_tup (pa_cons (pe_ifExp (pt_cmpR op_lt (pv 3) pe_int (nomark _)) pe_str pe_str) (pa_cons (pv 5) pa_nil))))) pss_nil)
      (pss_cons (ps_set (i := 6) scCg.nd rfl (Or.inl rfl) (pe_ifExp (pt_cmpR op_eq (pe_fz G r2 (by rfl) (pa_cons (pv 0) (pa_cons pe_int pa_nil))) pe_int (nomark _)) (pe_fz GO r3 (by rfl) (pa_cons (pv 0) (pa_cons (pe_lst (pa_cons pe_int (pa_cons pe_int (pa_cons pe_int (pa_cons pe_int (pa_cons pe_int pa_nil)))))) pa_nil))) (pe_fz GW hr (by rfl) (pa_cons (pv 0) pa_nil))))
      (pss_one (ps_ret (pe_ifExp (pt_cmpR op_lt (pv 3) pe_int (nomark _)) (pe_tup (pa_cons pe_str (pa_cons (pv 5) (pa_cons (pv 6) pa_nil)))) (pe_tup (pa_cons pe_str (pa_cons (pv 5) (pa_cons (pe_ifExp (pt_cmpR op_gt (pv 6) pe_int (nomark _)) (pv 6) (pe_fz GL hr (by rfl) (pa_cons (pv 0) pa_nil))) pa_nil))))))))) ?_
  rintro Z σ H ⟨p, W, lc, ln, l, cs, ns, ts, n, r, N, z, o6, o7, rfl, h, hn, wz, q⟩
  have two : 2 ≤ sizeLine := by omega
  have three : 3 ≤ sizeLine := by omega
  have out : ∀ (k : Ch) (vals : List V) (H7 : Hp) (m : Int) (c : Addr), ChH H7 p W lc ln l cs ns ts m → m ≤ n + 3 → But p H H7 → H7 c = none → (∀ H8 : Hp, H8 c = some (.tup vals) → k.At H8 c) → k.Ok → Z.rt (.ref c) (upd H7 c (.tup vals)) := fun k vals H7 m c h7 hm b7 nc hk ok => by
    have s8 := same_upd (o := .tup vals) nc
    exact q c k _ ((h7.keep s8).mono hm) (b7.trans (Same.but s8)) (b7.free nc (pu_new h7.pu nc)) (hk _ upd_same) ok
  refine ⟨_, rfl, _, _, rfl, rfl, _, rfl, ite2 (fun _ => ?_) (fun _ => ?_)⟩
  · refine ⟨_, rfl, _, _, rfl, rfl, _, rfl, ite2 (fun _ => ?_) (fun _ => ?_)⟩
    · exact ⟨_, rfl, two, fun c nc => out (.out z) _ H n c h (by omega) (Same.but (Same.refl _)) nc (fun _ e => e) wz⟩
    · exact ⟨_, rfl, two, fun c nc => out (.ck (.t z)) _ H n c h (by omega) (Same.but (Same.refl _)) nc (fun _ e => e) ⟨wz, trivial⟩⟩
  · have tail : ∀ (i : Int) (H7 : Hp), 0 ≤ i → i ≤ 1000000 → ChH H7 p W lc ln l cs ns ts (n + 2) → But p H H7 →
        tRet (tIf (tTest (tOp (rI0 fun i j => .bl (decide (i < j))) (tVar 3) (tC (.int 6)))) (tTup (tCons (tC (.str "width")) (tCons (tVar 5) (tCons (tVar 6) tNil))))
          (tTup (tCons (tC (.str "length")) (tCons (tVar 5) (tCons (tIf (tTest (tOp (rI0 fun i j => .bl (decide (j < i))) (tVar 6) (tC (.int 9)))) (tVar 6) (tCall spSmall [] E0 (tCons (tVar 0) tNil))) tNil))))) Z
          [some (.ref p), some (.ref W), some (.ref l), some (.int r), some (.ref N), some (.str z), some (.int i), o7] H7 := by
      intro i H7 i0 i9 h7 b7
      refine ⟨_, rfl, _, _, rfl, rfl, _, rfl, ite2 (fun _ => ?_) (fun _ => ?_)⟩
      · exact ⟨_, rfl, _, rfl, three, fun c nc => out (.ck (.w z i)) _ H7 (n + 2) c h7 (by omega) b7 nc (fun _ e => e) ⟨wz, i0, i9⟩⟩
      · refine ⟨_, rfl, _, rfl, _, _, rfl, rfl, _, rfl, ite2 (fun _ => ?_) (fun _ => ?_)⟩
        · exact ⟨_, rfl, three, fun c nc => out (.ck (.l z i)) _ H7 (n + 2) c h7 (by omega) b7 nc (fun _ e => e) ⟨wz, i0, i9⟩⟩
        · refine ⟨_, rfl, p, n + 2, rfl, h7.pu, by omega, fun r1 H8 r10 r19 p8 b8 => ?_⟩
          exact ⟨three, fun c nc => out (.ck (.l z r1)) _ H8 (n + 3) c ((h7.but b8 p8).mono (by omega)) (by omega) (b7.trans b8) nc (fun _ e => e) ⟨wz, r10, Int.le_trans r19 (by decide)⟩⟩
    obtain ⟨xs0, hx0, hp0⟩ := h.pu
    refine ⟨_, rfl, p, 4, n, xs0, rfl, hx0, hp0, by omega, by decide, by decide, fun r1 ys1 r10 r18 hy1 => ?_⟩
    obtain ⟨p1, b1⟩ := pu_b (H := H) (p := p) hy1
    generalize upd H p (.lst ys1) = H1 at p1 b1 ⊢
    have h1 := h.but b1 p1
    refine ⟨rfl, _, rfl, ite2 (fun _ => ?_) (fun _ => ?_)⟩
    · refine ⟨_, rfl, (by show 5 ≤ sizeLine; omega), fun L nL => ?_⟩
      have s2 := same_upd (o := .lst [V.int 10, V.int 11, V.int 99, V.int 100, V.int 1000]) nL
      have hL : upd H1 L (.lst [V.int 10, V.int 11, V.int 99, V.int 100, V.int 1000]) L = some (.lst [V.int 10, V.int 11, V.int 99, V.int 100, V.int 1000]) := upd_same
      generalize upd H1 L (.lst [V.int 10, V.int 11, V.int 99, V.int 100, V.int 1000]) = H2 at s2 hL ⊢
      have h2 := h1.keep s2
      have nLp := pu_new h1.pu nL
      obtain ⟨xs2, hx2, hp2⟩ := h2.pu
      refine ⟨p, L, n + 1, xs2, _, rfl, hx2, hp2, by omega, hL, Ne.symm nLp, by decide, by decide, fun j v ys3 hv hy3 => ?_⟩
      obtain ⟨p3, b3⟩ := pu_b (H := H2) (p := p) hy3
      generalize upd H2 p (.lst ys3) = H3 at p3 b3 ⊢
      have h3 := (h2.but b3 p3).mono (m := n + 2) (by omega)
      have hv' : ∃ i : Int, v = .int i ∧ 0 ≤ i ∧ i ≤ 1000000 := by
        match j, hv with
        | 0, hv => cases hv; exact ⟨_, rfl, by decide, by decide⟩
        | 1, hv => cases hv; exact ⟨_, rfl, by decide, by decide⟩
        | 2, hv => cases hv; exact ⟨_, rfl, by decide, by decide⟩
        | 3, hv => cases hv; exact ⟨_, rfl, by decide, by decide⟩
        | 4, hv => cases hv; exact ⟨_, rfl, by decide, by decide⟩
        | n + 5, hv => simp at hv
      obtain ⟨i, rfl, i0, i9⟩ := hv'
      exact tail i H3 i0 i9 h3 (b1.trans ((Same.but s2).trans b3))
    · refine ⟨_, rfl, p, n + 1, rfl, h1.pu, by omega, fun i H3 i0 i9 p3 b3 => ?_⟩
      exact tail i H3 i0 (Int.le_trans i9 (by decide)) ((h1.but b3 p3).mono (by omega)) (b1.trans b3)
theorem ok_change {f : Addr} {fd : FuncData} (F : FnP K "_law_change" sChange f fd) (G : DrawZ P w K mg base) (GO : OneZ P w K mg base) (GP : PairZ P w K mg base) (GW : WidthZ P w K mg base) (GL : LengthZ P w K mg base) (T : Tx K mg) :
    FnOk P w K mg base CX0 5 f fd ["_law_purse_here", "_law_world_here", "_law_streets"] spChange := by
  refine F.ok scCg (fun vs H Q E h => ?_) (fun cdv A outer s H vs Q E hr h => ?_)
  · obtain ⟨_, _, _, _, _, _, _, _, _, rfl, _⟩ := h
    rfl
  · obtain ⟨p, W, lc, ln, l, cs, ns, ts, n, rfl, h, hn, q⟩ := h
    have gL := T.fr "len" (by decide +kernel)
    have sl := sizeLine_eq
    have r2 : Room 2 (A.deeper (envOfC "_law_change" (defScope sChange) s.heap.objs.size f cdv)) := hr.mono (by decide)
    have r3 : Room 3 (A.deeper (envOfC "_law_change" (defScope sChange) s.heap.objs.size f cdv)) := hr.mono (by decide)
    refine ⟨_, PSs.nox (pss_cons (ps_par (i := 3) (j := 4) rfl scCg.nd rfl rfl (by decide) rfl rfl (pa_cons (pe_fz G r2 (by rfl) (pa_cons (pv 0) (pa_cons pe_int pa_nil)))
          (pa_cons (pe_op op_cat (pe_lc (own := [("_law_street", 7)]) (g := gName 7) (tt := tYes) (te := tOp (rIxT K) (tVar 7) (tC (.int ((0 : Nat) : Int)))) rfl scCg.nd (pi_list (pv 2)) (blkOk_by (own := [("_law_street", 7)]) (N := NCg) (sc := defScope sChange) (by decide +kernel))
              (fun _ _ _ _ _ => pg_name (i := 7) scCg.nd rfl (Or.inl rfl)) (fun _ _ _ _ _ => pts_nil) (fun _ _ _ _ _ => pe_ix ix_tup (pv 7) pe_int (fun _ _ => rfl)))
            (pe_lst (pa_cons (pe_fz GO r3 (by rfl) (pa_cons (pv 0) (pa_cons (pe_ix ix_list (pv 1) pe_int (fun _ _ => rfl)) pa_nil))) pa_nil))) pa_nil)) (by rfl))
      (pss_cons (ps_set (i := 5) scCg.nd rfl (Or.inl rfl) (pe_fz GO r3 (by rfl) (pa_cons (pv 0) (pa_cons (pv 4) pa_nil))))
      (pss_cons (ps_if (PW.pt (pw_and (pt_cmpR op_lt (pv 3) pe_int (nomark _)) (pw_and1 (pt_cmpR op_gt (pe_callB call_len_seq (by rfl) gL PySem.boot_len (pa_cons (pe_ix ix_list (pv 1) pe_int (fun _ _ => rfl)) pa_nil)) pe_int (nomark _)))))
        (pss_one (ps_ret (pe_tup (pa_cons pe_str (pa_cons (pe_op op_catT (pe_op op_catT (pe_tup (pa_cons (pe_fz GO r3 (by rfl) (pa_cons (pv 0) (pa_cons (pe_op op_cat (pe_ix ix_list (pv 1) pe_int (fun _ _ => rfl)) (pe_lst (pa_cons pe_str pa_nil))) pa_nil))) pa_nil))
            (pe_fz GP hr (by rfl) (pa_cons (pv 0) (pa_cons (pe_ix ix_list (pv 1) pe_int (fun _ _ => rfl)) pa_nil)))) (pe_tup (pa_cons (pe_fz GW hr (by rfl) (pa_cons (pv 0) pa_nil)) (pa_cons (pe_fz GL hr (by rfl) (pa_cons (pv 0) pa_nil)) pa_nil)))) pa_nil))))) pss_nil)
      (lowB G GO GW GL hr)))), ?_⟩
    -- the way, and the names
    have two : 2 ≤ sizeLine := by omega
    have three : 3 ≤ sizeLine := by omega
    have tl := h.tl
    obtain ⟨xs0, hx0, hp0⟩ := h.pu
    refine ⟨_, rfl, p, 8, n, xs0, rfl, hx0, hp0, by omega, by decide, by decide, fun r ys1 r0 r8 hy1 => ?_⟩
    obtain ⟨p1, b1⟩ := pu_b (H := H) (p := p) hy1
    generalize upd H p (.lst ys1) = H1 at p1 b1 ⊢
    have h1 := h.but b1 p1
    refine ⟨_, rfl, l, rfl, ⟨_, SqL.of h1.s.1⟩, fun D nD => ?_⟩
    refine lc_val (us := ts) (vf := fun t => V.ref t.1) (p := fun _ => true) (gv := fun t => V.str t.2.nm) nD h1.s.1 (by omega) (fun u hu H' s1 N N0 g1 g2 => ?_) (fun H2 s2 hD => ?_)
    · exact ⟨rfl, _, rfl, u.1, _, ((0 : Nat) : Int), _, rfl, rfl, SqT.of (s1 _ _ (h1.s.2 u hu)), atI_nat rfl, g1 rfl _ (Same.refl _)⟩
    have hD' : Ws H2 D (nms (snds ts)) := by
      show H2 D = some (.lst ((nms (snds ts)).map V.str))
      rw [hD, List.filter_eq_self.mpr (fun _ _ => rfl)]
      simp only [nms, snds, List.map_map]
      rfl
    have h2 := h1.keep s2
    obtain ⟨a2, b2, hW2⟩ := h2.at_
    obtain ⟨xs2, hx2, hp2⟩ := h2.pu
    have nl := h.nl
    refine ⟨_, rfl, _, rfl, W, _, ((3 : Nat) : Int), _, rfl, rfl, SqL.of hW2, atI_nat rfl, p, ln, n + 1, xs2, ns.map V.str, rfl, hx2, hp2, by omega, h2.nm, Ne.symm (pu_ne_ws h2.pu h2.nm), by rw [List.length_map]; exact List.length_pos_iff.mpr h.ne, by rw [List.length_map]; omega, fun j z ys3 hz hy3 => ?_⟩
    obtain ⟨x, ex, rfl⟩ := at_map hz
    have hx : x ∈ ns := List.mem_of_getElem? ex
    obtain ⟨p3, b3⟩ := pu_b (H := H2) (p := p) hy3
    generalize upd H2 p (.lst ys3) = H3 at p3 b3 ⊢
    have h3 := h2.but b3 p3
    have hD3 : Ws H3 D (nms (snds ts)) := b3 _ _ (pu_ne_ws h2.pu hD') hD'
    refine ⟨(by show 1 ≤ sizeLine; omega), fun L nL => ?_⟩
    have s4 := same_upd (o := .lst [V.str x]) nL
    have hL : upd H3 L (.lst [V.str x]) L = some (.lst [V.str x]) := upd_same
    generalize upd H3 L (.lst [V.str x]) = H4 at s4 hL ⊢
    have h4 := h3.keep s4
    have l1 : (nms (snds ts)).length = ts.length := by simp [nms, snds]
    refine ⟨D, L, _, _, rfl, rfl, s4 _ _ hD3, hL, by rw [List.length_map, l1]; show ts.length + 1 ≤ _; omega, fun N nN => ?_⟩
    have s5 := same_upd (o := .lst ((nms (snds ts)).map V.str ++ [V.str x])) nN
    have hN : Ws (upd H4 N (.lst ((nms (snds ts)).map V.str ++ [V.str x]))) N (nms (snds ts) ++ [x]) := by
      show upd H4 N _ N = some (.lst ((nms (snds ts) ++ [x]).map V.str))
      rw [upd_same, List.map_append]
      rfl
    generalize upd H4 N (.lst ((nms (snds ts)).map V.str ++ [V.str x])) = H5 at s5 hN ⊢
    have h5 := h4.keep s5
    have b05 : But p H H5 := b1.trans ((Same.but s2).trans (b3.trans (Same.but (same_trans s4 s5))))
    obtain ⟨xs5, hx5, hp5⟩ := h5.pu
    refine ⟨_, _, rfl, ?_⟩
    refine ⟨_, rfl, _, rfl, p, N, n + 2, xs5, _, rfl, hx5, hp5.mono (by omega), by omega, hN, Ne.symm (pu_ne_ws h5.pu hN), by simp, by rw [List.length_map, List.length_append, l1]; show ts.length + 1 < 128; omega, fun j6 z6 ys6 hz6 hy6 => ?_⟩
    obtain ⟨z, ez, rfl⟩ := at_map hz6
    have hz : z ∈ nms (snds ts) ++ [x] := List.mem_of_getElem? ez
    obtain ⟨p6, b6⟩ := pu_b (H := H5) (p := p) hy6
    generalize upd H5 p (.lst ys6) = H6 at p6 b6 ⊢
    have h6 := (h5.but b6 p6).mono (m := n + 3) (by omega)
    have b06 := b05.trans b6
    have wz : Wd z := by
      rcases List.mem_append.mp hz with hz | hz
      · obtain ⟨s', hs', rfl⟩ := List.mem_map.mp hz
        exact (h.ok s' hs').1
      · rw [List.mem_singleton.mp hz]
        exact h.nw x hx
    obtain ⟨a6, c6, hW6⟩ := h6.at_
    have out : ∀ (k : Ch) (vals : List V) (H7 : Hp) (m : Int) (c : Addr), ChH H7 p W lc ln l cs ns ts m → m ≤ n + 10 → But p H H7 → H7 c = none → (∀ H8, Same H7 H8 → H8 c = some (.tup vals) → k.At H8 c) → k.Ok → Q (.ref c) (upd H7 c (.tup vals)) := fun k vals H7 m c h7 hm b7 nc hk ok => by
      have s8 := same_upd (o := .tup vals) nc
      exact q c k _ ((h7.keep s8).mono hm) (b7.trans (Same.but s8)) (b7.free nc (pu_new h7.pu nc)) (hk _ s8 upd_same) ok
    have rest : ∀ Z : Ends, Z.rt = Q → tLow Z [some (.ref p), some (.ref W), some (.ref l), some (.int r), some (.ref N), some (.str z), none, none] H6 := fun Z eZ =>
      ⟨p, W, lc, ln, l, cs, ns, ts, n + 3, r, N, z, none, none, rfl, h6, by omega, wz, fun c k H' h7 b7 nc hk ok => by
        rw [eZ]
        exact q c k H' (h7.mono (by omega)) (b06.trans b7) (b06.free nc (pu_new h6.pu nc)) hk ok⟩
    refine ⟨_, rfl, _, _, rfl, rfl, _, rfl, ite2 (fun _ => ?_) (fun _ => ifF nf (rest _ rfl))⟩
    refine ⟨_, rfl, W, _, ((2 : Nat) : Int), _, rfl, rfl, SqL.of hW6, atI_nat rfl, lc, _, rfl, Or.inl (SqL.of h6.c), _, _, rfl, rfl, _, rfl, ite2 (fun hc => ?_) (fun _ => rest _ rfl)⟩
    have hc := of_decide_eq_true hc
    rw [List.length_map] at hc
    -- put
    have wzz : Wd "zz" := by decide +kernel
    refine ⟨_, rfl, _, rfl, W, _, ((3 : Nat) : Int), _, rfl, rfl, SqL.of hW6, atI_nat rfl, (by show 1 ≤ sizeLine; omega), fun Zl nZ => ?_⟩
    have s7 := same_upd (o := .lst [V.str "zz"]) nZ
    have hZ : upd H6 Zl (.lst [V.str "zz"]) Zl = some (.lst [V.str "zz"]) := upd_same
    generalize upd H6 Zl (.lst [V.str "zz"]) = H7 at s7 hZ ⊢
    have h7 := h6.keep s7
    refine ⟨ln, Zl, _, _, rfl, rfl, h7.nm, hZ, by rw [List.length_map]; show ns.length + 1 ≤ _; omega, fun N2 nN2 => ?_⟩
    have s8 := same_upd (o := .lst (ns.map V.str ++ [V.str "zz"])) nN2
    have hN2 : Ws (upd H7 N2 (.lst (ns.map V.str ++ [V.str "zz"]))) N2 (ns ++ [("zz" : Str)]) := by
      show upd H7 N2 _ N2 = some (.lst ((ns ++ [("zz" : Str)]).map V.str))
      rw [upd_same, List.map_append]
      rfl
    generalize upd H7 N2 (.lst (ns.map V.str ++ [V.str "zz"])) = H8 at s8 hN2 ⊢
    have h8 := h7.keep s8
    obtain ⟨xs8, hx8, hp8⟩ := h8.pu
    refine ⟨p, N2, n + 3, xs8, _, rfl, hx8, hp8, by omega, hN2, Ne.symm (pu_ne_ws h8.pu hN2), by simp, by rw [List.length_map, List.length_append]; show ns.length + 1 < 128; omega, fun j9 z9 ys9 hz9 hy9 => ?_⟩
    obtain ⟨y, ey, rfl⟩ := at_map hz9
    have hy : y ∈ ns ++ [("zz" : Str)] := List.mem_of_getElem? ey
    have wy : Wd y := by
      rcases List.mem_append.mp hy with h' | h'
      · exact h.nw y h'
      · rw [List.mem_singleton.mp h']
        exact wzz
    obtain ⟨p9, b9⟩ := pu_b (H := H8) (p := p) hy9
    generalize upd H8 p (.lst ys9) = H9 at p9 b9 ⊢
    have h9 := h8.but b9 p9
    have b09 : But p H H9 := b06.trans ((Same.but (same_trans s7 s8)).trans b9)
    refine ⟨(by show 1 ≤ sizeLine; omega), fun t1 nt1 => ?_⟩
    have s10 := same_upd (o := .tup [V.str y]) nt1
    have e10 : upd H9 t1 (.tup [V.str y]) t1 = some (.tup [V.str y]) := upd_same
    generalize upd H9 t1 (.tup [V.str y]) = H10 at s10 e10 ⊢
    have h10 := h9.keep s10
    obtain ⟨a10, c10, hW10⟩ := h10.at_
    refine ⟨_, rfl, _, rfl, W, _, ((2 : Nat) : Int), _, rfl, rfl, SqL.of hW10, atI_nat rfl, p, lc, n + 3 + 1, cs, rfl, h10.pu, by omega, h10.c, pu_ne_ws h10.pu h10.c, h.cd, by omega, by have := h.cl; omega, fun t a b H11 ha hb hab p11 b11 nt et => ?_⟩
    have h11 := h10.but b11 p11
    have nt1p : t1 ≠ p := pu_new h9.pu nt1
    have e11 := b11 _ _ nt1p e10
    refine ⟨t1, t, _, _, rfl, rfl, SqT.of e11, SqT.of et, by simp, (by show 1 + 2 ≤ sizeLine; omega), (fun z => by cases z), fun _ t2 nt2 => ?_⟩
    have s12 := same_upd (o := .tup ([V.str y] ++ [V.str a, V.str b])) nt2
    have e12 : upd H11 t2 (.tup ([V.str y] ++ [V.str a, V.str b])) t2 = some (.tup ([V.str y] ++ [V.str a, V.str b])) := upd_same
    generalize upd H11 t2 (.tup ([V.str y] ++ [V.str a, V.str b])) = H12 at s12 e12 ⊢
    have h12 := h11.keep s12
    have nt2p : t2 ≠ p := pu_new h11.pu nt2
    refine ⟨_, rfl, p, _, rfl, h12.pu, by omega, fun r1 H13 r10 r19 p13 b13 => ?_⟩
    have h13 := h12.but b13 p13
    refine ⟨_, rfl, p, _, rfl, h13.pu, by omega, fun r2' H14 r20 r29 p14 b14 => ?_⟩
    have h14 := h13.but b14 p14
    refine ⟨two, fun t3 nt3 => ?_⟩
    have s15 := same_upd (o := .tup [V.int r1, V.int r2']) nt3
    have e15 : upd H14 t3 (.tup [V.int r1, V.int r2']) t3 = some (.tup [V.int r1, V.int r2']) := upd_same
    generalize upd H14 t3 (.tup [V.int r1, V.int r2']) = H15 at s15 e15 ⊢
    have h15 := h14.keep s15
    have e25 := s15 _ _ ((b13.trans b14) _ _ nt2p e12)
    refine ⟨t2, t3, _, _, rfl, rfl, SqT.of e25, SqT.of e15, by simp, (by show 3 + 2 ≤ sizeLine; omega), (fun z => by cases z), fun _ t4 nt4 => ?_⟩
    have s16 := same_upd (o := .tup (([V.str y] ++ [V.str a, V.str b]) ++ [V.int r1, V.int r2'])) nt4
    have e16 : upd H15 t4 (.tup (([V.str y] ++ [V.str a, V.str b]) ++ [V.int r1, V.int r2'])) t4 = some (.tup (S5.vals ⟨y, a, b, r1, r2'⟩)) := upd_same
    generalize upd H15 t4 (.tup (([V.str y] ++ [V.str a, V.str b]) ++ [V.int r1, V.int r2'])) = H16 at s16 e16 ⊢
    have h16 := h15.keep s16
    have b016 : But p H H16 := b09.trans ((Same.but s10).trans (b11.trans ((Same.but s12).trans ((b13.trans b14).trans (Same.but (same_trans s15 s16))))))
    refine ⟨two, fun c nc => ?_⟩
    have s17 := same_upd (o := .tup [V.str "put", V.ref t4]) nc
    exact q c (.put ⟨y, a, b, r1, r2'⟩) _ ((h16.keep s17).mono (by omega)) (b016.trans (Same.but s17)) (b016.free nc (pu_new h16.pu nc)) ⟨t4, upd_same, s17 _ _ e16⟩ ⟨wy, h.cw a ha, h.cw b hb, hab, r10, Int.le_trans r19 (by decide), r20, Int.le_trans r29 (by decide)⟩
end
end K4
end
section
set_option Elab.async false
set_option linter.all false
set_option maxRecDepth 100000
set_option maxHeartbeats 4000000
namespace K4
open PySem PySem.Spec PyProof.Rows L2 H3 H4
theorem lstep_ok {ss r : List S5} {k : Ch} (so : SOk ss) (l : ss.length ≤ 59) (ok : k.Ok) (h : lstep ss k = some r) : SOk r ∧ r.length ≤ ss.length + 1 := by
  rcases lstep_step (k := k) so with ⟨h0, _⟩ | ⟨r1, r', h1, h2, p⟩
  · rw [h] at h0
    cases h0
  · rw [h] at h1
    cases h1
    obtain ⟨so', le⟩ := step_ok so l ok h2
    exact ⟨so'.perm p, by rw [p.length_eq]; exact le⟩
theorem Ch.At.but {H H' : Hp} {c p : Addr} {k : Ch} {n : Int} (h : k.At H c) (hp : Pu H p n) (b : But p H H') : k.At H' c := by
  have ne : ∀ {a : Addr} {xs : List V}, H a = some (.tup xs) → a ≠ p := fun {a xs} e z => by
    obtain ⟨ys, hy⟩ := hp.lst
    rw [z, hy] at e
    cases e
  cases k with
  | put x =>
    obtain ⟨t, h1, h2⟩ := h
    exact ⟨t, b _ _ (ne h1) h1, b _ _ (ne h2) h2⟩
  | out z => exact b _ _ (ne h) h
  | ck k => exact b _ _ (ne h) h
/-- a change stays where only a list is changed -/
theorem Ch.At.atF {H H' : Hp} {c F : Addr} {k : Ch} {xs : List V} (h : k.At H c) (hF : H F = some (.lst xs)) (b : But F H H') : k.At H' c := by
  have ne : ∀ {a : Addr} {ys : List V}, H a = some (.tup ys) → a ≠ F := fun {a ys} e z => by
    rw [z, hF] at e
    cases e
  cases k with
  | put x =>
    obtain ⟨t, h1, h2⟩ := h
    exact ⟨t, b _ _ (ne h1) h1, b _ _ (ne h2) h2⟩
  | out z => exact b _ _ (ne h) h
  | ck k => exact b _ _ (ne h) h
/-- while changes are drawn -/
structure DrS (H : Hp) (p W lc ln l F : Addr) (cs ns : List Str) (ts : List (Addr × S5)) (ks : List (Addr × Ch)) (n : Int) : Prop where
  h : ChH H p W lc ln l cs ns ts n
  f : ChL H F ks
  ok : ∀ t ∈ ks, t.2.Ok
  so : SOk (snds ts)
  n1 : W ≠ F
  n2 : lc ≠ F
  n3 : ln ≠ F
  n4 : l ≠ F
  n5 : p ≠ F
theorem DrS.but {H H' : Hp} {p W lc ln l F : Addr} {cs ns : List Str} {ts : List (Addr × S5)} {ks : List (Addr × Ch)} {n m : Int} (h : DrS H p W lc ln l F cs ns ts ks n) (b : But p H H') (hp : Pu H' p m) : DrS H' p W lc ln l F cs ns ts ks m :=
  ⟨h.h.but b hp, ⟨b _ _ (Ne.symm h.n5) h.f.at_, fun t ht => (h.f.each t ht).but h.h.pu b⟩, h.ok, h.so, h.n1, h.n2, h.n3, h.n4, h.n5⟩
theorem DrS.keep {H H' : Hp} {p W lc ln l F : Addr} {cs ns : List Str} {ts : List (Addr × S5)} {ks : List (Addr × Ch)} {n : Int} (h : DrS H p W lc ln l F cs ns ts ks n) (s : Same H H') : DrS H' p W lc ln l F cs ns ts ks n :=
  ⟨h.h.keep s, h.f.keep s, h.ok, h.so, h.n1, h.n2, h.n3, h.n4, h.n5⟩
theorem DrS.mono {H : Hp} {p W lc ln l F : Addr} {cs ns : List Str} {ts : List (Addr × S5)} {ks : List (Addr × Ch)} {n m : Int} (h : DrS H p W lc ln l F cs ns ts ks n) (b : n ≤ m) : DrS H p W lc ln l F cs ns ts ks m :=
  ⟨h.h.mono b, h.f, h.ok, h.so, h.n1, h.n2, h.n3, h.n4, h.n5⟩
/-- one more -/
theorem DrS.app {H : Hp} {p W lc ln l F c : Addr} {cs ns : List Str} {ts : List (Addr × S5)} {ks : List (Addr × Ch)} {k : Ch} {n : Int} (h : DrS H p W lc ln l F cs ns ts ks n) (hc : k.At H c) (ok : k.Ok) :
    DrS (upd H F (.lst ((ks.map fun t => V.ref t.1) ++ [V.ref c]))) p W lc ln l F cs ns ts (ks ++ [(c, k)]) n := by
  have b : But F H (upd H F (.lst ((ks.map fun t => V.ref t.1) ++ [V.ref c]))) := fun a o na e => by rwa [upd_ne na]
  obtain ⟨⟨⟨x, y, h1⟩, h2, h3, h4, h5, h6, r1, r2, r3, r4, r5, r6, r7, r8⟩, hf, oks, so, n1, n2, n3, n4, n5⟩ := h
  have tne : ∀ t ∈ ts, t.1 ≠ F := fun t ht e => by
    have e1 := h5.2 t ht
    rw [e, hf.at_] at e1
    cases e1
  obtain ⟨xs, hx, hu⟩ := h6
  refine ⟨⟨⟨x, y, b _ _ n1 h1⟩, h2, b _ _ n2 h3, b _ _ n3 h4, ⟨b _ _ n4 h5.1, fun t ht => b _ _ (tne t ht) (h5.2 t ht)⟩, ⟨xs, b _ _ n5 hx, hu⟩, r1, r2, r3, r4, r5, r6, r7, r8⟩, ⟨by rw [upd_same, List.map_append]; rfl, fun t ht => ?_⟩, fun t ht => ?_, so, n1, n2, n3, n4, n5⟩
  · rcases List.mem_append.mp ht with h | h
    · exact (hf.each t h).atF hf.at_ b
    · rw [List.mem_singleton.mp h]
      exact hc.atF hf.at_ b
  · rcases List.mem_append.mp ht with h | h
    · exact oks t h
    · rw [List.mem_singleton.mp h]
      exact ok
section
variable {P : Program} {w : World} {K : PySem.W.Frag} {mg : Str → Option Value} {base : Heap}
def spDrawn : Sp := fun vs H Q _ => ∃ (p W ls lg lc ln : Addr) (ts : List (Addr × S5)) (gs cs ns : List Str) (n : Int), vs = [.ref p, .ref W] ∧ WoP H p W ls lg lc ln ts gs cs ns ∧ Pu H p n ∧ n ≤ 500000 ∧ ns ≠ [] ∧
  ∀ (F : Addr) (ks : List (Addr × Ch)) (H' : Hp), Pu H' p (n + 300) → But p H H' → H F = none → ChL H' F ks → (∀ t ∈ ks, t.2.Ok) → ks.length ≤ 4 → Q (.ref F) H'
abbrev NDr : List Str := ["_law_purse_here", "_law_world_here", "_law_streets", "_law_found", "_law_turn", "_law_change_here", "_law_again", "_law_after"]
theorem scDr : FnScope NDr ["_law_purse_here", "_law_world_here"] (defScope sDrawn) := ⟨rfl, rfl, rfl, by decide +kernel, rfl, by decide +kernel, by decide +kernel⟩
theorem ok_drawn {f : Addr} {fd : FuncData} (F : FnP K "_law_drawn_list" sDrawn f fd) (G : DrawZ P w K mg base) (GC : Fz P w K mg base "_law_change" 5 ["_law_purse_here", "_law_world_here", "_law_streets"] spChange) (GS : Fz P w K mg base "_law_stepped" 1 ["_law_streets", "_law_change_here"] spStep) (T : Tx K mg) :
    FnOk P w K mg base CX0 6 f fd ["_law_purse_here", "_law_world_here"] spDrawn := by
  refine F.ok scDr (fun vs H Q E h => ?_) (fun cdv A outer s H vs Q E hr h => ?_)
  · obtain ⟨_, _, _, _, _, _, _, _, _, _, _, rfl, _⟩ := h
    rfl
  · obtain ⟨p, W, ls, lg, lc, ln, ts, gs, cs, ns, n, rfl, hW, hp, hn, ne, q⟩ := h
    have gR := T.fr "range" (by decide +kernel)
    have sl := sizeLine_eq
    have r1 : Room 1 (A.deeper (envOfC "_law_drawn_list" (defScope sDrawn) s.heap.objs.size f cdv)) := hr.mono (by decide)
    have r2 : Room 2 (A.deeper (envOfC "_law_drawn_list" (defScope sDrawn) s.heap.objs.size f cdv)) := hr.mono (by decide)
    refine ⟨_, PSs.nox (pss_cons (ps_par (i := 2) (j := 3) rfl scDr.nd rfl rfl (by decide) rfl rfl (pa_cons (pe_ix ix_list (pv 1) pe_int (fun _ _ => rfl)) (pa_cons (pe_lst pa_nil) pa_nil)) (by rfl))
      (pss_cons (ps_for PassesOwn.never rfl (pi_range1 rfl gR (pa_cons (pe_fz G r2 (by rfl) (pa_cons (pv 0) (pa_cons pe_int pa_nil))) pa_nil)) (pg_name (i := 4) scDr.nd rfl (Or.inl rfl))
        (pss_cons (ps_set (i := 5) scDr.nd rfl (Or.inl rfl) (pe_fz GC hr (by rfl) (pa_cons (pv 0) (pa_cons (pv 1) (pa_cons (pv 2) pa_nil)))))
        (pss_cons (ps_for PassesOwn.never rfl (pi_range1 rfl gR (pa_cons pe_int pa_nil)) (pg_name (i := 6) scDr.nd rfl (Or.inl rfl))
          (pss_one (ps_if (PW.pt (pw_and (pt_cmpR op_isN (pe_fz GS r1 (by rfl) (pa_cons (pv 2) (pa_cons (pv 5) pa_nil))) pe_non (nomark _)) (pw_and1 (pt_cmpR op_gt (pe_fz G r2 (by rfl) (pa_cons (pv 0) (pa_cons pe_int pa_nil))) pe_int (nomark _)))))
            (pss_one (ps_set (i := 5) scDr.nd rfl (Or.inl rfl) (pe_fz GC hr (by rfl) (pa_cons (pv 0) (pa_cons (pv 1) (pa_cons (pv 2) pa_nil)))))) pss_nil)))
        (pss_cons (ps_expr (pe_bm PySem.F.plainAttrs_list PySem.F.slot_list_append PySem.F.type_list_append mt_append (pv 3) (pa_cons (pv 5) pa_nil)))
        (pss_cons (ps_set (i := 7) scDr.nd rfl (Or.inl rfl) (pe_fz GS r1 (by rfl) (pa_cons (pv 2) (pa_cons (pv 5) pa_nil))))
        (pss_one (ps_set (i := 2) scDr.nd rfl (Or.inl rfl) (pe_ifExp (pt_cmpR op_isN (pv 7) pe_non (nomark _)) (pv 2) (pv 7)))))))))
      (pss_one (ps_ret (pv 3))))), ?_⟩
    have wo := hW.wo
    have l2 := wo.l2
    have l3 := wo.l3
    refine ⟨_, rfl, W, _, ((0 : Nat) : Int), _, rfl, rfl, SqL.of hW.at_, atI_nat rfl, (by show 0 ≤ sizeLine; omega), fun F nF => ?_⟩
    have s1 := same_upd (o := .lst []) nF
    have hF : upd H F (.lst []) F = some (.lst []) := upd_same
    generalize upd H F (.lst []) = H1 at s1 hF ⊢
    have old : ∀ {a : Addr} {o : HO}, H a = some o → a ≠ F := fun {a o} e z => by
      rw [z, nF] at e
      cases e
    obtain ⟨xsp, hxp⟩ := hp.lst
    have h0 : DrS H1 p W lc ln ls F cs ns ts [] n := ⟨⟨⟨_, _, s1 _ _ hW.at_⟩, hW.nW, s1 _ _ wo.c, s1 _ _ wo.n, wo.s.keep s1, hp.same s1, wo.cd, wo.cw, by have := wo.l1; omega, wo.nw, ne, by omega, wo.sok.ok, by have := wo.sok.l; rw [snds_len] at this; exact this⟩,
      ⟨hF, fun t ht => by simp at ht⟩, fun t ht => by simp at ht, wo.sok, old hW.at_, old wo.c, old wo.n, old wo.s.1, old hxp⟩
    refine ⟨_, _, rfl, ?_⟩
    obtain ⟨xs1, hx1, hp1⟩ := h0.h.pu
    refine ⟨_, rfl, p, 5, n, xs1, rfl, hx1, hp1, by omega, by decide, by decide, fun r ys1 r0 r5 hy1 => ?_⟩
    obtain ⟨p2, b2⟩ := pu_b (H := H1) (p := p) hy1
    generalize upd H1 p (.lst ys1) = H2 at p2 b2 ⊢
    have h2 := h0.but b2 p2
    refine ⟨_, rfl, by omega, by omega, ?_⟩
    have rn : r.toNat ≤ 4 := by omega
    refine for_range (n := r.toNat) (fun j σ H' => ∃ l ts' ks m o4 o5 o6 o7, σ = [some (.ref p), some (.ref W), some (.ref l), some (.ref F), o4, o5, o6, o7] ∧ DrS H' p W lc ln l F cs ns ts' ks m ∧ m ≤ n + 1 + 60 * (j : Nat) ∧ But p H H' ∧ ks.length = j ∧ ts'.length ≤ ts.length + j)
      ⟨ls, ts, [], n + 1, none, none, none, none, rfl, h2, by simp, (Same.but s1).trans b2, rfl, Nat.le_refl _⟩ ?_ ?_
    · rintro j σ H3 hj ⟨l, ts', ks, m, o4, o5, o6, o7, rfl, d, hm, b3, kl, tl⟩
      refine ⟨_, rfl, _, rfl, _, rfl, p, W, lc, ln, l, cs, ns, ts', m, rfl, d.h, by omega, fun c k H4 h4 b4 nc hk ok => ?_⟩
      have d4 := d.but b4 h4.pu
      refine ⟨3, rfl, by decide, by decide, ?_⟩
      refine for_range (n := 3) (fun i σ H' => ∃ c k m' o4 o6 o7, σ = [some (.ref p), some (.ref W), some (.ref l), some (.ref F), o4, some (.ref c), o6, o7] ∧ DrS H' p W lc ln l F cs ns ts' ks m' ∧ m' ≤ m + 10 + 12 * (i : Nat) ∧ But p H H' ∧ k.At H' c ∧ k.Ok)
        ⟨c, k, m + 10, _, _, _, rfl, d4, by simp, b3.trans b4, hk, ok⟩ ?_ ?_
      · rintro i σ H5 hi ⟨c, k, m', o4, o6, o7, rfl, d5, hm5, b5, hk, ok⟩
        refine ⟨_, rfl, _, rfl, l, c, ts', k, rfl, d5.h.s, d5.so, hk, ok, fun hn H6 s6 => ?_, fun ss D' us H6 hs s6 nD hD e => ?_⟩
        · have d6 := d5.keep s6
          obtain ⟨xs6, hx6, hp6⟩ := d6.h.pu
          refine ⟨rfl, _, rfl, ifT rfl ⟨_, rfl, p, 5, m', xs6, rfl, hx6, hp6, by omega, by decide, by decide, fun r7 ys7 r70 r75 hy7 => ?_⟩⟩
          obtain ⟨p7, b7⟩ := pu_b (H := H6) (p := p) hy7
          generalize upd H6 p (.lst ys7) = H7 at p7 b7 ⊢
          have d7 := d6.but b7 p7
          have b57 := b5.trans ((Same.but s6).trans b7)
          have hk7 := (hk.keep s6).but d6.h.pu b7
          refine ⟨_, _, rfl, rfl, _, rfl, ite2 (fun _ => ?_) (fun _ => ?_)⟩
          · exact ⟨_, rfl, _, rfl, _, rfl, p, W, lc, ln, l, cs, ns, ts', m' + 1, rfl, d7.h, by omega, fun c8 k8 H8 h8 b8 nc8 hk8 ok8 => ⟨c8, k8, m' + 1 + 10, _, _, _, rfl, d7.but b8 h8.pu, by push_cast; omega, b57.trans b8, hk8, ok8⟩⟩
          · exact ⟨c, k, m' + 1, _, _, _, rfl, d7, by push_cast; omega, b57, hk7, ok⟩
        · refine ⟨rfl, _, rfl, ifF (by rw [decide_eq_false (fun e => by cases e)]; decide) (ifF nf ?_)⟩
          exact ⟨c, k, m', _, _, _, rfl, d5.keep s6, by push_cast; omega, b5.trans (Same.but s6), hk.keep s6, ok⟩
      · rintro σ H5 ⟨c, k, m', o4, o6, o7, rfl, d5, hm5, b5, hk, ok⟩
        refine ⟨_, rfl, Or.inl ⟨rfl, _, SqL.of d5.f.at_⟩, _, rfl, F, _, _, rfl, rfl, d5.f.at_, by rw [List.length_map]; omega, ?_⟩
        have d6 := d5.app hk ok
        have bF : But F H5 (upd H5 F (.lst ((ks.map fun t => V.ref t.1) ++ [V.ref c]))) := fun a o na e => by rwa [upd_ne na]
        have hk6 := hk.atF d5.f.at_ bF
        have b6 : But p H (upd H5 F (.lst ((ks.map fun t => V.ref t.1) ++ [V.ref c]))) := fun a o na e => bF _ _ (old e) (b5 _ _ na e)
        generalize upd H5 F (.lst ((ks.map fun t => V.ref t.1) ++ [V.ref c])) = H6 at d6 hk6 b6 ⊢
        refine ⟨_, rfl, _, rfl, l, c, ts', k, rfl, d6.h.s, d6.so, hk6, ok, fun hn H7 s7 => ?_, fun ss D' us H7 hs s7 nD hD e => ?_⟩
        · exact ⟨_, rfl, rfl, _, rfl, ifT rfl ⟨_, rfl, l, ts', ks ++ [(c, k)], m', _, _, _, _, rfl, d6.keep s7, by push_cast; omega, b6.trans (Same.but s7), by rw [List.length_append]; show ks.length + 1 = _; omega, by omega⟩⟩
        · have d7 := d6.keep s7
          have l59 : (snds ts').length ≤ 59 := by
            rw [snds_len]
            omega
          obtain ⟨so7, le7⟩ := lstep_ok d6.so l59 ok hs
          rw [snds_len] at le7
          have eus : (snds us).length = us.length := snds_len
          rw [e] at eus
          refine ⟨_, rfl, rfl, _, rfl, ifF (by rw [decide_eq_false (fun e => by cases e)]; decide) ⟨_, rfl, D', us, ks ++ [(c, k)], m', _, _, _, _, rfl, ?_, by push_cast; omega, b6.trans (Same.but s7), by rw [List.length_append]; show ks.length + 1 = _; omega, by omega⟩⟩
          obtain ⟨⟨g1, g2, g3, g4, g5, g6, g7, g8, g9, g10, g11, g12, g13, g14⟩, hf, oks, so, n1, n2, n3, n4, n5⟩ := d7
          refine ⟨⟨g1, g2, g3, g4, hD, g6, g7, g8, g9, g10, g11, g12, by rw [e]; exact so7.ok, by omega⟩, hf, oks, by rw [e]; exact so7, n1, n2, n3, fun z => ?_, n5⟩
          rw [z, d6.f.at_] at nD
          cases nD
    · rintro σ H3 ⟨l, ts', ks, m, o4, o5, o6, o7, rfl, d, hm, b3, kl, tl⟩
      exact ⟨_, rfl, q F ks H3 (d.h.pu.mono (by omega)) b3 nF d.f d.ok (by omega)⟩
end
end K4
end
section
set_option Elab.async false
set_option linter.all false
set_option maxRecDepth 100000
set_option maxHeartbeats 4000000
namespace K4
open PySem PySem.Spec PyProof.Rows L2 H3 H4
/-! ### written lists of changes -/
def zz8 : Str := "zzzzzzzz"
def sA : S5 := ⟨zz8, "q", "qq", 2, 3⟩
def sB : S5 := ⟨zz8, "qq", "q", 2, 3⟩
theorem wd8 : Wd zz8 := by decide +kernel
theorem sA_ok : sA.Ok := by
  refine ⟨wd8, ?_, ?_, ?_, ?_, ?_, ?_, ?_⟩ <;> decide +kernel
theorem sB_ok : sB.Ok := by
  refine ⟨wd8, ?_, ?_, ?_, ?_, ?_, ?_, ?_⟩ <;> decide +kernel
/-- both streets in the slots -/
def One (H : Hp) (σ : L2.St) : Prop := ∃ a b, σ[1]? = some (some (.ref a)) ∧ σ[2]? = some (some (.ref b)) ∧ H a = some (.tup sA.vals) ∧ H b = some (.tup sB.vals)
theorem One.keep {H H' : Hp} {σ : L2.St} (h : One H σ) (s : Same H H') : One H' σ := by
  obtain ⟨a, b, h1, h2, h3, h4⟩ := h
  exact ⟨a, b, h1, h2, s _ _ h3, s _ _ h4⟩
def tK (k : Ch) : TE := fun σ H Q => One H σ ∧ ∀ c H', Same H H' → H c = none → k.At H' c → Q (.ref c) H'
def tKs (ks : List Ch) : TA := fun σ H Q => One H σ ∧ ∀ (cs : List (Addr × Ch)) H', Same H H' → (cs.map fun t => t.2) = ks → (∀ t ∈ cs, t.2.At H' t.1) → Q (cs.map fun t => V.ref t.1) H'
def tL (ks : List Ch) : TE := fun σ H Q => One H σ ∧ ∀ l cs H', Same H H' → H l = none → ChL H' l cs → (cs.map fun t => t.2) = ks → Q (.ref l) H'
def tLs (kss : List (List Ch)) : TA := fun σ H Q => One H σ ∧ ∀ (ls : List (Addr × List (Addr × Ch))) H', Same H H' → (ls.map fun t => t.2.map fun u => u.2) = kss → (∀ t ∈ ls, ChL H' t.1 t.2) → Q (ls.map fun t => V.ref t.1) H'
def tLL (kss : List (List Ch)) : TE := fun σ H Q => One H σ ∧ ∀ L (ls : List (Addr × List (Addr × Ch))) H', Same H H' → H L = none → H' L = some (.lst (ls.map fun t => V.ref t.1)) → (ls.map fun t => t.2.map fun u => u.2) = kss → (∀ t ∈ ls, ChL H' t.1 t.2) → Q (.ref L) H'
section
variable {X : Cx} {e : Expr} {es : List Expr} {t t' : TE} {ta ta' : TA} {ks : List Ch} {kss : List (List Ch)} {k : Ch} {z : Str} {i : Int}
theorem wkE (h : PE X e t) (w : ∀ σ H Q, t' σ H Q → t σ H Q) : PE X e t' := ⟨fun pins s σ H Q I h' => h.run pins s σ H Q I (w σ H Q h')⟩
theorem wkA (h : PA X es ta) (w : ∀ σ H Q, ta' σ H Q → ta σ H Q) : PA X es ta' := ⟨fun pos pins s σ H Q I h' => h.run pos pins s σ H Q I (w σ H Q h')⟩
theorem ks0 : PA X [] (tKs []) := wkA pa_nil fun σ H Q h => h.2 [] H (Same.refl _) rfl (fun t ht => by simp at ht)
theorem ksC (he : PE X e (tK k)) (ha : PA X es (tKs ks)) (hs : starEach (e :: es) X.env = (false, eval e X.env) :: starEach es X.env := by rfl) : PA X (e :: es) (tKs (k :: ks)) := wkA (pa_cons he ha hs) fun σ H Q h =>
  ⟨h.1, fun c H1 s1 nc hk => ⟨h.1.keep s1, fun cs H2 s2 e2 h2 => h.2 ((c, k) :: cs) H2 (same_trans s1 s2) (by rw [List.map_cons, e2]) fun t ht => by
    rcases List.mem_cons.mp ht with e | m
    · rw [e]
      exact hk.keep s2
    · exact h2 t m⟩⟩
theorem ls0 : PA X [] (tLs []) := wkA pa_nil fun σ H Q h => h.2 [] H (Same.refl _) rfl (fun t ht => by simp at ht)
theorem lsC (he : PE X e (tL ks)) (ha : PA X es (tLs kss)) (hs : starEach (e :: es) X.env = (false, eval e X.env) :: starEach es X.env := by rfl) : PA X (e :: es) (tLs (ks :: kss)) := wkA (pa_cons he ha hs) fun σ H Q h =>
  ⟨h.1, fun c cs0 H1 s1 nc hk e1 => ⟨h.1.keep s1, fun cs H2 s2 e2 h2 => h.2 ((c, cs0) :: cs) H2 (same_trans s1 s2) (by rw [List.map_cons, e2, ← e1]) fun t ht => by
    rcases List.mem_cons.mp ht with e | m
    · rw [e]
      exact hk.keep s2
    · exact h2 t m⟩⟩
theorem peL (hl : ks.length ≤ 100) (h : PE X e (fun σ H Q => tKs ks σ H fun xs H1 => xs.length ≤ sizeLine ∧ ∀ l, H1 l = none → Q (.ref l) (upd H1 l (.lst xs)))) : PE X e (tL ks) := wkE h fun σ H Q g =>
  ⟨g.1, fun cs H1 s1 e1 h1 => ⟨by
    have := sizeLine_eq
    have := congrArg List.length e1
    rw [List.length_map] at this ⊢
    omega, fun l nl => by
    have s2 := same_upd (o := .lst (cs.map fun t => V.ref t.1)) nl
    exact g.2 l cs _ (same_trans s1 s2) (s1.free nl) ⟨upd_same, fun t ht => (h1 t ht).keep s2⟩ e1⟩⟩
theorem peLL (hl : kss.length ≤ 100) (h : PE X e (fun σ H Q => tLs kss σ H fun xs H1 => xs.length ≤ sizeLine ∧ ∀ l, H1 l = none → Q (.ref l) (upd H1 l (.lst xs)))) : PE X e (tLL kss) := wkE h fun σ H Q g =>
  ⟨g.1, fun cs H1 s1 e1 h1 => ⟨by
    have := sizeLine_eq
    have := congrArg List.length e1
    rw [List.length_map] at this ⊢
    omega, fun l nl => by
    have s2 := same_upd (o := .lst (cs.map fun t => V.ref t.1)) nl
    exact g.2 l cs _ (same_trans s1 s2) (s1.free nl) upd_same e1 fun t ht => (h1 t ht).keep s2⟩⟩
theorem pkA (h : PE X e (tTup (tCons (tC (.str "put")) (tCons (tVar 1) tNil)))) : PE X e (tK (.put sA)) := wkE h fun σ H Q ⟨⟨a, b, h1, h2, h3, h4⟩, g⟩ => ⟨_, h1, (by show 2 ≤ sizeLine; rw [sizeLine_eq]; omega), fun c nc => by
  have s := same_upd (o := .tup [V.str "put", V.ref a]) nc
  exact g c _ s nc ⟨a, upd_same, s _ _ h3⟩⟩
theorem pkB (h : PE X e (tTup (tCons (tC (.str "put")) (tCons (tVar 2) tNil)))) : PE X e (tK (.put sB)) := wkE h fun σ H Q ⟨⟨a, b, h1, h2, h3, h4⟩, g⟩ => ⟨_, h2, (by show 2 ≤ sizeLine; rw [sizeLine_eq]; omega), fun c nc => by
  have s := same_upd (o := .tup [V.str "put", V.ref b]) nc
  exact g c _ s nc ⟨b, upd_same, s _ _ h4⟩⟩
theorem pkO (h : PE X e (tTup (tCons (tC (.str "out")) (tCons (tC (.str z)) tNil)))) : PE X e (tK (.out z)) := wkE h fun σ H Q ⟨_, g⟩ => ⟨(by show 2 ≤ sizeLine; rw [sizeLine_eq]; omega), fun c nc => g c _ (same_upd nc) nc upd_same⟩
theorem pkT (h : PE X e (tTup (tCons (tC (.str "turn")) (tCons (tC (.str z)) tNil)))) : PE X e (tK (.ck (.t z))) := wkE h fun σ H Q ⟨_, g⟩ => ⟨(by show 2 ≤ sizeLine; rw [sizeLine_eq]; omega), fun c nc => g c _ (same_upd nc) nc upd_same⟩
theorem pkW (h : PE X e (tTup (tCons (tC (.str "width")) (tCons (tC (.str z)) (tCons (tC (.int i)) tNil))))) : PE X e (tK (.ck (.w z i))) := wkE h fun σ H Q ⟨_, g⟩ => ⟨(by show 3 ≤ sizeLine; rw [sizeLine_eq]; omega), fun c nc => g c _ (same_upd nc) nc upd_same⟩
theorem pkL (h : PE X e (tTup (tCons (tC (.str "length")) (tCons (tC (.str z)) (tCons (tC (.int i)) tNil))))) : PE X e (tK (.ck (.l z i))) := wkE h fun σ H Q ⟨_, g⟩ => ⟨(by show 3 ≤ sizeLine; rw [sizeLine_eq]; omega), fun c nc => g c _ (same_upd nc) nc upd_same⟩
end
abbrev NMl : List Str := ["_law_world_here", "_law_one", "_law_other", "_law_found"]
theorem scMl : FnScope NMl ["_law_world_here"] (defScope sMadeLists) := ⟨rfl, rfl, rfl, by decide +kernel, rfl, by decide +kernel, by decide +kernel⟩
def mk1 : List (List Ch) := [[.put sA, .put sA], [.put sA, .put sB], [.put sA, .ck (.t zz8), .put sB], [.put sA, .ck (.t zz8)]]
def mk2 : List (List Ch) := [[.put sA, .out zz8, .out zz8], [.out zz8], [.ck (.t zz8)], [.ck (.w zz8 2)]]
def mk3 : List (List Ch) := [[.put sA, .ck (.w zz8 2)], [.put sA, .ck (.l zz8 3)], [.put sA, .ck (.w zz8 0), .ck (.l zz8 0)]]
def mk4 : List (List Ch) := [[.put sA, .ck (.t zz8), .ck (.t zz8), .out zz8], [.put sA, .ck (.w zz8 9), .ck (.w zz8 9)], []]
def mkAll : List (List Ch) := mk1 ++ mk2 ++ mk3 ++ mk4
section
variable {P : Program} {w : World} {K : PySem.W.Frag} {mg : Str → Option Value} {base : Heap}
def spMade : Sp := fun vs H Q _ => ∃ v, vs = [v] ∧ ∀ L (ls : List (Addr × List (Addr × Ch))) H', Same H H' → H L = none → H' L = some (.lst (ls.map fun t => V.ref t.1)) → (ls.map fun t => t.2.map fun u => u.2) = mkAll → (∀ t ∈ ls, ChL H' t.1 t.2) → Q (.ref L) H'
theorem ok_made {f : Addr} {fd : FuncData} (F : FnP K "_law_made_lists" sMadeLists f fd) : FnOk P w K mg base CX0 1 f fd ["_law_world_here"] spMade := by
  refine F.ok scMl (fun vs H Q E h => ?_) (fun cdv A outer s H vs Q E hr h => ?_)
  · obtain ⟨_, rfl, _⟩ := h
    rfl
  · obtain ⟨v, rfl, q⟩ := h
    have sl := sizeLine_eq
    refine ⟨_, PSs.nox (pss_cons (ps_asg (pe_tup (pa_cons (pe_tup (pa_cons pe_str (pa_cons pe_str (pa_cons pe_str (pa_cons pe_int (pa_cons pe_int pa_nil)))))) (pa_cons (pe_tup (pa_cons pe_str (pa_cons pe_str (pa_cons pe_str (pa_cons pe_int (pa_cons pe_int pa_nil)))))) pa_nil))) (pg_tup rfl (pgs_cons (pg_name (i := 1) scMl.nd rfl (Or.inl rfl)) (pgs_cons (pg_name (i := 2) scMl.nd rfl (Or.inl rfl)) pgs_nil))))
      (pss_cons (ps_set (i := 3) scMl.nd rfl (Or.inl rfl) (peLL (kss := mk1) (by decide) (pe_lst
          (lsC (peL (by decide) (pe_lst (ksC (pkA (pe_tup (pa_cons pe_str (pa_cons (pv 1) pa_nil)))) (ksC (pkA (pe_tup (pa_cons pe_str (pa_cons (pv 1) pa_nil)))) ks0))))
          (lsC (peL (by decide) (pe_lst (ksC (pkA (pe_tup (pa_cons pe_str (pa_cons (pv 1) pa_nil)))) (ksC (pkB (pe_tup (pa_cons pe_str (pa_cons (pv 2) pa_nil)))) ks0))))
          (lsC (peL (by decide) (pe_lst (ksC (pkA (pe_tup (pa_cons pe_str (pa_cons (pv 1) pa_nil)))) (ksC (pkT (z := zz8) (pe_tup (pa_cons pe_str (pa_cons pe_str pa_nil)))) (ksC (pkB (pe_tup (pa_cons pe_str (pa_cons (pv 2) pa_nil)))) ks0)))))
          (lsC (peL (by decide) (pe_lst (ksC (pkA (pe_tup (pa_cons pe_str (pa_cons (pv 1) pa_nil)))) (ksC (pkT (z := zz8) (pe_tup (pa_cons pe_str (pa_cons pe_str pa_nil)))) ks0)))) ls0)))))))
      (pss_cons (ps_set (i := 3) scMl.nd rfl (Or.inl rfl) (pe_op op_cat (pv 3) (peLL (kss := mk2) (by decide) (pe_lst
          (lsC (peL (by decide) (pe_lst (ksC (pkA (pe_tup (pa_cons pe_str (pa_cons (pv 1) pa_nil)))) (ksC (pkO (z := zz8) (pe_tup (pa_cons pe_str (pa_cons pe_str pa_nil)))) (ksC (pkO (z := zz8) (pe_tup (pa_cons pe_str (pa_cons pe_str pa_nil)))) ks0)))))
          (lsC (peL (by decide) (pe_lst (ksC (pkO (z := zz8) (pe_tup (pa_cons pe_str (pa_cons pe_str pa_nil)))) ks0)))
          (lsC (peL (by decide) (pe_lst (ksC (pkT (z := zz8) (pe_tup (pa_cons pe_str (pa_cons pe_str pa_nil)))) ks0)))
          (lsC (peL (by decide) (pe_lst (ksC (pkW (z := zz8) (pe_tup (pa_cons pe_str (pa_cons pe_str (pa_cons pe_int pa_nil))))) ks0))) ls0))))))))
      (pss_cons (ps_set (i := 3) scMl.nd rfl (Or.inl rfl) (pe_op op_cat (pv 3) (peLL (kss := mk3) (by decide) (pe_lst
          (lsC (peL (by decide) (pe_lst (ksC (pkA (pe_tup (pa_cons pe_str (pa_cons (pv 1) pa_nil)))) (ksC (pkW (z := zz8) (pe_tup (pa_cons pe_str (pa_cons pe_str (pa_cons pe_int pa_nil))))) ks0))))
          (lsC (peL (by decide) (pe_lst (ksC (pkA (pe_tup (pa_cons pe_str (pa_cons (pv 1) pa_nil)))) (ksC (pkL (z := zz8) (pe_tup (pa_cons pe_str (pa_cons pe_str (pa_cons pe_int pa_nil))))) ks0))))
          (lsC (peL (by decide) (pe_lst (ksC (pkA (pe_tup (pa_cons pe_str (pa_cons (pv 1) pa_nil)))) (ksC (pkW (z := zz8) (pe_tup (pa_cons pe_str (pa_cons pe_str (pa_cons pe_int pa_nil))))) (ksC (pkL (z := zz8) (pe_tup (pa_cons pe_str (pa_cons pe_str (pa_cons pe_int pa_nil))))) ks0))))) ls0)))))))
      (pss_one (ps_ret (pe_op op_cat (pv 3) (peLL (kss := mk4) (by decide) (pe_lst
          (lsC (peL (by decide) (pe_lst (ksC (pkA (pe_tup (pa_cons pe_str (pa_cons (pv 1) pa_nil)))) (ksC (pkT (z := zz8) (pe_tup (pa_cons pe_str (pa_cons pe_str pa_nil)))) (ksC (pkT (z := zz8) (pe_tup (pa_cons pe_str (pa_cons pe_str pa_nil)))) (ksC (pkO (z := zz8) (pe_tup (pa_cons pe_str (pa_cons pe_str pa_nil)))) ks0))))))
          (lsC (peL (by decide) (pe_lst (ksC (pkA (pe_tup (pa_cons pe_str (pa_cons (pv 1) pa_nil)))) (ksC (pkW (z := zz8) (pe_tup (pa_cons pe_str (pa_cons pe_str (pa_cons pe_int pa_nil))))) (ksC (pkW (z := zz8) (pe_tup (pa_cons pe_str (pa_cons pe_str (pa_cons pe_int pa_nil))))) ks0)))))
          (lsC (peL (by decide) (pe_lst ks0)) ls0)))))))))))), ?_⟩
    have five : 5 ≤ sizeLine := by omega
    refine ⟨five, fun a na => ?_⟩
    have sa := same_upd (o := .tup [V.str "zzzzzzzz", V.str "q", V.str "qq", V.int 2, V.int 3]) na
    have ha : upd H a (.tup [V.str "zzzzzzzz", V.str "q", V.str "qq", V.int 2, V.int 3]) a = some (.tup sA.vals) := upd_same
    generalize upd H a (.tup [V.str "zzzzzzzz", V.str "q", V.str "qq", V.int 2, V.int 3]) = Ha at sa ha ⊢
    refine ⟨five, fun b nb => ?_⟩
    have sb := same_upd (o := .tup [V.str "zzzzzzzz", V.str "qq", V.str "q", V.int 2, V.int 3]) nb
    have hb : upd Ha b (.tup [V.str "zzzzzzzz", V.str "qq", V.str "q", V.int 2, V.int 3]) b = some (.tup sB.vals) := upd_same
    generalize upd Ha b (.tup [V.str "zzzzzzzz", V.str "qq", V.str "q", V.int 2, V.int 3]) = Hb at sb hb ⊢
    refine ⟨(by show 2 ≤ sizeLine; omega), fun t nt => ?_⟩
    have st := same_upd (o := .tup [V.ref a, V.ref b]) nt
    have ht : upd Hb t (.tup [V.ref a, V.ref b]) t = some (.tup [V.ref a, V.ref b]) := upd_same
    generalize upd Hb t (.tup [V.ref a, V.ref b]) = H0 at st ht ⊢
    have s0 := same_trans sa (same_trans sb st)
    refine ⟨t, _, rfl, SqT.of ht, rfl, _, _, rfl, _, _, rfl, rfl, ?_⟩
    have o0 : ∀ σ : L2.St, σ[1]? = some (some (.ref a)) → σ[2]? = some (some (.ref b)) → One H0 σ := fun σ h1 h2 => ⟨a, b, h1, h2, st _ _ (sb _ _ ha), st _ _ hb⟩
    have app : ∀ {A B : List (Addr × List (Addr × Ch))} {x y : List (List Ch)}, (A.map fun t => t.2.map fun u => u.2) = x → (B.map fun t => t.2.map fun u => u.2) = y → ((A ++ B).map fun t => t.2.map fun u => u.2) = x ++ y := fun h1 h2 => by rw [List.map_append, h1, h2]
    have len : ∀ {A : List (Addr × List (Addr × Ch))} {x : List (List Ch)}, (A.map fun t => t.2.map fun u => u.2) = x → A.length = x.length := fun h => by rw [← h, List.length_map]
    refine ⟨o0 _ rfl rfl, fun L1 l1 H1 s1 n1 h1 e1 c1 => ?_⟩
    refine ⟨_, rfl, (o0 _ rfl rfl).keep s1, fun L2 l2 H2 s2 n2 h2 e2 c2 => ?_⟩
    have z1 := len e1
    have z2 := len e2
    refine ⟨L1, L2, _, _, rfl, rfl, s2 _ _ h1, h2, by rw [List.length_map, List.length_map, z1, z2]; show 4 + 4 ≤ _; omega, fun N1 m1 => ?_⟩
    have s3 := same_upd (o := .lst ((l1.map fun t => V.ref t.1) ++ l2.map fun t => V.ref t.1)) m1
    have h3 : upd H2 N1 (.lst ((l1.map fun t => V.ref t.1) ++ l2.map fun t => V.ref t.1)) N1 = some (.lst ((l1 ++ l2).map fun t => V.ref t.1)) := by rw [upd_same, List.map_append]
    generalize upd H2 N1 (.lst ((l1.map fun t => V.ref t.1) ++ l2.map fun t => V.ref t.1)) = H3 at s3 h3 ⊢
    have s23 := same_trans s2 s3
    have c3 : ∀ t ∈ l1 ++ l2, ChL H3 t.1 t.2 := fun t ht => by
      rcases List.mem_append.mp ht with h | h
      · exact (c1 t h).keep s23
      · exact (c2 t h).keep s3
    have e3 := app e1 e2
    refine ⟨_, rfl, (o0 _ rfl rfl).keep (same_trans s1 s23), fun L4 l4 H4 s4 n4 h4 e4 c4 => ?_⟩
    have z3 := len e3
    have z4 := len e4
    refine ⟨N1, L4, _, _, rfl, rfl, s4 _ _ h3, h4, by rw [List.length_map, List.length_map, z3, z4]; show 8 + 3 ≤ _; omega, fun N2 m2 => ?_⟩
    have s5 := same_upd (o := .lst (((l1 ++ l2).map fun t => V.ref t.1) ++ l4.map fun t => V.ref t.1)) m2
    have h5 : upd H4 N2 (.lst (((l1 ++ l2).map fun t => V.ref t.1) ++ l4.map fun t => V.ref t.1)) N2 = some (.lst ((l1 ++ l2 ++ l4).map fun t => V.ref t.1)) := by rw [upd_same, List.map_append (l₁ := l1 ++ l2)]
    generalize upd H4 N2 (.lst (((l1 ++ l2).map fun t => V.ref t.1) ++ l4.map fun t => V.ref t.1)) = H5 at s5 h5 ⊢
    have s45 := same_trans s4 s5
    have c5 : ∀ t ∈ l1 ++ l2 ++ l4, ChL H5 t.1 t.2 := fun t ht => by
      rcases List.mem_append.mp ht with h | h
      · exact (c3 t h).keep s45
      · exact (c4 t h).keep s5
    have e5 := app e3 e4
    refine ⟨_, rfl, (o0 _ rfl rfl).keep (same_trans s1 (same_trans s23 s45)), fun L6 l6 H6 s6 n6 h6 e6 c6 => ?_⟩
    have z5 := len e5
    have z6 := len e6
    refine ⟨N2, L6, _, _, rfl, rfl, s6 _ _ h5, h6, by rw [List.length_map, List.length_map, z5, z6]; show 11 + 3 ≤ _; omega, fun N3 m3 => ?_⟩
    have s7 := same_upd (o := .lst (((l1 ++ l2 ++ l4).map fun t => V.ref t.1) ++ l6.map fun t => V.ref t.1)) m3
    have s67 := same_trans s6 s7
    have sf := same_trans s0 (same_trans s1 (same_trans s23 (same_trans s45 s6)))
    refine q N3 (l1 ++ l2 ++ l4 ++ l6) _ (same_trans sf s7) (sf.free m3) (by rw [upd_same, List.map_append (l₁ := l1 ++ l2 ++ l4)]) (app e5 e6) fun t ht => ?_
    rcases List.mem_append.mp ht with h | h
    · exact (c5 t h).keep s67
    · exact (c6 t h).keep s7
end
end K4
end
section
set_option Elab.async false
set_option linter.all false
set_option maxRecDepth 100000
set_option maxHeartbeats 4000000
namespace K4
open PySem PySem.Spec PyProof.Rows L2
/-- [x for x in ws if x not in bs] -/
theorem lc_notin {K : PySem.W.Frag} {J : It} {G : Hp → Prop} {ws bs : List Str} (wk : Walk J ws.length G (YAt (ws.map V.str))) {σ : L2.St} {i f : Nat} {F D : Addr} {H1 : Hp} {Qd : Hp → Prop} (nD : H1 D = none) (hG : ∀ H', Same H1 H' → G H')
    (hF : Ws H1 F bs) (hl : ws.length ≤ 1000) (hi : ∀ v, ((wipe σ [i]).set i (some v))[i]? = some (some v)) (hf : ∀ v, ((wipe σ [i]).set i (some v))[f]? = some (some (.ref F))) (hw : ∀ v, wipe ((wipe σ [i]).set i (some v)) [i] = wipe σ [i])
    (fin : ∀ H', Same H1 H' → Ws H' D (ws.filter fun x => decide (x ∉ bs)) → Qd H') :
    ∃ W : Nat → Nat → Hp → Prop, (∃ m, W 0 m (upd H1 D (.lst []))) ∧ ∀ n m H, W n m H →
      (J.stop n H ∧ Qd H) ∨ (J.go n H ∧ ∃ Nx : Hp → Prop, (∀ H', Nx H' → ∃ m', m' < m ∧ W (n + 1) m' H') ∧ ∀ x H', J.yld n H x H' → gName i x (wipe σ [i]) H' fun σ2 H2 => wipe σ2 [i] = wipe σ [i] ∧ tTest (tOp (rIn K true) (tVar i) (tVar f)) σ2 H2 fun b H3 =>
        if b = true then tVar i σ2 H3 fun y H4 => ∃ acc, H4 D = some (.lst acc) ∧ acc.length < sizeLine ∧ Nx (upd H4 D (.lst (acc ++ [y]))) else Nx H3) := by
  have sl := sizeLine_eq
  refine lc_it wk (fun n H' => Same H1 H' ∧ H' D = some (.lst (((ws.take n).filter fun x => decide (x ∉ bs)).map V.str))) ⟨same_upd nD, upd_same⟩ (fun n H' _ h => hG H' h.1) ?_ ?_
  · rintro n x H' H2 hn ⟨s1, hD⟩ ⟨rfl, hx⟩
    obtain ⟨c, hc, rfl⟩ := at_map hx
    have et : ws.take (n + 1) = ws.take n ++ [c] := by
      rw [List.take_add_one, hc]
      rfl
    have ll : ((ws.take n).filter fun x => decide (x ∉ bs)).length ≤ n := Nat.le_trans (List.length_filter_le _ _) (by rw [List.length_take]; omega)
    refine ⟨hw _, _, hi _, _, hf _, F, bs.map V.str, rfl, Or.inl (SqL.of (s1 _ _ hF)), rfl, flat_strs bs, _, rfl, ?_⟩
    rw [inV_str]
    by_cases hb : c ∈ bs
    · refine ifF (by simpa using hb) ⟨s1, ?_⟩
      rw [et, List.filter_append]
      simp [hD, hb]
    · refine ifT (by simpa using hb) ⟨_, hi _, _, hD, by rw [List.length_map]; omega, fun b o eb => ?_, ?_⟩
      · rw [upd_ne (ne_of_none eb nD)]
        exact s1 _ _ eb
      · rw [upd_same, et, List.filter_append]
        simp [hb]
  · rintro H' ⟨s1, hD⟩
    rw [List.take_length] at hD
    exact fin H' s1 hD
theorem ends_take {ss : List S5} {i : Nat} {t : S5} (h : ss[i]? = some t) (x : Str) : x ∈ ends (ss.take (i + 1)) ↔ x ∈ ends (ss.take i) ∨ x = t.st ∨ x = t.en := by
  have et : ss.take (i + 1) = ss.take i ++ [t] := by
    rw [List.take_add_one, h]
    rfl
  rw [et]
  unfold ends
  simp only [List.map_append, List.mem_append, List.map_cons, List.map_nil, List.mem_singleton]
  constructor
  · rintro ((h | h) | (h | h))
    · exact .inl (.inl h)
    · exact .inr (.inl h)
    · exact .inl (.inr h)
    · exact .inr (.inr h)
  · rintro ((h | h) | (h | h))
    · exact .inl (.inl h)
    · exact .inr (.inl h)
    · exact .inl (.inr h)
    · exact .inr (.inr h)
theorem add_two {fs : List Str} {a b : Str} (nd : fs.Nodup) (ne : a ≠ b) : (fs ++ [a, b].filter fun x => decide (x ∉ fs)).Nodup ∧ ∀ x, x ∈ fs ++ [a, b].filter (fun x => decide (x ∉ fs)) ↔ x ∈ fs ∨ x = a ∨ x = b := by
  refine ⟨List.nodup_append.mpr ⟨nd, (by simp [ne] : [a, b].Nodup).sublist List.filter_sublist, fun x hx y hy e => ?_⟩, fun x => ?_⟩
  · subst e
    have := (List.mem_filter.mp hy).2
    exact of_decide_eq_true this hx
  · rw [List.mem_append, List.mem_filter]
    constructor
    · rintro (h | ⟨h, _⟩)
      · exact .inl h
      · refine .inr ?_
        simpa using h
    · intro h
      by_cases hx : x ∈ fs
      · exact .inl hx
      · refine .inr ⟨?_, decide_eq_true hx⟩
        rcases h with h | h
        · exact absurd h hx
        · simpa using h
theorem told_sorted {us fs ks : List Str} (p : us.Perm fs) (s : sortedS us = true) (nd : fs.Nodup) (m : ∀ x, x ∈ fs ↔ x ∈ ks) : Told us ks := ⟨asc_of_sortedS s, p.nodup_iff.mpr nd, fun x => by rw [p.mem_iff, m]⟩
theorem len_ends {fs gs : List Str} {ss : List S5} (nd : fs.Nodup) (m : ∀ x, x ∈ fs ↔ x ∈ gs ∨ x ∈ ends ss) : fs.length ≤ gs.length + 2 * ss.length := by
  have h := len_le_of_sub fs (gs ++ ends ss) nd fun x hx => List.mem_append.mpr ((m x).mp hx)
  rw [List.length_append, ends_len] at h
  exact h
theorem cut13 (t : S5) : cutV t.vals (some ((1 : Nat) : Int)) (some ((3 : Nat) : Int)) = [V.str t.st, V.str t.en] := rfl

/-- the law's own run of changes -/
def lrun : List S5 → List (Addr × Ch) → Addr ⊕ List S5
  | ss, [] => .inr ss
  | ss, t :: r => match lstep ss t.2 with
    | none => .inl t.1
    | some ss' => lrun ss' r
theorem lstep_perm {ss us r : List S5} {k : Ch} (so : SOk ss) (p : us.Perm ss) (h : lstep ss k = some r) : ∃ r', stepS us k = some r' ∧ r'.Perm r := by
  rcases lstep_step (k := k) so with ⟨h0, _⟩ | ⟨r1, r2, h1, h2, q⟩
  · rw [h] at h0
    cases h0
  · rw [h] at h1
    cases h1
    rcases step_perm (k := k) so p with ⟨_, h0⟩ | ⟨u1, u2, g1, g2, q2⟩
    · rw [h2] at h0
      cases h0
    · rw [h2] at g2
      cases g2
      exact ⟨u1, g1, q2.trans q.symm⟩
/-- both runs tell the same -/
theorem lrun_run : ∀ (ks : List (Addr × Ch)) (ss us : List S5), SOk ss → us.Perm ss → (∀ t ∈ ks, t.2.Ok) → ss.length + ks.length ≤ 60 →
    (∃ a, lrun ss ks = .inl a ∧ runS us ks = .inl a) ∨ ∃ r r', lrun ss ks = .inr r ∧ runS us ks = .inr r' ∧ r'.Perm r ∧ SOk r
  | [], ss, us, so, p, _, _ => .inr ⟨ss, us, rfl, rfl, p, so⟩
  | t :: ks, ss, us, so, p, ok, len => by
    have len' : ss.length + (ks.length + 1) ≤ 60 := len
    cases e : lstep ss t.2 with
    | none =>
      refine .inl ⟨t.1, by simp only [lrun, e], ?_⟩
      have : stepS us t.2 = none := by
        rcases step_perm (k := t.2) so p with ⟨h0, _⟩ | ⟨u1, u2, g1, g2, q2⟩
        · exact h0
        · rcases lstep_step (k := t.2) so with ⟨_, h0⟩ | ⟨r1, r2, h1, h2, q⟩
          · rw [g2] at h0
            cases h0
          · rw [e] at h1
            cases h1
      simp only [runS, this]
    | some r =>
      obtain ⟨r', h1, q⟩ := lstep_perm so p e
      obtain ⟨so', le⟩ := lstep_ok so (by omega) (ok t List.mem_cons_self) e
      have ih := lrun_run ks r r' so' q (fun u hu => ok u (List.mem_cons_of_mem _ hu)) (by omega)
      simp only [lrun, runS, e, h1]
      exact ih
section
variable {P : Program} {w : World} {K : PySem.W.Frag} {mg : Str → Option Value} {base : Heap}
def spDue : Sp := fun vs H Q _ => ∃ (l g cl : Addr) (ts : List (Addr × S5)) (gs : List Str) (ks : List (Addr × Ch)), vs = [.ref l, .ref g, .ref cl] ∧ Sts H l ts ∧ SOk (snds ts) ∧ Ws H g gs ∧ GOk gs ∧ ChL H cl ks ∧ (∀ t ∈ ks, t.2.Ok) ∧ gs.length + 2 * (ts.length + ks.length) ≤ 63 ∧
  (∀ a, lrun (snds ts) ks = .inl a → ∀ t H', Same H H' → H t = none → Rep H' t "change" (.ref a) → Q (.ref t) H') ∧ ∀ ss t H', lrun (snds ts) ks = .inr ss → Same H H' → H t = none → MdR H' t ss gs → Q (.ref t) H'
abbrev NDu : List Str := ["_law_streets", "_law_gates", "_law_changes", "_law_change_here", "_law_found", "_law_street", "_law_word_here"]
theorem scDu : FnScope NDu ["_law_streets", "_law_gates", "_law_changes"] (defScope sDue) := ⟨rfl, rfl, rfl, by decide +kernel, rfl, by decide +kernel, by decide +kernel⟩
theorem ok_due {f : Addr} {fd : FuncData} (F : FnP K "_law_due" sDue f fd) (GS : Fz P w K mg base "_law_stepped" 1 ["_law_streets", "_law_change_here"] spStep) (T : Tx K mg) : FnOk P w K mg base CX0 2 f fd ["_law_streets", "_law_gates", "_law_changes"] spDue := by
  refine F.ok scDu (fun vs H Q E h => ?_) (fun cdv A outer s H vs Q E hr h => ?_)
  · obtain ⟨_, _, _, _, _, _, rfl, _⟩ := h
    rfl
  · obtain ⟨l, g, cl, ts, gs, ks, rfl, hl, so, hg, go, hc, ok, h63, z0, z⟩ := h
    have gLi := T.fr "list" (by decide +kernel)
    have gSo := T.fr "sorted" (by decide +kernel)
    have sl := sizeLine_eq
    refine ⟨_, PSs.nox (pss_cons (ps_for PassesOwn.never rfl (pi_list (pv 2)) (pg_name (i := 3) scDu.nd rfl (Or.inl rfl))
        (pss_cons (ps_set (i := 0) scDu.nd rfl (Or.inl rfl) (pe_fz GS hr (by rfl) (pa_cons (pv 0) (pa_cons (pv 3) pa_nil))))
        (pss_one (ps_if (pt_cmpR op_isN (pv 0) pe_non (nomark _)) (pss_one (ps_ret (pe_tup (pa_cons pe_str (pa_cons (pv 3) (pa_cons pe_bl (pa_cons pe_bl pa_nil))))))) pss_nil))))
      (pss_cons (ps_set (i := 4) scDu.nd rfl (Or.inr rfl) (pe_callTy call_list_of (by rfl) gLi (by decide +kernel) (pa_cons (pv 1) pa_nil)))
      (pss_cons (ps_for PassesOwn.never rfl (pi_list (pv 0)) (pg_name (i := 5) scDu.nd rfl (Or.inl rfl))
        (pss_one (ps_set (i := 4) scDu.nd rfl (Or.inr rfl) (pe_op op_cat (pv 4)
          (pe_lc (own := [("_law_word_here", 6)]) (g := gName 6) (tt := tTest (tOp (rIn K true) (tVar 6) (tVar 4))) rfl scDu.nd (pi_tup (pe_slice sl_tup (pv 5) (po_some pe_int) (po_some pe_int))) (blkOk_by (own := [("_law_word_here", 6)]) (N := NDu) (sc := defScope sDue) (by decide +kernel))
            (fun _ _ _ _ _ => pg_name (i := 6) scDu.nd rfl (Or.inl rfl)) (fun _ _ _ _ _ => pts_one (pt_cmpR op_notIn_seq (pv 6) (pv 4) rfl)) (fun _ _ _ _ _ => pv 6))))))
      (pss_one (ps_ret (pe_tup (pa_cons pe_str (pa_cons (pe_lst (pa_cons (pe_callB cr_sortedTx (by rfl) gSo (by decide +kernel) (pa_cons (pv 0) pa_nil)) (pa_cons (pe_callB cr_sortedS (by rfl) gSo (by decide +kernel) (pa_cons (pv 1) pa_nil)) (pa_cons (pe_callB cr_sortedS (by rfl) gSo (by decide +kernel) (pa_cons (pv 4) pa_nil)) pa_nil)))) pa_nil)))))))), ?_⟩
    refine ⟨_, rfl, cl, rfl, ⟨_, SqL.of hc.at_⟩, ?_⟩
    refine for_list (K := K) (a := cl) (xs := ks.map fun t => V.ref t.1) (fun j σ H' => ∃ l' ts' o3, σ = [some (.ref l'), some (.ref g), some (.ref cl), o3, none, none, none] ∧ Same H H' ∧ Sts H' l' ts' ∧ SOk (snds ts') ∧ lrun (snds ts) ks = lrun (snds ts') (ks.drop j) ∧ ts'.length ≤ ts.length + j)
      ⟨l, ts, none, rfl, Same.refl _, hl, so, rfl, Nat.le_refl _⟩ (fun j σ H' _ ⟨_, _, _, _, s1, _⟩ => SqL.of (s1 _ _ hc.at_)) ?_ ?_
    · rintro j x σ H' hj ⟨l', ts', o3, rfl, s1, hl', so', er, le⟩
      obtain ⟨t, ht, rfl⟩ := at_map hj
      have tm := List.mem_of_getElem? ht
      have lt := (List.getElem?_eq_some_iff.mp ht).1
      have ed : ks.drop j = t :: ks.drop (j + 1) := by
        rw [List.drop_eq_getElem_cons lt]
        rw [List.getElem?_eq_getElem lt] at ht
        cases ht
        rfl
      rw [ed] at er
      refine ⟨_, rfl, _, rfl, l', t.1, ts', t.2, rfl, hl', so', (hc.keep s1).each t tm, ok t tm, fun hn H2 s2 => ?_, fun ss D us H2 hs s2 nD hD e => ?_⟩
      · refine ⟨_, rfl, rfl, _, rfl, ifT rfl ⟨_, rfl, (by show 4 ≤ sizeLine; omega), fun p np => ?_⟩⟩
        have s12 := same_trans s1 s2
        exact z0 t.1 (by rw [er]; simp only [lrun, hn]) p _ (same_trans s12 (same_upd np)) (s12.free np) upd_same
      · refine ⟨_, rfl, rfl, _, rfl, ifF (by rw [decide_eq_false (fun e => by cases e)]; decide) ⟨D, us, _, rfl, same_trans s1 s2, hD, ?_, ?_, ?_⟩⟩
        · rw [e]
          exact (lstep_ok so' (by rw [snds_len]; omega) (ok t tm) hs).1
        · rw [er, e]
          simp only [lrun, hs]
        · have h1 := (lstep_ok so' (by rw [snds_len]; omega) (ok t tm) hs).2
          rw [snds_len, ← e, snds_len] at h1
          omega
    · rintro σ H' ⟨l', ts', o3, rfl, s1, hl', so', er, le⟩
      rw [List.length_map, List.drop_length] at er
      rw [List.length_map] at le
      have hg1 : Ws H' g gs := s1 _ _ hg
      refine ⟨_, rfl, g, _, rfl, Or.inl (SqL.of hg1), fun F1 nF1 => ?_⟩
      refine ⟨_, rfl, l', rfl, ⟨_, SqL.of ((same_upd nF1) _ _ hl'.1)⟩, ?_⟩
      have lks := le
      have go60 := go.l
      have hne : ∀ t ∈ ts', t.2.st ≠ t.2.en := fun t ht => (so'.ok t.2 (List.mem_map.mpr ⟨t, ht, rfl⟩)).2.2.2.1
      refine for_list (K := K) (a := l') (xs := ts'.map fun t => V.ref t.1) (fun i σ H2 => Same H' H2 ∧ ∃ (o3 : Option V) (o5 : Option V) (o6 : Option V) (F : Addr) (fs : List Str), σ = [some (.ref l'), some (.ref g), some (.ref cl), o3, some (.ref F), o5, o6] ∧ H' F = none ∧ Ws H2 F fs ∧ fs.Nodup ∧ ∀ x, x ∈ fs ↔ x ∈ gs ∨ x ∈ ends ((snds ts').take i))
        ⟨same_upd nF1, _, _, _, F1, gs, rfl, nF1, upd_same, go.nd, fun x => by simp [ends]⟩ (fun i σ H2 _ h => SqL.of (h.1 _ _ hl'.1)) ?_ ?_
      · rintro i x σ H2 hi ⟨s2, o3, o5, o6, F, fs, rfl, nF, hF, nd, m⟩
        obtain ⟨t, ht, rfl⟩ := at_map hi
        have tm := List.mem_of_getElem? ht
        have lt := (List.getElem?_eq_some_iff.mp ht).1
        have ht2 : (snds ts')[i]? = some t.2 := by
          rw [List.getElem?_map, ht]
          rfl
        have fl := len_ends nd m
        have fl2 : ((snds ts').take i).length ≤ ts'.length := by
          rw [List.length_take, List.length_map]
          omega
        refine ⟨_, rfl, _, rfl, _, rfl, _, rfl, t.1, _, rfl, SqT.of (s2 _ _ (hl'.2 t tm)), ?_, fun S nS => ?_⟩
        · intro z
          exact absurd z.1 (by show ¬ HT.sIx 5 0 (some 1) = 0; decide)
        · have e := cut13 t.2
          have e' : cutV t.2.vals (some 1) (some 3) = [V.str t.2.st, V.str t.2.en] := e
          rw [e']
          have s3 := same_upd (o := .tup [V.str t.2.st, V.str t.2.en]) nS
          have hS : upd H2 S (.tup [V.str t.2.st, V.str t.2.en]) S = some (.tup ([t.2.st, t.2.en].map V.str)) := upd_same
          generalize upd H2 S (.tup [V.str t.2.st, V.str t.2.en]) = H3 at s3 hS ⊢
          refine ⟨S, rfl, ⟨_, SqT.of hS⟩, fun D nD => ?_⟩
          refine lc_notin (K := K) (i := 6) (f := 4) (F := F) (bs := fs) (ws := [t.2.st, t.2.en]) (walk_tup (K := K) (a := S) (xs := [t.2.st, t.2.en].map V.str)) nD (fun H4 s4 => SqT.of (s4 _ _ hS)) (s3 _ _ hF) (by show 2 ≤ 1000; decide) (fun v => rfl) (fun v => rfl) (fun v => rfl) fun H4 s4 hD => ?_
          obtain ⟨nd2, m2⟩ := add_two (a := t.2.st) (b := t.2.en) nd (hne t tm)
          refine ⟨F, D, _, _, rfl, rfl, s4 _ _ (s3 _ _ hF), hD, ?_, fun p np => ?_⟩
          · rw [List.length_map, List.length_map]
            have := List.length_filter_le (fun x => decide (x ∉ fs)) [t.2.st, t.2.en]
            simp only [List.length_cons, List.length_nil] at this
            omega
          · rw [← List.map_append]
            have s14 := same_trans s2 (same_trans s3 s4)
            refine ⟨same_trans s14 (same_upd np), _, _, _, p, _, rfl, s14.free np, upd_same, nd2, fun x => ?_⟩
            rw [m2, m, ends_take ht2]
            constructor
            · rintro ((h | h) | h)
              · exact .inl h
              · exact .inr (.inl h)
              · exact .inr (.inr h)
            · rintro (h | (h | h))
              · exact .inl (.inl h)
              · exact .inl (.inr h)
              · exact .inr h
      · rintro σ H2 ⟨s2, o3, o5, o6, F, fs, rfl, nF, hF, nd, m⟩
        rw [List.take_of_length_le (by rw [List.length_map, List.length_map]; exact Nat.le_refl _)] at m
        have fl := len_ends nd m
        rw [List.length_map] at fl
        have hl2 := hl'.keep s2
        refine ⟨_, rfl, _, _, nameAt H2, rfl, SqL.of hl2.1, sort_a hl2, sort_b hl2 so'.nd, fun ys E1 pm pw nE1 => ?_⟩
        obtain ⟨t2, pt2, as2, rfl⟩ := sort_c hl2 pm pw
        have s3 := same_upd (o := .lst (t2.map fun t => V.ref t.1)) nE1
        have hE1 : Sts (upd H2 E1 (.lst (t2.map fun t => V.ref t.1))) E1 t2 := ⟨upd_same, fun t ht => s3 _ _ (hl2.2 t (pt2.mem_iff.mp ht))⟩
        generalize upd H2 E1 (.lst (t2.map fun t => V.ref t.1)) = H3 at s3 hE1 ⊢
        refine ⟨_, rfl, g, gs, rfl, SqL.of (s3 _ _ (s2 _ _ hg1)), by omega, fun gs' E2 pg' sg nE2 => ?_⟩
        have s4 := same_upd (o := .lst (gs'.map V.str)) nE2
        have hE2 : Ws (upd H3 E2 (.lst (gs'.map V.str))) E2 gs' := upd_same
        generalize upd H3 E2 (.lst (gs'.map V.str)) = H4 at s4 hE2 ⊢
        refine ⟨_, rfl, F, fs, rfl, SqL.of (s4 _ _ (s3 _ _ hF)), by omega, fun cs E3 pc sc nE3 => ?_⟩
        have s5 := same_upd (o := .lst (cs.map V.str)) nE3
        have hE3 : Ws (upd H4 E3 (.lst (cs.map V.str))) E3 cs := upd_same
        generalize upd H4 E3 (.lst (cs.map V.str)) = H5 at s5 hE3 ⊢
        refine ⟨(by show 3 ≤ sizeLine; omega), fun L nL => ?_⟩
        have s6 := same_upd (o := .lst [V.ref E1, V.ref E2, V.ref E3]) nL
        have hL : upd H5 L (.lst [V.ref E1, V.ref E2, V.ref E3]) L = some (.lst [V.ref E1, V.ref E2, V.ref E3]) := upd_same
        generalize upd H5 L (.lst [V.ref E1, V.ref E2, V.ref E3]) = H6 at s6 hL ⊢
        refine ⟨(by show 2 ≤ sizeLine; omega), fun t nt => ?_⟩
        have s7 := same_upd (o := .tup [V.str "made", V.ref L]) nt
        have s27 := same_trans s1 (same_trans s2 (same_trans s3 (same_trans s4 (same_trans s5 s6))))
        refine z (snds ts') t _ (by rw [er]; rfl) (same_trans s27 s7) (s27.free nt) ⟨L, E1, E2, E3, t2, gs', cs, upd_same, s7 _ _ hL, hE1.keep (same_trans s4 (same_trans s5 (same_trans s6 s7))), pt2.map fun t => t.2, as2, same_trans s5 (same_trans s6 s7) _ _ hE2, pg', asc_of_sortedS sg, same_trans s6 s7 _ _ hE3, told_sorted pc sc nd fun x => ?_⟩
        rw [m, List.mem_append]
        exact or_comm
end
end K4
end
section
set_option Elab.async false
set_option linter.all false
set_option maxRecDepth 100000
set_option maxHeartbeats 4000000
namespace K4
open PySem PySem.Spec PyProof.Rows L2 H3 H4
/-! ### what is told and what is due, each with one way on -/
def OutR (H : Hp) (t : Addr) (gs : List Str) : Addr ⊕ List S5 → Prop
  | .inl a => Rep H t "change" (.ref a)
  | .inr ss => MdR H t ss gs
theorem FnOk.wk {P : Program} {w : World} {K : PySem.W.Frag} {mg : Str → Option Value} {base : Heap} {CX : CXT} {k : Nat} {f : Addr} {fd : FuncData} {ps : List Str} {sp sp' : Sp} (F : FnOk P w K mg base CX k f fd ps sp) (h : ∀ vs H Q E, sp' vs H Q E → sp vs H Q E) : FnOk P w K mg base CX k f fd ps sp' :=
  ⟨fun vs H Q E g => F.len vs H Q E (h _ _ _ _ g), fun A outer s H args us vs Q E hr e b v g => F.run A outer s H args us vs Q E hr e b v (h _ _ _ _ g)⟩
theorem Fz.wk {P : Program} {w : World} {K : PySem.W.Frag} {mg : Str → Option Value} {base : Heap} {x : Str} {k : Nat} {ps : List Str} {sp sp' : Sp} (Z : Fz P w K mg base x k ps sp) (h : ∀ vs H Q E, sp' vs H Q E → sp vs H Q E) : Fz P w K mg base x k ps sp' := by
  obtain ⟨g, fd, F, r⟩ := Z
  exact ⟨g, fd, FnOk.wk F h, r⟩
def spToldL (CQ : Addr) : Sp := fun vs H Q _ => ∃ (q h : Addr) (ss : List S5) (gs : List Str) (ks : List (Addr × Ch)), vs = [.str "all", .ref q, .ref h] ∧ IsQ H CQ q ss gs ∧ ChL H h ks ∧ (∀ t ∈ ks, t.2.Ok) ∧ ss.length + ks.length ≤ 60 ∧
  ∀ t H', Same H H' → H t = none → OutR H' t gs (runS ss ks) → Q (.ref t) H'
theorem told_L {CQ : Addr} : ∀ vs H Q E, spToldL CQ vs H Q E → spTold CQ vs H Q E := by
  rintro vs H Q E ⟨q, h, ss, gs, ks, rfl, hq, hl, ok, len, z⟩
  refine ⟨false, .ref q, .ref h, rfl, .inr ⟨q, ss, gs, rfl, hq, ?_⟩⟩
  rw [if_neg nf]
  exact .inr ⟨h, ks, rfl, hl, ok, len, fun a e t H' s n r => z t H' s n (by rw [e]; exact r), fun ss' t H' e s n m => z t H' s n (by rw [e]; exact m)⟩
def spToldC (CQ : Addr) : Sp := fun vs H Q _ => ∃ (q c : Addr) (ss : List S5) (gs : List Str) (k : Ch), vs = [.str "one", .ref q, .ref c] ∧ IsQ H CQ q ss gs ∧ k.At H c ∧ k.Ok ∧ ss.length ≤ 59 ∧
  ∀ t H', Same H H' → H t = none → OutR H' t gs (runS ss [(c, k)]) → Q (.ref t) H'
theorem told_C {CQ : Addr} : ∀ vs H Q E, spToldC CQ vs H Q E → spTold CQ vs H Q E := by
  rintro vs H Q E ⟨q, c, ss, gs, k, rfl, hq, hc, ok, len, z⟩
  refine ⟨true, .ref q, .ref c, rfl, .inr ⟨q, ss, gs, rfl, hq, ?_⟩⟩
  rw [if_pos rfl]
  exact ⟨len, .inr ⟨c, k, rfl, hc, ok, fun e t H' s n r => z t H' s n (by simp only [runS, e]; exact r), fun ss' t H' e s n m => z t H' s n (by simp only [runS, e]; exact m)⟩⟩
def spDueL : Sp := fun vs H Q _ => ∃ (l g cl : Addr) (ts : List (Addr × S5)) (gs : List Str) (ks : List (Addr × Ch)), vs = [.ref l, .ref g, .ref cl] ∧ Sts H l ts ∧ SOk (snds ts) ∧ Ws H g gs ∧ GOk gs ∧ ChL H cl ks ∧ (∀ t ∈ ks, t.2.Ok) ∧ gs.length + 2 * (ts.length + ks.length) ≤ 63 ∧
  ∀ t H', Same H H' → H t = none → OutR H' t gs (lrun (snds ts) ks) → Q (.ref t) H'
theorem due_L : ∀ vs H Q E, spDueL vs H Q E → spDue vs H Q E := by
  rintro vs H Q E ⟨l, g, cl, ts, gs, ks, rfl, h1, h2, h3, h4, h5, h6, h7, z⟩
  exact ⟨l, g, cl, ts, gs, ks, rfl, h1, h2, h3, h4, h5, h6, h7, fun a e t H' s n r => z t H' s n (by rw [e]; exact r), fun ss' t H' e s n m => z t H' s n (by rw [e]; exact m)⟩
/-! ### both as data -/
theorem run_mem : ∀ {ks : List (Addr × Ch)} {ss : List S5} {a : Addr}, lrun ss ks = .inl a → ∃ t ∈ ks, t.1 = a
  | [], ss, a, h => by cases h
  | t :: ks, ss, a, h => by
    cases e : lstep ss t.2 with
    | none =>
      simp only [lrun, e] at h
      cases h
      exact ⟨t, List.mem_cons_self, rfl⟩
    | some r =>
      simp only [lrun, e] at h
      obtain ⟨u, hu, e2⟩ := run_mem h
      exact ⟨u, List.mem_cons_of_mem _ hu, e2⟩
theorem Ch.At.dt {H : Hp} {c : Addr} {k : Ch} (h : k.At H c) : ∃ d, Dt H (.ref c) d ∧ PyData.depth d ≤ 3 ∧ wid d ≤ 1000 := by
  cases k with
  | put s =>
    obtain ⟨t, h1, h2⟩ := h
    refine ⟨.tuple [.str "put", s.data], .tup h1 (.cons (.str _) (.cons (.tup h2 (.cons (.str _) (.cons (.str _) (.cons (.str _) (.cons (.int _) (.cons (.int _) .nil)))))) .nil)), ?_, ?_⟩
    · simp [S5.data, PyData.depth, PyData.depthAll]
    · simp [S5.data, wid, widAll]
  | out z => exact ⟨.tuple [.str "out", .str z], .tup h (.cons (.str _) (.cons (.str _) .nil)), by simp [PyData.depth, PyData.depthAll], by simp [wid, widAll]⟩
  | ck k =>
    cases k with
    | w z i => exact ⟨.tuple [.str "width", .str z, .int i], .tup h (.cons (.str _) (.cons (.str _) (.cons (.int _) .nil))), by simp [PyData.depth, PyData.depthAll], by simp [wid, widAll]⟩
    | l z i => exact ⟨.tuple [.str "length", .str z, .int i], .tup h (.cons (.str _) (.cons (.str _) (.cons (.int _) .nil))), by simp [PyData.depth, PyData.depthAll], by simp [wid, widAll]⟩
    | t z => exact ⟨.tuple [.str "turn", .str z], .tup h (.cons (.str _) (.cons (.str _) .nil)), by simp [PyData.depth, PyData.depthAll], by simp [wid, widAll]⟩
theorem MdR.dt {H : Hp} {t u : Addr} {r r' : List S5} {gs : List Str} (a : MdR H t r' gs) (b : MdR H u r gs) (p : r'.Perm r) (so : SOk r) (go : GOk gs) : ∃ d, Dt H (.ref t) d ∧ Dt H (.ref u) d ∧ PyData.depth d ≤ 6 ∧ wid d ≤ 1000 := by
  obtain ⟨L, S, G, C, ts, us, cs, h1, h2, h3, h4, h5, h6, h7, h8, h9, h10⟩ := a
  obtain ⟨L', S', G', C', ts', us', cs', g1, g2, g3, g4, g5, g6, g7, g8, g9, g10⟩ := b
  have e1 : snds ts = snds ts' := asc5_uniq (by
    show ((snds ts).map S5.nm).Nodup
    exact ((h4.trans p).map S5.nm).nodup_iff.mpr so.nd) ((h4.trans p).trans g4.symm) h5 g5
  have e2 : us = us' := asc_uniq (h7.trans g7.symm) h8 g8
  have e3 : cs = cs' := h10.uniq g10 fun x => by
    rw [List.mem_append, List.mem_append]
    have : x ∈ ends r' ↔ x ∈ ends r := by
      unfold ends
      rw [List.mem_append, List.mem_append, (p.map S5.st).mem_iff, (p.map S5.en).mem_iff]
    rw [this]
  subst e2
  subst e3
  have d1 := h3.dt
  have d2 := g3.dt
  rw [← e1] at d2
  have l1 : (snds ts).length ≤ 60 := by
    have := (h4.trans p).length_eq
    have := so.l
    omega
  have l2 : us.length ≤ 60 := by
    have := h7.length_eq
    have := go.l
    omega
  have l3 : cs.length ≤ 500 := by
    have := len_le_of_sub cs (ends r' ++ gs) h10.nd fun x hx => (h10.mem x).mp hx
    rw [List.length_append, ends_len] at this
    have := p.length_eq
    have := so.l
    have := go.l
    omega
  refine ⟨.tuple [.str "made", .list [.list ((snds ts).map S5.data), .list (us.map PyData.str), .list (cs.map PyData.str)]], .tup h1 (.cons (.str _) (.cons (.lst h2 (.cons d1 (.cons (dt_ws h6) (.cons (dt_ws h9) .nil)))) .nil)), .tup g1 (.cons (.str _) (.cons (.lst g2 (.cons d2 (.cons (dt_ws g6) (.cons (dt_ws g9) .nil)))) .nil)), ?_, ?_⟩
  · have a1 := dep_sts (snds ts)
    have a2 := dep_strs us
    have a3 := dep_strs cs
    simp only [PyData.depth, PyData.depthAll] at a1 a2 a3 ⊢
    omega
  · have a1 := wid_sts (ss := snds ts) (by omega)
    have a2 := wid_strs (ws := us) (by omega)
    have a3 := wid_strs (ws := cs) (by omega)
    simp only [wid, widAll, List.length_cons, List.length_nil] at a1 a2 a3 ⊢
    omega
/-- told and due are the same -/
theorem out_dt {H : Hp} {t u : Addr} {ss : List S5} {gs : List Str} {ks : List (Addr × Ch)} (so : SOk ss) (go : GOk gs) (ok : ∀ t ∈ ks, t.2.Ok) (len : ss.length + ks.length ≤ 60) (hk : ∀ t ∈ ks, t.2.At H t.1) (a : OutR H t gs (runS ss ks)) (b : OutR H u gs (lrun ss ks)) :
    ∃ d, Dt H (.ref t) d ∧ Dt H (.ref u) d ∧ PyData.depth d ≤ 6 ∧ wid d ≤ 1000 := by
  rcases lrun_run ks ss ss so (.refl _) ok len with ⟨c, h1, h2⟩ | ⟨r, r', h1, h2, p, sr⟩
  · rw [h1] at b
    rw [h2] at a
    obtain ⟨v, hv, rfl⟩ := run_mem h1
    obtain ⟨d, hd, d1, d2⟩ := (hk v hv).dt
    have a : H t = _ := a
    have b : H u = _ := b
    refine ⟨.tuple [.str "change", d, .bool false, .bool true], .tup a (.cons (.str _) (.cons hd (.cons (.bl _) (.cons (.bl _) .nil)))), .tup b (.cons (.str _) (.cons hd (.cons (.bl _) (.cons (.bl _) .nil)))), ?_, ?_⟩
    · simp only [PyData.depth, PyData.depthAll]
      omega
    · simp only [wid, widAll, List.length_cons, List.length_nil]
      omega
  · rw [h1] at b
    rw [h2] at a
    exact MdR.dt a b p sr go
end K4
end
section
set_option Elab.async false
set_option linter.all false
set_option maxRecDepth 100000
set_option maxHeartbeats 4000000
namespace K4
open PySem PySem.Spec PyProof.Rows L2 H3 H4
/-! ### changes as data -/
def Ch.data : Ch → PyData
  | .put s => .tuple [.str "put", s.data]
  | .out z => .tuple [.str "out", .str z]
  | .ck (.w z i) => .tuple [.str "width", .str z, .int i]
  | .ck (.l z i) => .tuple [.str "length", .str z, .int i]
  | .ck (.t z) => .tuple [.str "turn", .str z]
theorem Ch.At.dp {K : PySem.W.Frag} {H : Hp} {c : Addr} {k : Ch} (h : k.At H c) : Dp K H (.ref c) k.data := by
  cases k with
  | put s =>
    obtain ⟨t, h1, h2⟩ := h
    exact .tup (SqT.of h1) (.cons (.str _) (.cons (.tup (SqT.of h2) (.cons (.str _) (.cons (.str _) (.cons (.str _) (.cons (.int _) (.cons (.int _) .nil)))))) .nil))
  | out z => exact .tup (SqT.of h) (.cons (.str _) (.cons (.str _) .nil))
  | ck k =>
    cases k with
    | w z i => exact .tup (SqT.of h) (.cons (.str _) (.cons (.str _) (.cons (.int _) .nil)))
    | l z i => exact .tup (SqT.of h) (.cons (.str _) (.cons (.str _) (.cons (.int _) .nil)))
    | t z => exact .tup (SqT.of h) (.cons (.str _) (.cons (.str _) .nil))
theorem ChL.dp {K : PySem.W.Frag} {H : Hp} {l : Addr} {ks : List (Addr × Ch)} (h : ChL H l ks) : Dp K H (.ref l) (.list (ks.map fun t => t.2.data)) := by
  refine .lst (SqL.of h.at_) ?_
  have key : ∀ ks : List (Addr × Ch), (∀ t ∈ ks, t.2.At H t.1) → DpAll K H (ks.map fun t => V.ref t.1) (ks.map fun t => t.2.data) := by
    intro ks
    induction ks with
    | nil => exact fun _ => .nil
    | cons t ks ih => exact fun h => .cons (h t List.mem_cons_self).dp (ih fun u hu => h u (List.mem_cons_of_mem _ hu))
  exact key ks h.each
theorem Ch.lay {k : Ch} (ok : k.Ok) : PyData.canLay0 k.data = true := by
  have e1 : PyData.strOk "put" = true := by decide +kernel
  have e2 : PyData.strOk "out" = true := by decide +kernel
  have e3 : PyData.strOk "width" = true := by decide +kernel
  have e4 : PyData.strOk "length" = true := by decide +kernel
  have e5 : PyData.strOk "turn" = true := by decide +kernel
  cases k with
  | put s =>
    obtain ⟨h1, h2, h3, _⟩ := ok
    simp [Ch.data, S5.data, PyData.canLay0, PyData.canLayAll0, wd_ok h1, wd_ok h2, wd_ok h3, e1]
  | out z =>
    have ok : Wd z := ok
    simp [Ch.data, PyData.canLay0, PyData.canLayAll0, wd_ok ok, e2]
  | ck k =>
    cases k with
    | w z i =>
      have ok : Wd z := ok.1
      simp [Ch.data, PyData.canLay0, PyData.canLayAll0, wd_ok ok, e3]
    | l z i =>
      have ok : Wd z := ok.1
      simp [Ch.data, PyData.canLay0, PyData.canLayAll0, wd_ok ok, e4]
    | t z =>
      have ok : Wd z := ok.1
      simp [Ch.data, PyData.canLay0, PyData.canLayAll0, wd_ok ok, e5]
theorem Ch.dep (k : Ch) : PyData.depth k.data ≤ 3 := by
  cases k with
  | put s => simp [Ch.data, S5.data, PyData.depth, PyData.depthAll]
  | out z => simp [Ch.data, PyData.depth, PyData.depthAll]
  | ck k => cases k <;> simp [Ch.data, PyData.depth, PyData.depthAll]
theorem chs_lay : ∀ ks : List (Addr × Ch), (∀ t ∈ ks, t.2.Ok) → PyData.canLayAll0 (ks.map fun t => t.2.data) = true
  | [], _ => rfl
  | t :: ks, h => by
    have ih := chs_lay ks fun x hx => h x (List.mem_cons_of_mem _ hx)
    simp [PyData.canLayAll0, Ch.lay (h t List.mem_cons_self), ih]
theorem chs_dep : ∀ ks : List (Addr × Ch), PyData.depthAll (ks.map fun t => t.2.data) ≤ 3
  | [] => Nat.zero_le _
  | t :: ks => Nat.max_le.mpr ⟨Ch.dep t.2, chs_dep ks⟩
theorem chs_shaped {ks : List (Addr × Ch)} (h : ∀ t ∈ ks, t.2.Ok) : SeqAt.shaped (.list (ks.map fun t => t.2.data)) = true := by
  have h1 : PyData.canLay0 (.list (ks.map fun t => t.2.data)) = true := chs_lay ks h
  have h2 : PyData.depth (.list (ks.map fun t => t.2.data)) ≤ 64 := by
    show PyData.depthAll (ks.map fun t => t.2.data) + 1 ≤ 64
    have := chs_dep ks
    omega
  unfold SeqAt.shaped
  rw [h1, decide_eq_true h2]
  rfl
theorem Ch.eqvs (k : Ch) : PyData.eqv k.data k.data = true := by
  cases k with
  | put s =>
    have e : PyData.eqv s.data s.data = true := by rw [eqv_s5, decide_eq_true rfl]
    simp [Ch.data, PyData.eqv, PyData.eqvAll, e]
  | out z => simp [Ch.data, PyData.eqv, PyData.eqvAll]
  | ck k => cases k <;> simp [Ch.data, PyData.eqv, PyData.eqvAll]
theorem chs_eqv : ∀ ks : List (Addr × Ch), PyData.eqvAll (ks.map fun t => t.2.data) (ks.map fun t => t.2.data) = true
  | [] => by simp [PyData.eqvAll]
  | t :: ks => by
    rw [List.map_cons, PyData.eqvAll, Ch.eqvs, chs_eqv ks]
    rfl
theorem chs_eqvL (ks : List (Addr × Ch)) : PyData.eqv (.list (ks.map fun t => t.2.data)) (.list (ks.map fun t => t.2.data)) = true := by rw [PyData.eqv, chs_eqv]
end K4
end
section
set_option Elab.async false
set_option linter.all false
set_option maxRecDepth 100000
set_option maxHeartbeats 4000000
namespace K4
open PySem PySem.Spec PyProof.Rows L2 H3 H4
section
variable {P : Program} {w : World} {K : PySem.W.Frag} {mg : Str → Option Value} {base : Heap}
/-- what a list of changes is judged by -/
structure LrH (H : Hp) (CQ q W ls lg cl : Addr) (ts : List (Addr × S5)) (gs : List Str) (ks : List (Addr × Ch)) : Prop where
  q : IsQ H CQ q (snds ts) gs
  w : Wq H W ls lg ts gs
  c : ChL H cl ks
  ok : ∀ t ∈ ks, t.2.Ok
  len : gs.length + 2 * (ts.length + ks.length) ≤ 63
theorem LrH.keep {H H' : Hp} {CQ q W ls lg cl : Addr} {ts : List (Addr × S5)} {gs : List Str} {ks : List (Addr × Ch)} (h : LrH H CQ q W ls lg cl ts gs ks) (s : Same H H') : LrH H' CQ q W ls lg cl ts gs ks := ⟨h.q.keep s, h.w.keep s, h.c.keep s, h.ok, h.len⟩
theorem OutR.keep {H H' : Hp} {t : Addr} {gs : List Str} {r : Addr ⊕ List S5} (h : OutR H t gs r) (s : Same H H') : OutR H' t gs r := by
  cases r with
  | inl a => exact s _ _ h
  | inr ss =>
    obtain ⟨L, S, G, C, ts, us, cs, h1, h2, h3, h4, h5, h6, h7, h8, h9, h10⟩ := h
    exact ⟨L, S, G, C, ts, us, cs, s _ _ h1, s _ _ h2, h3.keep s, h4, h5, s _ _ h6, h7, h8, s _ _ h9, h10⟩
def spLR (CQ : Addr) : Sp := fun vs H Q _ => ∃ (q W ls lg cl : Addr) (ts : List (Addr × S5)) (gs : List Str) (ks : List (Addr × Ch)), vs = [.ref q, .ref W, .ref cl] ∧ LrH H CQ q W ls lg cl ts gs ks ∧ ∀ H', Same H H' → Q (.bl true) H'
abbrev NLr : List Str := ["_law_quarter_here", "_law_world_here", "_law_changes", "_law_handed", "_law_turn", "_law_change_here"]
theorem scLr : FnScope NLr ["_law_quarter_here", "_law_world_here", "_law_changes"] (defScope sListRight) := ⟨rfl, rfl, rfl, by decide +kernel, rfl, by decide +kernel, by decide +kernel⟩
theorem ok_listRight {CQ : Addr} {f : Addr} {fd : FuncData} (F : FnP K "_law_list_right" sListRight f fd) (GT : Fz P w K mg base "_law_told" 11 ["_law_way", "_law_quarter_here", "_law_value"] (spTold CQ)) (GD : Fz P w K mg base "_law_due" 2 ["_law_streets", "_law_gates", "_law_changes"] spDue)
    (EX : Fz P w K mg base "_law_exact" 7 ["_law_one", "_law_other"] (spExact 6)) (M : Mc P w K mg base CQ) (T : Tx K mg) : FnOk P w K mg base CX0 12 f fd ["_law_quarter_here", "_law_world_here", "_law_changes"] (spLR CQ) := by
  refine F.ok scLr (fun vs H Q E h => ?_) (fun cdv A outer s H vs Q E hr h => ?_)
  · obtain ⟨_, _, _, _, _, _, _, _, rfl, _⟩ := h
    rfl
  · obtain ⟨q, W, ls, lg, cl, ts, gs, ks, rfl, h, z⟩ := h
    have gLi := T.fr "list" (by decide +kernel)
    have gSo := T.fr "sorted" (by decide +kernel)
    have gR := T.fr "range" (by decide +kernel)
    have gL := T.fr "len" (by decide +kernel)
    have sl := sizeLine_eq
    have r1 : Room 1 (A.deeper (envOfC "_law_list_right" (defScope sListRight) s.heap.objs.size f cdv)) := hr.mono (by decide)
    have r2 : Room 2 (A.deeper (envOfC "_law_list_right" (defScope sListRight) s.heap.objs.size f cdv)) := hr.mono (by decide)
    have r7 : Room 7 (A.deeper (envOfC "_law_list_right" (defScope sListRight) s.heap.objs.size f cdv)) := hr.mono (by decide)
    have GTL := Fz.wk GT told_L
    have GTC := Fz.wk GT told_C
    have GDL := Fz.wk GD due_L
    have hu : (A.deeper (envOfC "_law_list_right" (defScope sListRight) s.heap.objs.size f cdv)).units + 64 < cLine := by
      have := hr.un
      omega
    refine ⟨_, PSs.nox (pss_cons (ps_set (i := 3) scLr.nd rfl (Or.inl rfl) (pe_callTy call_list_of (by rfl) gLi (by decide +kernel) (pa_cons (pv 2) pa_nil)))
      (pss_cons (ps_if (PW.pt (pw_or (pt_not (pt_val (pe_fz EX r7 (by rfl) (pa_cons (pe_fz GTL hr (by rfl) (pa_cons pe_str (pa_cons (pv 0) (pa_cons (pv 3) pa_nil)))) (pa_cons (pe_fz GDL r2 (by rfl) (pa_cons (pe_ix ix_list (pv 1) pe_int (fun _ _ => rfl)) (pa_cons (pe_ix ix_list (pv 1) pe_int (fun _ _ => rfl)) (pa_cons (pv 2) pa_nil)))) pa_nil)))))
          (pw_or1 (pt_cmpR (op_neD hu) (pv 3) (pv 2) (nomark _))))) (pss_one (ps_ret pe_bl)) pss_nil)
      (pss_cons (ps_expr (pe_bm0 PySem.F.plainAttrs_list PySem.F.slot_list_reverse PySem.F.type_list_reverse mt_reverse (pv 3)))
      (pss_cons (ps_for PassesOwn.never rfl (pi_range1 rfl gR (pa_cons (pe_op op_add (pe_callB call_len_seq (by rfl) gL PySem.boot_len (pa_cons (pv 3) pa_nil)) pe_int) pa_nil)) (pg_name (i := 4) scLr.nd rfl (Or.inl rfl))
        (pss_cons (ps_if (pt_not (pt_val (pe_fz EX r7 (by rfl) (pa_cons (pe_fz GTL hr (by rfl) (pa_cons pe_str (pa_cons (pv 0) (pa_cons (pv 3) pa_nil)))) (pa_cons (pe_fz GDL r2 (by rfl) (pa_cons (pe_ix ix_list (pv 1) pe_int (fun _ _ => rfl)) (pa_cons (pe_ix ix_list (pv 1) pe_int (fun _ _ => rfl)) (pa_cons (pe_callTy call_list_of (by rfl) gLi (by decide +kernel) (pa_cons (pv 3) pa_nil)) pa_nil)))) pa_nil))))) (pss_one (ps_ret pe_bl)) pss_nil)
        (pss_one (ps_if (pt_cmpR (op_neD hu) (pv 3) (pe_lst pa_nil) (nomark _)) (pss_one (ps_expr (pe_bm PySem.F.plainAttrs_list PySem.F.slot_list_pop PySem.F.type_list_pop mt_popAt (pv 3) (pa_cons pe_int pa_nil)))) pss_nil))))
      (pss_cons (ps_for PassesOwn.never rfl (pi_list (pv 2)) (pg_name (i := 5) scLr.nd rfl (Or.inl rfl))
        (pss_one (ps_if (pt_not (pt_val (pe_fz EX r7 (by rfl) (pa_cons (pe_fz GTC hr (by rfl) (pa_cons pe_str (pa_cons (pv 0) (pa_cons (pv 5) pa_nil)))) (pa_cons (pe_fz GDL r2 (by rfl) (pa_cons (pe_ix ix_list (pv 1) pe_int (fun _ _ => rfl)) (pa_cons (pe_ix ix_list (pv 1) pe_int (fun _ _ => rfl)) (pa_cons (pe_lst (pa_cons (pv 5) pa_nil)) pa_nil)))) pa_nil))))) (pss_one (ps_ret pe_bl)) pss_nil)))
      (pss_one (ps_ret (pe_cmpR (op_eqD hu) (pe_lst (pa_cons (pe_mz M.qs (pv 0) r1) (pa_cons (pe_mz M.qg (pv 0) r1) pa_nil))) (pe_lst (pa_cons (pe_callB cr_sortedTx (by rfl) gSo (by decide +kernel) (pa_cons (pe_ix ix_list (pv 1) pe_int (fun _ _ => rfl)) pa_nil)) (pa_cons (pe_callB cr_sortedS (by rfl) gSo (by decide +kernel) (pa_cons (pe_ix ix_list (pv 1) pe_int (fun _ _ => rfl)) pa_nil)) pa_nil))) (nomark _))))))))), ?_⟩
    have so := h.w.so
    have go := h.w.go
    have len := h.len
    have gne : 1 ≤ gs.length := List.length_pos_iff.mpr go.ne
    have l60 : (snds ts).length + ks.length ≤ 60 := by
      rw [snds_len]
      omega
    -- a copy
    refine ⟨_, rfl, cl, _, rfl, Or.inl (SqL.of h.c.at_), fun D nD => ?_⟩
    have s1 := same_upd (o := .lst (ks.map fun t => V.ref t.1)) nD
    have cD : ChL (upd H D (.lst (ks.map fun t => V.ref t.1))) D ks := ⟨upd_same, fun t ht => (h.c.each t ht).keep s1⟩
    generalize upd H D (.lst (ks.map fun t => V.ref t.1)) = H1 at s1 cD ⊢
    have h1 := h.keep s1
    -- all of them
    refine ⟨_, rfl, _, rfl, q, D, snds ts, gs, ks, rfl, h1.q, cD, h.ok, l60, fun t1 H2 s2 n1 o1 => ?_⟩
    have h2 := h1.keep s2
    obtain ⟨⟨wx, wy, hW2⟩, hs2, hg2, _, _⟩ := h2.w
    refine ⟨_, rfl, W, _, ((0 : Nat) : Int), _, rfl, rfl, SqL.of hW2, atI_nat rfl, _, rfl, W, _, ((1 : Nat) : Int), _, rfl, rfl, SqL.of hW2, atI_nat rfl, _, rfl, ls, lg, cl, ts, gs, ks, rfl, hs2, so, hg2, go, h2.c, h.ok, len, fun t2 H3 s3 n2 o2 => ?_⟩
    have h3 := h2.keep s3
    obtain ⟨d, d1, d2, dd, dw⟩ := out_dt so go h.ok l60 h3.c.each (o1.keep s3) o2
    refine ⟨.ref t1, .ref t2, d, rfl, d1, d2, dd, dw, fun H4 s4 => ⟨_, rfl, ifF (by decide) ?_⟩⟩
    have s14 := same_trans s2 (same_trans s3 s4)
    have cD4 := cD.keep s14
    have h4 := h3.keep s4
    refine ⟨_, rfl, _, rfl, _, _, cD4.dp, h4.c.dp, chs_shaped h.ok, chs_shaped h.ok, _, rfl, ifF (by rw [chs_eqvL]; decide) ?_⟩
    -- turned about
    refine ⟨_, rfl, Or.inl ⟨rfl, _, SqL.of cD4.at_⟩, D, _, rfl, rfl, cD4.at_, ?_⟩
    have s04 := same_trans s1 s14
    have old : ∀ {H' : Hp} {xs : List V}, Same H H' → Same H (upd H' D (.lst xs)) := fun {H' xs} s b o e => by
      rw [upd_ne (ne_of_none e nD)]
      exact s _ _ e
    have s05 := old (xs := (ks.map fun t => V.ref t.1).reverse) s04
    have eD5 : upd H4 D (.lst (ks.map fun t => V.ref t.1).reverse) D = some (.lst (ks.reverse.map fun t => V.ref t.1)) := by rw [upd_same, List.map_reverse]
    generalize upd H4 D (.lst (ks.map fun t => V.ref t.1).reverse) = H5 at s05 eD5 ⊢
    refine ⟨_, rfl, D, _, rfl, Or.inl (SqL.of eD5), _, _, rfl, rfl, ?_⟩
    have lr : ((ks.reverse.map fun t => V.ref t.1).length : Int) = ks.length := by simp
    refine ⟨_, rfl, by rw [lr]; omega, by rw [lr]; omega, ?_⟩
    have sub : ∀ {j : Nat} {t : Addr × Ch}, t ∈ ks.reverse.drop j → t ∈ ks := fun {j t} ht => List.mem_reverse.mp (List.mem_of_mem_drop ht)
    refine for_range (n := (((ks.reverse.map fun t => V.ref t.1).length : Int) + 1).toNat) (fun j σ H' => ∃ o4 o5, σ = [some (.ref q), some (.ref W), some (.ref cl), some (.ref D), o4, o5] ∧ Same H H' ∧ H' D = some (.lst ((ks.reverse.drop j).map fun t => V.ref t.1))) ⟨_, _, rfl, s05, eD5⟩ ?_ ?_
    · rintro j σ H6 hj ⟨o4, o5, rfl, s6, eD⟩
      have h6 := h.keep s6
      have cD6 : ChL H6 D (ks.reverse.drop j) := ⟨eD, fun t ht => h6.c.each t (sub ht)⟩
      have okr : ∀ t ∈ ks.reverse.drop j, t.2.Ok := fun t ht => h.ok t (sub ht)
      have lr : (ks.reverse.drop j).length ≤ ks.length := by
        rw [List.length_drop, List.length_reverse]
        omega
      have l60' : (snds ts).length + (ks.reverse.drop j).length ≤ 60 := by omega
      refine ⟨_, rfl, _, rfl, q, D, snds ts, gs, ks.reverse.drop j, rfl, h6.q, cD6, okr, l60', fun t1 H7 s7 n1 o1 => ?_⟩
      have h7 := h6.keep s7
      have cD7 := cD6.keep s7
      obtain ⟨⟨wx, wy, hW7⟩, hs7, hg7, _, _⟩ := h7.w
      refine ⟨_, rfl, W, _, ((0 : Nat) : Int), _, rfl, rfl, SqL.of hW7, atI_nat rfl, _, rfl, W, _, ((1 : Nat) : Int), _, rfl, rfl, SqL.of hW7, atI_nat rfl, _, rfl, D, _, rfl, Or.inl (SqL.of cD7.at_), fun D2 nD2 => ?_⟩
      have s8 := same_upd (o := .lst ((ks.reverse.drop j).map fun t => V.ref t.1)) nD2
      have cD8 : ChL (upd H7 D2 (.lst ((ks.reverse.drop j).map fun t => V.ref t.1))) D2 (ks.reverse.drop j) := ⟨upd_same, fun t ht => (cD7.each t ht).keep s8⟩
      generalize upd H7 D2 (.lst ((ks.reverse.drop j).map fun t => V.ref t.1)) = H8 at s8 cD8 ⊢
      refine ⟨ls, lg, D2, ts, gs, ks.reverse.drop j, rfl, hs7.keep s8, so, s8 _ _ hg7, go, cD8, okr, by omega, fun t2 H9 s9 n2 o2 => ?_⟩
      obtain ⟨d, d1, d2, dd, dw⟩ := out_dt so go okr l60' (cD8.keep s9).each (o1.keep (same_trans s8 s9)) o2
      refine ⟨.ref t1, .ref t2, d, rfl, d1, d2, dd, dw, fun H10 s10 => ⟨_, rfl, ifF (by decide) ?_⟩⟩
      have s610 := same_trans s7 (same_trans s8 (same_trans s9 s10))
      have cD10 := cD6.keep s610
      refine ⟨_, rfl, (by show 0 ≤ sizeLine; omega), fun N nN => ?_⟩
      have s11 := same_upd (o := .lst []) nN
      have hN : upd H10 N (.lst []) N = some (.lst []) := upd_same
      generalize upd H10 N (.lst []) = H11 at s11 hN ⊢
      have cD11 := cD10.keep s11
      have s0 := same_trans s6 (same_trans s610 s11)
      refine ⟨_, _, cD11.dp, .lst (SqL.of hN) .nil, chs_shaped okr, nil_shaped, _, rfl, ?_⟩
      rw [eqv_nil]
      cases e : ks.reverse.drop j with
      | nil =>
        refine ifF (by simp) ⟨_, _, rfl, s0, ?_⟩
        have := cD11.at_
        rw [e] at this
        rw [this, List.drop_eq_nil_of_le (by have := List.drop_eq_nil_iff.mp e; omega)]
      | cons t r =>
        have eD11 := cD11.at_
        rw [e] at eD11
        refine ifT (by simp) ⟨_, rfl, Or.inl ⟨rfl, _, SqL.of eD11⟩, D, _, (0 : Int), 0, _, rfl, rfl, eD11, by decide, by decide, by simp [seqIndex?], rfl, ?_⟩
        refine ⟨_, _, rfl, old s0, ?_⟩
        rw [upd_same, ← List.drop_drop (i := 1), e]
        rfl
    · rintro σ H6 ⟨o4, o5, rfl, s6, eD⟩
      have h6 := h.keep s6
      refine ⟨_, rfl, cl, rfl, ⟨_, SqL.of h6.c.at_⟩, ?_⟩
      refine for_list (xs := ks.map fun t => V.ref t.1) (fun j σ H' => ∃ o4 o5, σ = [some (.ref q), some (.ref W), some (.ref cl), some (.ref D), o4, o5] ∧ Same H H') ⟨_, _, rfl, s6⟩ (fun j σ H' _ ⟨_, _, _, s7⟩ => SqL.of (s7 _ _ h.c.at_)) ?_ ?_
      · rintro j x σ H7 hj ⟨o4, o5, rfl, s7⟩
        obtain ⟨t, ht, rfl⟩ := at_map hj
        have tm := List.mem_of_getElem? ht
        have h7 := h.keep s7
        have l59 : (snds ts).length ≤ 59 := by
          rw [snds_len]
          omega
        refine ⟨_, rfl, _, rfl, q, t.1, snds ts, gs, t.2, rfl, h7.q, h7.c.each t tm, h.ok t tm, l59, fun t1 H8 s8 n1 o1 => ?_⟩
        have h8 := h7.keep s8
        obtain ⟨⟨wx, wy, hW8⟩, hs8, hg8, _, _⟩ := h8.w
        refine ⟨_, rfl, W, _, ((0 : Nat) : Int), _, rfl, rfl, SqL.of hW8, atI_nat rfl, _, rfl, W, _, ((1 : Nat) : Int), _, rfl, rfl, SqL.of hW8, atI_nat rfl, _, rfl, (by show 1 ≤ sizeLine; omega), fun N nN => ?_⟩
        have s9 := same_upd (o := .lst [V.ref t.1]) nN
        have one : ∀ u ∈ [(t.1, t.2)], u = t := fun u hu => by rw [List.mem_singleton.mp hu]
        have cN : ChL (upd H8 N (.lst [V.ref t.1])) N [(t.1, t.2)] := ⟨upd_same, fun u hu => by
          rw [one u hu]
          exact (h8.c.each t tm).keep s9⟩
        generalize upd H8 N (.lst [V.ref t.1]) = H9 at s9 cN ⊢
        have ok1 : ∀ u ∈ [(t.1, t.2)], u.2.Ok := fun u hu => by
          rw [one u hu]
          exact h.ok t tm
        have k1 : 1 ≤ ks.length := List.length_pos_of_mem tm
        refine ⟨ls, lg, N, ts, gs, [(t.1, t.2)], rfl, hs8.keep s9, so, s9 _ _ hg8, go, cN, ok1, by show gs.length + 2 * (ts.length + 1) ≤ 63; omega, fun t2 H10 s10 n2 o2 => ?_⟩
        obtain ⟨d, d1, d2, dd, dw⟩ := out_dt so go ok1 (by show (snds ts).length + 1 ≤ 60; omega) (cN.keep s10).each (o1.keep (same_trans s9 s10)) o2
        exact ⟨.ref t1, .ref t2, d, rfl, d1, d2, dd, dw, fun H11 s11 => ⟨_, rfl, ifF (by decide) ⟨_, _, rfl, same_trans s7 (same_trans s8 (same_trans s9 (same_trans s10 s11)))⟩⟩⟩
      · rintro σ H7 ⟨o4, o5, rfl, s7⟩
        have h7 := h.keep s7
        obtain ⟨⟨dx, ml, mg', mts, mgs, hq, pt, as, pg, ag⟩, _, _⟩ := h7.q
        have three : 2 ≤ sizeLine := by omega
        have lm := pt.length_eq
        rw [snds_len, snds_len] at lm
        have gl := pg.length_eq
        refine ⟨_, rfl, q, dx, _, rfl, hq.at_, rfl, q, dx, ml, _, _, rfl, hq.at_, rfl, hq.s.1, fun D1 n1 => ?_⟩
        have s8 := same_upd (o := .lst (mts.map fun t => V.ref t.1)) n1
        have hD1 : Sts (upd H7 D1 (.lst (mts.map fun t => V.ref t.1))) D1 mts := ⟨upd_same, fun t ht => s8 _ _ (hq.s.2 t ht)⟩
        generalize upd H7 D1 (.lst (mts.map fun t => V.ref t.1)) = H8 at s8 hD1 ⊢
        have hq1 := hq.keep s8
        refine ⟨_, rfl, q, dx, _, rfl, hq1.at_, rfl, q, dx, mg', _, _, rfl, hq1.at_, rfl, hq1.g, fun D2 n2 => ?_⟩
        have s9 := same_upd (o := .lst (mgs.map V.str)) n2
        have hD2 : Ws (upd H8 D2 (.lst (mgs.map V.str))) D2 mgs := upd_same
        generalize upd H8 D2 (.lst (mgs.map V.str)) = H9 at s9 hD2 ⊢
        refine ⟨three, fun L1 nL1 => ?_⟩
        have s10 := same_upd (o := .lst [V.ref D1, V.ref D2]) nL1
        have hL1 : upd H9 L1 (.lst [V.ref D1, V.ref D2]) L1 = some (.lst [V.ref D1, V.ref D2]) := upd_same
        generalize upd H9 L1 (.lst [V.ref D1, V.ref D2]) = H10 at s10 hL1 ⊢
        have s710 := same_trans s8 (same_trans s9 s10)
        have h10 := h7.keep s710
        obtain ⟨⟨wx, wy, hW10⟩, hs10, hg10, _, _⟩ := h10.w
        refine ⟨_, rfl, W, _, ((0 : Nat) : Int), _, rfl, rfl, SqL.of hW10, atI_nat rfl, ls, _, nameAt H10, rfl, SqL.of hs10.1, sort_a hs10, sort_b hs10 so.nd, fun ys E1 pm pw nE1 => ?_⟩
        obtain ⟨ts', pt', as', rfl⟩ := sort_c hs10 pm pw
        have s11 := same_upd (o := .lst (ts'.map fun t => V.ref t.1)) nE1
        have hE1 : Sts (upd H10 E1 (.lst (ts'.map fun t => V.ref t.1))) E1 ts' := ⟨upd_same, fun t ht => s11 _ _ (hs10.2 t (pt'.mem_iff.mp ht))⟩
        generalize upd H10 E1 (.lst (ts'.map fun t => V.ref t.1)) = H11 at s11 hE1 ⊢
        refine ⟨_, rfl, W, _, ((1 : Nat) : Int), _, rfl, rfl, SqL.of (s11 _ _ hW10), atI_nat rfl, lg, gs, rfl, SqL.of (s11 _ _ hg10), by omega, fun gs' E2 pg' sg nE2 => ?_⟩
        have s12 := same_upd (o := .lst (gs'.map V.str)) nE2
        have hE2 : Ws (upd H11 E2 (.lst (gs'.map V.str))) E2 gs' := upd_same
        generalize upd H11 E2 (.lst (gs'.map V.str)) = H12 at s12 hE2 ⊢
        refine ⟨three, fun L2 nL2 => ?_⟩
        have s13 := same_upd (o := .lst [V.ref E1, V.ref E2]) nL2
        have hL2 : upd H12 L2 (.lst [V.ref E1, V.ref E2]) L2 = some (.lst [V.ref E1, V.ref E2]) := upd_same
        generalize upd H12 L2 (.lst [V.ref E1, V.ref E2]) = H13 at s13 hL2 ⊢
        have s1013 := same_trans s11 (same_trans s12 s13)
        have e1 : snds ts' = snds mts := asc5_uniq (by
          show ((snds ts').map S5.nm).Nodup
          exact ((pt'.map fun t => t.2).map S5.nm).nodup_iff.mpr so.nd) ((pt'.map fun t => t.2).trans pt.symm) as' as
        have e2 : gs' = mgs := asc_uniq (pg'.trans pg.symm) (asc_of_sortedS sg) ag
        subst e2
        have q1 : Dp K H13 (.ref L1) (.list [.list ((snds mts).map S5.data), .list (gs'.map PyData.str)]) := .lst (SqL.of (s1013 _ _ hL1)) (.cons (dp_of (hD1.keep (same_trans s9 (same_trans s10 s1013)))) (.cons (dp_ws (same_trans s10 s1013 _ _ hD2)) .nil))
        have q2 : Dp K H13 (.ref L2) (.list [.list ((snds mts).map S5.data), .list (gs'.map PyData.str)]) := by
          refine .lst (SqL.of hL2) (.cons ?_ (.cons (dp_ws (s13 _ _ hE2)) .nil))
          rw [← e1]
          exact dp_of (hE1.keep (same_trans s12 s13))
        have sh : SeqAt.shaped (.list [.list ((snds mts).map S5.data), .list (gs'.map PyData.str)]) = true := by
          have a1 := sts_shaped (ss := snds mts) (fun s hs => so.ok s (pt.mem_iff.mp hs))
          have a2 := strs_shaped (ws := gs') (fun x hx => go.wd x (pg'.mem_iff.mp hx))
          have c1 : PyData.canLay0 (.list ((snds mts).map S5.data)) = true := lay_sts _ (fun s hs => so.ok s (pt.mem_iff.mp hs))
          have c2 : PyData.canLay0 (.list (gs'.map PyData.str)) = true := lay_strs _ (fun x hx => go.wd x (pg'.mem_iff.mp hx))
          have b1 := dep_sts (snds mts)
          have b2 := dep_strs gs'
          have hd : PyData.depth (.list [.list ((snds mts).map S5.data), .list (gs'.map PyData.str)]) ≤ 64 := Nat.le_trans (dep_two b1 b2) (by decide)
          have hc : PyData.canLay0 (.list [.list ((snds mts).map S5.data), .list (gs'.map PyData.str)]) = true := by
            have c1' : PyData.canLayAll0 ((snds mts).map S5.data) = true := c1
            have c2' : PyData.canLayAll0 (gs'.map PyData.str) = true := c2
            generalize (snds mts).map S5.data = u1 at c1'
            generalize gs'.map PyData.str = u2 at c2'
            simp [PyData.canLay0, PyData.canLayAll0, c1', c2']
          unfold SeqAt.shaped
          rw [hc, decide_eq_true hd]
          rfl
        refine ⟨_, _, q1, q2, sh, sh, ?_⟩
        have ev : PyData.eqv (.list [.list ((snds mts).map S5.data), .list (gs'.map PyData.str)]) (.list [.list ((snds mts).map S5.data), .list (gs'.map PyData.str)]) = true := by
          rw [PyData.eqv, PyData.eqvAll, PyData.eqvAll, PyData.eqvAll, eqv_sts, eqv_strs]
          simp
        rw [ev]
        exact z _ (same_trans s7 (same_trans s710 s1013))
end
end K4
end
section
set_option Elab.async false
set_option linter.all false
set_option maxRecDepth 100000
set_option maxHeartbeats 4000000
namespace K4
open PySem PySem.Spec PyProof.Rows L2 H3 H4
def okB : Ch → Bool
  | .put s => decide (Wd s.nm) && (decide (Wd s.st) && (decide (Wd s.en) && (decide (s.st ≠ s.en) && (decide (0 ≤ s.wd) && (decide (s.wd ≤ 1000000) && (decide (0 ≤ s.ln) && decide (s.ln ≤ 1000000)))))))
  | .out z => decide (Wd z)
  | .ck (.w z i) => decide (Wd z) && (decide (0 ≤ i) && decide (i ≤ 1000000))
  | .ck (.l z i) => decide (Wd z) && (decide (0 ≤ i) && decide (i ≤ 1000000))
  | .ck (.t z) => decide (Wd z)
theorem okB_ok {k : Ch} (h : okB k = true) : k.Ok := by
  cases k with
  | put s =>
    simp only [okB, Bool.and_eq_true, decide_eq_true_eq] at h
    exact h
  | out z => exact (of_decide_eq_true h : Wd z)
  | ck k =>
    cases k with
    | w z i =>
      simp only [okB, Bool.and_eq_true, decide_eq_true_eq] at h
      exact h
    | l z i =>
      simp only [okB, Bool.and_eq_true, decide_eq_true_eq] at h
      exact h
    | t z => exact ⟨of_decide_eq_true h, trivial⟩
theorem mk_all : (mkAll.all fun ks => ks.all okB && decide (ks.length ≤ 4)) = true := by decide +kernel
theorem mk_ok {ks : List Ch} (h : ks ∈ mkAll) : (∀ k ∈ ks, k.Ok) ∧ ks.length ≤ 4 := by
  have := List.all_eq_true.mp mk_all ks h
  simp only [Bool.and_eq_true, decide_eq_true_eq] at this
  exact ⟨fun k hk => okB_ok (List.all_eq_true.mp this.1 k hk), this.2⟩
end K4
end
section
set_option Elab.async false
set_option linter.all false
set_option maxRecDepth 100000
set_option maxHeartbeats 8000000
namespace K4
open PySem PySem.Spec PyProof.Rows L2 H3 H4
/-! ### _law_exact of the very same thing -/
def Sc (H : Hp) (CQ : Addr) (f : Bool) (v : V) : Prop := v = .non ∨ (∃ b, v = .bl b) ∨ (∃ i, v = .int i) ∨ (∃ z, v = .str z) ∨ (f = true ∧ ∃ q ss gs, v = .ref q ∧ IsQ H CQ q ss gs)
/-- of at most n levels; dictionaries (texts as keys, none within another) and quarters where f says so -/
def Sm (H : Hp) (CQ : Addr) : Nat → Bool → V → Prop
  | 0, f, v => Sc H CQ f v
  | n + 1, f, v => Sc H CQ f v ∨ (∃ a xs, v = .ref a ∧ (H a = some (.lst xs) ∨ H a = some (.tup xs)) ∧ xs.length ≤ 1000 ∧ ∀ x ∈ xs, Sm H CQ n f x) ∨
      (f = true ∧ 1 ≤ n ∧ ∃ a kvs, v = .ref a ∧ H a = some (.dK kvs) ∧ kvs.length ≤ 1000 ∧ (∀ kv ∈ kvs, ∃ z, kV kv.1 = .str z) ∧ ∀ kv ∈ kvs, valV kvs kv.1 = some kv.2 ∧ Sm H CQ n false kv.2)
theorem Sc.keep {H H' : Hp} {CQ : Addr} {f : Bool} {v : V} (s : Same H H') (h : Sc H CQ f v) : Sc H' CQ f v := by
  rcases h with h | h | h | h | ⟨e, q, ss, gs, h1, h2⟩
  · exact .inl h
  · exact .inr (.inl h)
  · exact .inr (.inr (.inl h))
  · exact .inr (.inr (.inr (.inl h)))
  · exact .inr (.inr (.inr (.inr ⟨e, q, ss, gs, h1, h2.keep s⟩)))
theorem Sm.keep {H H' : Hp} {CQ : Addr} (s : Same H H') : ∀ {n : Nat} {f : Bool} {v : V}, Sm H CQ n f v → Sm H' CQ n f v
  | 0, f, v, h => Sc.keep s h
  | n + 1, f, v, h => by
    rcases h with h | ⟨a, xs, e, h, l, hx⟩ | ⟨e, n1, a, kvs, e2, h, l, hk, hx⟩
    · exact .inl (Sc.keep s h)
    · exact .inr (.inl ⟨a, xs, e, h.imp (s _ _) (s _ _), l, fun x hx' => (hx x hx').keep s⟩)
    · exact .inr (.inr ⟨e, n1, a, kvs, e2, s _ _ h, l, hk, fun kv hkv => ⟨(hx kv hkv).1, (hx kv hkv).2.keep s⟩⟩)
theorem Sm.up {H : Hp} {CQ : Addr} : ∀ {n : Nat} {f : Bool} {v : V}, Sm H CQ n f v → Sm H CQ (n + 1) f v
  | 0, f, v, h => .inl h
  | n + 1, f, v, h => by
    rcases h with h | ⟨a, xs, e, h, l, hx⟩ | ⟨e, n1, a, kvs, e2, h, l, hk, hx⟩
    · exact .inl h
    · exact .inr (.inl ⟨a, xs, e, h, l, fun x hx' => (hx x hx').up⟩)
    · exact .inr (.inr ⟨e, by omega, a, kvs, e2, h, l, hk, fun kv hkv => ⟨(hx kv hkv).1, (hx kv hkv).2.up⟩⟩)
theorem Sm.le {H : Hp} {CQ : Addr} {m n : Nat} {f : Bool} {v : V} (h : Sm H CQ m f v) (l : m ≤ n) : Sm H CQ n f v := by
  induction l with
  | refl => exact h
  | step _ ih => exact ih.up
/-- a dictionary elsewhere is locked -/
theorem Sm.frz {H : Hp} {CQ a : Addr} {kvs : List (Key × V)} {u : HO} (ha : H a = some (.dK kvs)) : ∀ {n : Nat} {v : V}, Sm H CQ n false v → Sm (upd H a u) CQ n false v := by
  have sc : ∀ {v}, Sc H CQ false v → Sc (upd H a u) CQ false v := by
    rintro v (h | h | h | h | ⟨e, _⟩)
    · exact .inl h
    · exact .inr (.inl h)
    · exact .inr (.inr (.inl h))
    · exact .inr (.inr (.inr (.inl h)))
    · exact absurd e (by decide)
  intro n
  induction n with
  | zero => exact fun h => sc h
  | succ n ih =>
    rintro v (h | ⟨b, xs, e, h, l, hx⟩ | ⟨e, _⟩)
    · exact .inl (sc h)
    · have ne : b ≠ a := by
        intro e
        subst e
        rcases h with h | h <;> rw [ha] at h <;> cases h
      exact .inr (.inl ⟨b, xs, e, by rw [upd_ne ne]; exact h, l, fun x hx' => ih (hx x hx')⟩)
    · exact absurd e (by decide)
/-- the same, or two lists (two tuples) of the same things -/
inductive Pm (H : Hp) (CQ : Addr) : Nat → Bool → V → V → Prop
  | sc {n : Nat} {f : Bool} {v : V} (h : Sc H CQ f v) : Pm H CQ n f v v
  | lst {n : Nat} {f : Bool} {a b : Addr} {xs : List V} (ha : H a = some (.lst xs)) (hb : H b = some (.lst xs)) (l : xs.length ≤ 1000) (h : ∀ x ∈ xs, Sm H CQ n f x) : Pm H CQ (n + 1) f (.ref a) (.ref b)
  | tup {n : Nat} {f : Bool} {a b : Addr} {xs : List V} (ha : H a = some (.tup xs)) (hb : H b = some (.tup xs)) (l : xs.length ≤ 1000) (h : ∀ x ∈ xs, Sm H CQ n f x) : Pm H CQ (n + 1) f (.ref a) (.ref b)
  | dct {n : Nat} {a : Addr} {kvs : List (Key × V)} (ha : H a = some (.dK kvs)) (n1 : 1 ≤ n) (l : kvs.length ≤ 1000) (hk : ∀ kv ∈ kvs, ∃ z, kV kv.1 = .str z) (h : ∀ kv ∈ kvs, valV kvs kv.1 = some kv.2 ∧ Sm H CQ n false kv.2) : Pm H CQ (n + 1) true (.ref a) (.ref a)
theorem Sm.pm {H : Hp} {CQ : Addr} {n : Nat} {f : Bool} {v : V} (h : Sm H CQ n f v) : Pm H CQ n f v v := by
  cases n with
  | zero => exact .sc h
  | succ n =>
    rcases h with h | ⟨a, xs, rfl, h | h, l, hx⟩ | ⟨rfl, n1, a, kvs, rfl, h, l, hk, hx⟩
    · exact .sc h
    · exact .lst h h l hx
    · exact .tup h h l hx
    · exact .dct h n1 l hk hx
def spSame (CQ : Addr) (n : Nat) : Sp := fun vs H Q _ => ∃ (f : Bool) (x y : V), vs = [x, y] ∧ Pm H CQ n f x y ∧ ∀ H', Same H H' → Q (.bl true) H'
abbrev NX2 : List Str := ["_law_one", "_law_other", "_law_alike", "_law_a", "_law_b", "_law_key"]
theorem scExact2 : FnScope NX2 ["_law_one", "_law_other"] (defScope sExact) := ⟨rfl, rfl, rfl, by decide +kernel, rfl, by decide +kernel, by decide +kernel⟩
/-- one reading or the other -/
theorem op_or {X : Cx} {g : Value → Value → Sem Value} {r1 r2 : R2} (h1 : OpR X g r1) (h2 : OpR X g r2) : OpR X g (fun x y H Q => r1 x y H Q ∨ r2 x y H Q) := by
  intro pins s σ H x y v u Q I rx ry h
  rcases h with h | h
  · exact h1 pins s σ H x y v u Q I rx ry h
  · exact h2 pins s σ H x y v u Q I rx ry h
section
variable {P : Program} {w : World} {K : PySem.W.Frag} {mg : Str → Option Value} {base : Heap}
/-- what the head says of a quarter's kinds -/
structure KQ (K : PySem.W.Frag) (CQ : Addr) : Prop where
  l : PySem.W.kitOne K (.ref CQ) (.type "list") = some false
  t : PySem.W.kitOne K (.ref CQ) (.type "tuple") = some false
  d : PySem.W.kitOne K (.ref CQ) (.type "dict") = some false
  b : PySem.W.kitOne K (.ref CQ) (.type "bool") = some false
theorem ok_same_step {CQ iQ eQ : Addr} {f : Addr} {fd : FuncData} (F : FnP K "_law_exact" sExact f fd) (hm : mg "_law_exact" = some (.ref f)) (hk : PySem.W.keepIn K (.ref f) = true) (hb : Binds K fd ["_law_one", "_law_other"] []) (c : ClsF K CQ iQ eQ) (kq : KQ K CQ) (Z : EqZ P w K mg base CQ) (T : Tx K mg)
    (n : Nat) (spP : Sp) (GP : FnOk P w K mg base CX0 (n + 1) f fd ["_law_one", "_law_other"] spP) (hP : ∀ m vs H Q E, n = m + 1 → spSame CQ m vs H Q E → spP vs H Q E) : FnOk P w K mg base CX0 (n + 2) f fd ["_law_one", "_law_other"] (spSame CQ n) := by
  refine F.ok scExact2 (fun vs H Q E h => ?_) (fun cdv A outer s H vs Q E hr h => ?_)
  · obtain ⟨_, _, _, rfl, _⟩ := h
    rfl
  · obtain ⟨ff, x, y, rfl, hp, q⟩ := h
    have gIs := T.fr "isinstance" (by decide +kernel)
    have gLi := T.fr "list" (by decide +kernel)
    have gTu := T.fr "tuple" (by decide +kernel)
    have gDi := T.fr "dict" (by decide +kernel)
    have gL := T.fr "len" (by decide +kernel)
    have gA := T.fr "all" (by decide +kernel)
    have gZ := T.fr "zip" (by decide +kernel)
    have gBo := T.fr "bool" (by decide +kernel)
    have GR : Fz P w K mg base "_law_exact" (n + 1) ["_law_one", "_law_other"] spP := ⟨f, fd, GP, hm, hk, hb⟩
    have r1 : Room 1 (A.deeper (envOfC "_law_exact" (defScope sExact) s.heap.objs.size f cdv)) := hr.mono (by omega)
    have hu : (A.deeper (envOfC "_law_exact" (defScope sExact) s.heap.objs.size f cdv)).units + 1 < cLine := by
      have := hr.un
      omega
    refine ⟨_, PSs.nox (pss_cons (ps_if (pt_val (pe_callB call_isiT (by rfl) gIs (by decide +kernel) (pa_cons (pv 0) (pa_cons (pe_tup (pa_cons (pe_bltn (v := .ty "list") (by rfl) gLi (by decide +kernel) rfl) (pa_cons (pe_bltn (v := .ty "tuple") (by rfl) gTu (by decide +kernel) rfl) pa_nil))) pa_nil)))) (pss_cons (ps_set (i := 2) scExact2.nd rfl (Or.inl rfl) (pe_and (pe_cmpR op_eq (pe_callB call_isi (by rfl) gIs (by decide +kernel) (pa_cons (pv 1) (pa_cons (pe_bltn (v := .ty "list") (by rfl) gLi (by decide +kernel) rfl) pa_nil))) (pe_callB call_isi (by rfl) gIs (by decide +kernel) (pa_cons (pv 0) (pa_cons (pe_bltn (v := .ty "list") (by rfl) gLi (by decide +kernel) rfl) pa_nil))) (nomark _)) (pe_one (pe_cmpR op_eq (pe_callB call_isi (by rfl) gIs (by decide +kernel) (pa_cons (pv 1) (pa_cons (pe_bltn (v := .ty "tuple") (by rfl) gTu (by decide +kernel) rfl) pa_nil))) (pe_callB call_isi (by rfl) gIs (by decide +kernel) (pa_cons (pv 0) (pa_cons (pe_bltn (v := .ty "tuple") (by rfl) gTu (by decide +kernel) rfl) pa_nil))) (nomark _)))))
          (pss_one (ps_ret (pe_and (pv 2) (pe_and (pe_cmpR op_eq (pe_callB call_len_seq (by rfl) gL PySem.boot_len (pa_cons (pv 0) pa_nil)) (pe_callB call_len_seq (by rfl) gL PySem.boot_len (pa_cons (pv 1) pa_nil)) (nomark _)) (pe_one (pe_callB (cr_all rfl) (by rfl) gA (by decide +kernel)
            (pa_cons (pe_lc (own := [("_law_a", 3), ("_law_b", 4)]) (g := gTup K 2 (gCons (gName 3) (gCons (gName 4) gNil))) (tt := tYes) rfl scExact2.nd (RZ.pi_zipA (by rfl) gZ (pa_cons (pv 0) (pa_cons (pv 1) pa_nil))) (blkOk_by (own := [("_law_a", 3), ("_law_b", 4)]) (N := NX2) (sc := defScope sExact) (by decide +kernel))
              (fun _ _ _ _ _ => pg_tup rfl (pgs_cons (pg_name (i := 3) scExact2.nd rfl (Or.inl rfl)) (pgs_cons (pg_name (i := 4) scExact2.nd rfl (Or.inl rfl)) pgs_nil))) (fun _ _ _ _ _ => pts_nil) (fun _ _ _ _ _ => pe_fz GR hr (by rfl) (pa_cons (pv 3) (pa_cons (pv 4) pa_nil)))) pa_nil)))))))) pss_nil)
        (pss_cons (ps_if (pt_val (pe_callB call_isi (by rfl) gIs (by decide +kernel) (pa_cons (pv 0) (pa_cons (pe_bltn (v := .ty "dict") (by rfl) gDi (by decide +kernel) rfl) pa_nil))))
          (pss_cons (ps_set (i := 2) scExact2.nd rfl (Or.inl rfl) (pe_and (pe_callB call_isi (by rfl) gIs (by decide +kernel) (pa_cons (pv 1) (pa_cons (pe_bltn (v := .ty "dict") (by rfl) gDi (by decide +kernel) rfl) pa_nil))) (pe_one (pe_fz GR hr (by rfl) (pa_cons (pe_callTy (call_listD rfl) (by rfl) gLi (by decide +kernel) (pa_cons (pv 0) pa_nil)) (pa_cons (pe_callTy (call_listD rfl) (by rfl) gLi (by decide +kernel) (pa_cons (pv 1) pa_nil)) pa_nil))))))
          (pss_one (ps_ret (pe_and (pv 2) (pe_one (pe_callB (cr_all rfl) (by rfl) gA (by decide +kernel) (pa_cons (pe_lock (pe_lc (own := [("_law_key", 5)]) (g := gName 5) (tt := tYes) rfl scExact2.nd (pi_keys (pv 0)) (blkOk_by (own := [("_law_key", 5)]) (N := NX2) (sc := defScope sExact) (by decide +kernel))
              (fun _ _ _ _ _ => pg_name (i := 5) scExact2.nd rfl (Or.inl rfl)) (fun _ _ _ _ _ => pts_nil) (fun _ _ _ _ _ => pe_fz GR hr (by rfl) (pa_cons (pe_dget hu (pv 0) (pv 5) (fun _ _ => rfl)) (pa_cons (pe_dget hu (pv 1) (pv 5) (fun _ _ => rfl)) pa_nil))))) pa_nil))))))) pss_nil)
        (pss_one (ps_ret (pe_and (pe_cmpR op_eq (pe_callB call_isi (by rfl) gIs (by decide +kernel) (pa_cons (pv 0) (pa_cons (pe_bltn (v := .ty "bool") (by rfl) gBo (by decide +kernel) rfl) pa_nil))) (pe_callB call_isi (by rfl) gIs (by decide +kernel) (pa_cons (pv 1) (pa_cons (pe_bltn (v := .ty "bool") (by rfl) gBo (by decide +kernel) rfl) pa_nil))) (nomark _)) (pe_one (pe_cmpR (op_or op_eq (op_qEq Z r1)) (pv 0) (pv 1) (nomark _)))))))), ?_⟩
    have sl := sizeLine_eq
    have two : 2 ≤ sizeLine := by omega
    cases hp with
    | sc h =>
      have kd : (∃ (t : String) (b : Bool), (∀ H, TyX K H x (.type t)) ∧ scal x x = true ∧ kitB t "list" = some false ∧ kitB t "tuple" = some false ∧ kitB t "dict" = some false ∧ kitB t "bool" = some b) ∨ ∃ q ss gs, x = .ref q ∧ IsQ H CQ q ss gs := by
        rcases h with rfl | ⟨b, rfl⟩ | ⟨i, rfl⟩ | ⟨z, rfl⟩ | ⟨_, h⟩
        · exact .inl ⟨"NoneType", false, fun H => .base .non, rfl, by decide +kernel, by decide +kernel, by decide +kernel, by decide +kernel⟩
        · exact .inl ⟨"bool", true, fun H => .base (.bl b), rfl, by decide +kernel, by decide +kernel, by decide +kernel, by decide +kernel⟩
        · exact .inl ⟨"int", false, fun H => .base (.int i), rfl, by decide +kernel, by decide +kernel, by decide +kernel, by decide +kernel⟩
        · exact .inl ⟨"str", false, fun H => .base (.str z), rfl, by decide +kernel, by decide +kernel, by decide +kernel, by decide +kernel⟩
        · exact .inr h
      rcases kd with ⟨t, b, ty, e2, k1, k2, k3, k4⟩ | ⟨a, ss, gs, rfl, ha⟩
      · refine ⟨_, rfl, two, fun tp ntp => ?_⟩
        refine ⟨_, _, _, _, _, _, rfl, upd_same, .cons (.ty _) (.cons (.ty _) .nil), ty _, kitAny_cons (kit_ty k1) (fun _ => kitAny_cons (kit_ty k2) (fun _ => kitAny_nil) (fun z => nomatch z)) (fun z => nomatch z), _, rfl, ifF (by decide) ?_⟩
        refine ⟨_, rfl, _, _, _, _, _, rfl, .ty _, ty _, kit_ty k3, _, rfl, ifF (by decide) ?_⟩
        refine ⟨_, rfl, _, _, _, _, _, rfl, .ty _, ty _, kit_ty k4, _, rfl, _, _, _, _, _, rfl, .ty _, ty _, kit_ty k4, rfl, _, rfl, ifT (by simp) ?_⟩
        refine ⟨_, rfl, _, rfl, .inl ⟨e2, ?_⟩⟩
        rw [decide_eq_true rfl]
        exact q _ (same_upd ntp)
      · have at_ : ∃ dx fs, H a = some (.ins CQ dx fs) := by
          obtain ⟨⟨dx, l, g, ts, hs, hq, _⟩, _, _⟩ := ha
          exact ⟨_, _, hq.at_⟩
        obtain ⟨dx, fs, at_⟩ := at_
        refine ⟨_, rfl, two, fun tp ntp => ?_⟩
        have s0 := same_upd (o := HO.tup [V.ty "list", V.ty "tuple"]) ntp
        refine ⟨_, _, _, _, _, _, rfl, upd_same, .cons (.ty _) (.cons (.ty _) .nil), c.ty (s0 _ _ at_), kitAny_cons kq.l (fun _ => kitAny_cons kq.t (fun _ => kitAny_nil) (fun z => nomatch z)) (fun z => nomatch z), _, rfl, ifF (by decide) ?_⟩
        generalize upd H tp (.tup [V.ty "list", V.ty "tuple"]) = H1 at s0 ⊢
        have at1 := s0 _ _ at_
        refine ⟨_, rfl, _, _, _, _, _, rfl, .ty _, c.ty at1, kq.d, _, rfl, ifF (by decide) ?_⟩
        refine ⟨_, rfl, _, _, _, _, _, rfl, .ty _, c.ty at1, kq.b, _, rfl, _, _, _, _, _, rfl, .ty _, c.ty at1, kq.b, rfl, _, rfl, ifT (by simp) ?_⟩
        refine ⟨_, rfl, _, rfl, .inr ⟨a, a, ss, ss, gs, gs, rfl, rfl, ha.keep s0, ha.keep s0, fun k hk => ?_⟩⟩
        rw [hk.mpr ⟨.refl _, .refl _⟩]
        exact q _ s0
    | @lst n _ a b xs ha hb' lx h =>
      have ST := hP n
      refine ⟨_, rfl, two, fun tp ntp => ?_⟩
      have s0 := same_upd (o := HO.tup [V.ty "list", V.ty "tuple"]) ntp
      refine ⟨_, _, _, _, _, _, rfl, upd_same, .cons (.ty _) (.cons (.ty _) .nil), .base (.lst (s0 _ _ ha)), kitAny_cons (kit_ty (r := true) (by decide +kernel)) (fun z => nomatch z) (fun _ => rfl), _, rfl, ifT rfl ?_⟩
      generalize upd H tp (.tup [V.ty "list", V.ty "tuple"]) = H1 at s0 ⊢
      have ha1 := s0 _ _ ha
      have hb1 := s0 _ _ hb'
      refine ⟨_, rfl, _, _, _, _, _, rfl, .ty _, .base (.lst hb1), kit_ty (r := true) (by decide +kernel), _, rfl, _, _, _, _, _, rfl, .ty _, .base (.lst ha1), kit_ty (r := true) (by decide +kernel), rfl, _, rfl, ifT (by simp) ?_⟩
      refine ⟨_, rfl, _, _, _, _, _, rfl, .ty _, .base (.lst hb1), kit_ty (r := false) (by decide +kernel), _, rfl, _, _, _, _, _, rfl, .ty _, .base (.lst ha1), kit_ty (r := false) (by decide +kernel), rfl, ?_⟩
      refine ⟨_, rfl, _, rfl, ifT (by simp) ?_⟩
      refine ⟨_, rfl, a, xs, rfl, Or.inl (SqL.of ha1), _, rfl, b, xs, rfl, Or.inl (SqL.of hb1), rfl, _, rfl, ifT (by simp) ?_⟩
      refine ⟨_, rfl, _, rfl, a, b, xs, xs, rfl, Or.inl ⟨SqL.of ha1, SqL.of hb1, fun D nD => ?_⟩⟩
      refine lc_it (walk_zip (K := K) (a := a) (b := b) (xs := xs) (ys := xs) (n := xs.length) (by omega)) (fun j H' => Same H1 H' ∧ H' D = some (.lst ((List.replicate j true).map V.bl))) ⟨same_upd nD, upd_same⟩ (fun j H' _ h => ⟨SqL.of (h.1 _ _ ha1), SqL.of (h.1 _ _ hb1)⟩) ?_ ?_
      · rintro j v H2 H3 hj ⟨s1, hD⟩ ⟨Tp, u, z, rfl, nT, rfl, hu, hz⟩
        rw [hu] at hz
        cases hz
        have s3 := same_upd (o := HO.tup [u, u]) nT
        have hT : upd H2 Tp (.tup [u, u]) Tp = some (.tup [u, u]) := upd_same
        generalize upd H2 Tp (.tup [u, u]) = H3 at s3 hT ⊢
        have s13 := same_trans s0 (same_trans s1 s3)
        refine ⟨Tp, _, rfl, SqT.of hT, rfl, _, _, rfl, _, _, rfl, rfl, rfl, _, rfl, _, rfl, ST _ _ _ _ rfl ⟨_, u, u, rfl, (((h u (List.mem_of_getElem? hu)).keep s13)).pm, fun H4 s4 => ?_⟩⟩
        have hD4 := s4 _ _ (s3 _ _ hD)
        refine ⟨_, hD4, by rw [List.length_map, List.length_replicate]; omega, fun b o eb => ?_, ?_⟩
        · rw [upd_ne (ne_of_none eb nD)]
          exact s4 _ _ (s3 _ _ (s1 _ _ eb))
        · rw [upd_same, List.replicate_succ', List.map_append]
          rfl
      · rintro H2 ⟨s1, hD⟩
        refine ⟨D, List.replicate _ true, rfl, SqL.of hD, ?_⟩
        have e : (List.replicate xs.length true).all id = true := by simp
        rw [e]
        exact q H2 (same_trans s0 s1)
    | @tup n _ a b xs ha hb' lx h =>
      have ST := hP n
      refine ⟨_, rfl, two, fun tp ntp => ?_⟩
      have s0 := same_upd (o := HO.tup [V.ty "list", V.ty "tuple"]) ntp
      refine ⟨_, _, _, _, _, _, rfl, upd_same, .cons (.ty _) (.cons (.ty _) .nil), .base (.tup (s0 _ _ ha)), kitAny_cons (kit_ty (r := false) (by decide +kernel)) (fun _ => kitAny_cons (kit_ty (r := true) (by decide +kernel)) (fun z => nomatch z) (fun _ => rfl)) (fun z => nomatch z), _, rfl, ifT rfl ?_⟩
      generalize upd H tp (.tup [V.ty "list", V.ty "tuple"]) = H1 at s0 ⊢
      have ha1 := s0 _ _ ha
      have hb1 := s0 _ _ hb'
      refine ⟨_, rfl, _, _, _, _, _, rfl, .ty _, .base (.tup hb1), kit_ty (r := false) (by decide +kernel), _, rfl, _, _, _, _, _, rfl, .ty _, .base (.tup ha1), kit_ty (r := false) (by decide +kernel), rfl, _, rfl, ifT (by simp) ?_⟩
      refine ⟨_, rfl, _, _, _, _, _, rfl, .ty _, .base (.tup hb1), kit_ty (r := true) (by decide +kernel), _, rfl, _, _, _, _, _, rfl, .ty _, .base (.tup ha1), kit_ty (r := true) (by decide +kernel), rfl, ?_⟩
      refine ⟨_, rfl, _, rfl, ifT (by simp) ?_⟩
      refine ⟨_, rfl, a, xs, rfl, Or.inr (SqT.of ha1), _, rfl, b, xs, rfl, Or.inr (SqT.of hb1), rfl, _, rfl, ifT (by simp) ?_⟩
      refine ⟨_, rfl, _, rfl, a, b, xs, xs, rfl, Or.inr ⟨SqT.of ha1, SqT.of hb1, fun D nD => ?_⟩⟩
      refine lc_it (walk_zipT (K := K) (a := a) (b := b) (xs := xs) (ys := xs) (n := xs.length) (by omega)) (fun j H' => Same H1 H' ∧ H' D = some (.lst ((List.replicate j true).map V.bl))) ⟨same_upd nD, upd_same⟩ (fun j H' _ h => ⟨SqT.of (h.1 _ _ ha1), SqT.of (h.1 _ _ hb1)⟩) ?_ ?_
      · rintro j v H2 H3 hj ⟨s1, hD⟩ ⟨Tp, u, z, rfl, nT, rfl, hu, hz⟩
        rw [hu] at hz
        cases hz
        have s3 := same_upd (o := HO.tup [u, u]) nT
        have hT : upd H2 Tp (.tup [u, u]) Tp = some (.tup [u, u]) := upd_same
        generalize upd H2 Tp (.tup [u, u]) = H3 at s3 hT ⊢
        have s13 := same_trans s0 (same_trans s1 s3)
        refine ⟨Tp, _, rfl, SqT.of hT, rfl, _, _, rfl, _, _, rfl, rfl, rfl, _, rfl, _, rfl, ST _ _ _ _ rfl ⟨_, u, u, rfl, (((h u (List.mem_of_getElem? hu)).keep s13)).pm, fun H4 s4 => ?_⟩⟩
        have hD4 := s4 _ _ (s3 _ _ hD)
        refine ⟨_, hD4, by rw [List.length_map, List.length_replicate]; omega, fun b o eb => ?_, ?_⟩
        · rw [upd_ne (ne_of_none eb nD)]
          exact s4 _ _ (s3 _ _ (s1 _ _ eb))
        · rw [upd_same, List.replicate_succ', List.map_append]
          rfl
      · rintro H2 ⟨s1, hD⟩
        refine ⟨D, List.replicate _ true, rfl, SqL.of hD, ?_⟩
        have e : (List.replicate xs.length true).all id = true := by simp
        rw [e]
        exact q H2 (same_trans s0 s1)
    | @dct n a kvs ha n1 lk hks h =>
      have ST := hP n
      refine ⟨_, rfl, two, fun tp ntp => ?_⟩
      have s0 := same_upd (o := HO.tup [V.ty "list", V.ty "tuple"]) ntp
      have tyd : ∀ {H' : Hp}, Same H H' → TyX K H' (.ref a) (.type "dict") := fun s => (kind_ty (.dct (s _ _ ha))).1
      refine ⟨_, _, _, _, _, _, rfl, upd_same, .cons (.ty _) (.cons (.ty _) .nil), tyd s0, kitAny_cons (kit_ty (r := false) (by decide +kernel)) (fun _ => kitAny_cons (kit_ty (r := false) (by decide +kernel)) (fun _ => kitAny_nil) (fun z => nomatch z)) (fun z => nomatch z), _, rfl, ifF (by decide) ?_⟩
      generalize upd H tp (.tup [V.ty "list", V.ty "tuple"]) = H1 at s0 ⊢
      have ha1 := s0 _ _ ha
      refine ⟨_, rfl, _, _, _, _, _, rfl, .ty _, tyd s0, kit_ty (r := true) (by decide +kernel), _, rfl, ifT rfl ?_⟩
      refine ⟨_, rfl, _, _, _, _, _, rfl, .ty _, tyd s0, kit_ty (r := true) (by decide +kernel), _, rfl, ifT rfl ?_⟩
      refine ⟨_, rfl, a, kvs, rfl, .inl ha1, fun p1 np1 => ?_⟩
      have s1 := same_upd (o := .lst (kvs.map fun kv => kV kv.1)) np1
      have hp1 : upd H1 p1 (.lst (kvs.map fun kv => kV kv.1)) p1 = some (.lst (kvs.map fun kv => kV kv.1)) := upd_same
      generalize upd H1 p1 (.lst (kvs.map fun kv => kV kv.1)) = H2 at s1 hp1 ⊢
      refine ⟨_, rfl, a, kvs, rfl, .inl (s1 _ _ ha1), fun p2 np2 => ?_⟩
      have s2 := same_upd (o := .lst (kvs.map fun kv => kV kv.1)) np2
      have hp2 : upd H2 p2 (.lst (kvs.map fun kv => kV kv.1)) p2 = some (.lst (kvs.map fun kv => kV kv.1)) := upd_same
      generalize upd H2 p2 (.lst (kvs.map fun kv => kV kv.1)) = H3 at s2 hp2 ⊢
      have kl : ∀ x ∈ kvs.map fun kv => kV kv.1, ∀ m, Sm H3 CQ m false x := by
        intro x hx m
        obtain ⟨kv, hkv, rfl⟩ := List.mem_map.mp hx
        obtain ⟨z, e⟩ := hks kv hkv
        rw [e]
        cases m with
        | zero => exact .inr (.inr (.inr (.inl ⟨z, rfl⟩)))
        | succ m => exact .inl (.inr (.inr (.inr (.inl ⟨z, rfl⟩))))
      obtain ⟨n0, rfl⟩ : ∃ n0, n = n0 + 1 := ⟨n - 1, by omega⟩
      refine ST _ _ _ _ rfl ⟨false, _, _, rfl, .lst (s2 _ _ hp1) hp2 (by rw [List.length_map]; exact lk) fun x hx => kl x hx n0, fun H4 s4 => ?_⟩
      have s04 := same_trans s0 (same_trans s1 (same_trans s2 s4))
      have ha4 := s04 _ _ ha
      refine ⟨_, rfl, _, rfl, ifT rfl ?_⟩
      refine ⟨a, _, ha4, trivial, fun od => ⟨_, rfl, a, od, rfl, .inl ⟨kvs, upd_same, fun D nD => ?_⟩⟩⟩
      have nDa : D ≠ a := fun e => by
        rw [e, upd_same] at nD
        cases nD
      have sm : ∀ kv ∈ kvs, Sm (upd H4 a (.frz od (.dK kvs))) CQ (n0 + 1) false kv.2 := fun kv hkv => ((h kv hkv).2.keep s04).frz ha4
      have hf : upd H4 a (.frz od (.dK kvs)) a = some (.frz od (.dK kvs)) := upd_same
      generalize hH5 : upd H4 a (.frz od (.dK kvs)) = H5 at nD sm hf ⊢
      refine lc_it walk_keys (fun j H' => Same H5 H' ∧ H' D = some (.lst ((List.replicate j true).map V.bl))) ⟨same_upd nD, upd_same⟩ (fun j H' _ h => h.1 _ _ hf) ?_ ?_
      · rintro j v H7 H6 hj ⟨s6, hD⟩ ⟨rfl, k, u, hku, rfl⟩
        have mem := List.mem_of_getElem? hku
        obtain ⟨hv, _⟩ := h _ mem
        have get : DGet H6 a (kV k) (some u) := by
          have := s6 _ _ hf
          exact .inl ⟨kvs, k, .inr ⟨_, this⟩, rfl, hv.symm⟩
        refine ⟨rfl, _, rfl, _, rfl, a, u, rfl, get, _, rfl, _, rfl, a, u, rfl, get, ST _ _ _ _ rfl ⟨false, u, u, rfl, ((sm _ mem).keep s6).pm, fun H8 s8 => ?_⟩⟩
        refine ⟨_, s8 _ _ hD, by rw [List.length_map, List.length_replicate]; omega, fun b o eb => ?_, ?_⟩
        · rw [upd_ne (ne_of_none eb nD)]
          exact s8 _ _ (s6 _ _ eb)
        · rw [upd_same, List.replicate_succ', List.map_append]
          rfl
      · rintro H6 ⟨s6, hD⟩
        refine ⟨s6 _ _ hf, D, List.replicate kvs.length true, rfl, SqL.of ?_, ?_⟩
        · rw [upd_ne nDa]
          exact hD
        have e : (List.replicate kvs.length true).all id = true := by simp
        rw [e]
        refine q _ (same_trans s04 fun b o eb => ?_)
        by_cases e2 : b = a
        · subst e2
          rw [ha4] at eb
          rw [upd_same]
          exact eb
        · rw [upd_ne e2]
          refine s6 _ _ ?_
          rw [← hH5, upd_ne e2]
          exact eb
/-- nothing is promised -/
theorem fn_none {k : Nat} {f : Addr} {fd : FuncData} {ps : List Str} : FnOk P w K mg base CX0 k f fd ps (fun _ _ _ _ => False) := ⟨fun _ _ _ _ h => h.elim, fun _ _ _ _ _ _ _ _ _ _ _ _ _ h => h.elim⟩
theorem ok_same {CQ iQ eQ : Addr} {f : Addr} {fd : FuncData} (F : FnP K "_law_exact" sExact f fd) (hm : mg "_law_exact" = some (.ref f)) (hk : PySem.W.keepIn K (.ref f) = true) (hb : Binds K fd ["_law_one", "_law_other"] []) (c : ClsF K CQ iQ eQ) (kq : KQ K CQ) (Z : EqZ P w K mg base CQ) (T : Tx K mg) :
    ∀ n, FnOk P w K mg base CX0 (n + 2) f fd ["_law_one", "_law_other"] (spSame CQ n) := by
  intro n
  induction n with
  | zero => exact ok_same_step F hm hk hb c kq Z T 0 _ fn_none fun m _ _ _ _ e => absurd e (by omega)
  | succ n ih => exact ok_same_step F hm hk hb c kq Z T (n + 1) _ ih (fun m vs H Q E e h => (by
      cases e
      exact h))
end
end K4
end
section
set_option Elab.async false
set_option linter.all false
set_option maxRecDepth 100000
set_option maxHeartbeats 4000000
namespace K4
open PySem PySem.Spec PyProof.Rows L2 H3 H4
/-! ### _law_very -/
theorem same_del {H : Hp} {a : Addr} (h : H a = none) : Same H (del (upd H a u) a) := fun b o e => by
  have : b ≠ a := fun z => by rw [z, h] at e; cases e
  simp only [del, this, if_false]
  rw [upd_ne this]
  exact e
theorem del_keep {H H' : Hp} {a : Addr} (s : Same H H') : Same (del H a) (del H' a) := fun b o e => by
  by_cases h : b = a
  · simp only [del, h, if_true] at e
    cases e
  · simp only [del, h, if_false] at e ⊢
    exact s _ _ e
theorem del_upd {H : Hp} {a : Addr} {u : HO} : Same (del H a) (upd H a u) := fun b o e => by
  by_cases h : b = a
  · simp only [del, h, if_true] at e
    cases e
  · simp only [del, h, if_false] at e
    rw [upd_ne h]
    exact e
/-- a thing that an error may bear: where it is a list, its items stand without it -/
structure Vy (H : Hp) (CQ : Addr) (n : Nat) (v : V) : Prop where
  sm : Sm H CQ (n + 1) true v
  ls : ∀ a xs, v = .ref a → H a = some (.lst xs) → xs.length ≤ 900 ∧ ∀ x ∈ xs, Sm (del H a) CQ n true x
theorem Vy.keep {H H' : Hp} {CQ : Addr} {n : Nat} {v : V} (h : Vy H CQ n v) (s : Same H H') (kn : ∀ a, v = .ref a → ∃ o, H a = some o) : Vy H' CQ n v := by
  refine ⟨h.sm.keep s, fun a xs e h' => ?_⟩
  obtain ⟨o, ho⟩ := kn a e
  have := s _ _ ho
  rw [h'] at this
  cases this
  obtain ⟨h1, h2⟩ := h.ls a xs e ho
  exact ⟨h1, fun x hx => (h2 x hx).keep (del_keep s)⟩
theorem IsQ.there {H : Hp} {CQ q : Addr} {ss : List S5} {gs : List Str} (h : IsQ H CQ q ss gs) : ∃ dx fs, H q = some (.ins CQ dx fs) := by
  obtain ⟨⟨dx, l, g, ts, hs, hq, _⟩, _, _⟩ := h
  exact ⟨_, _, hq.at_⟩
theorem Sm.there {H : Hp} {CQ : Addr} {n : Nat} {f : Bool} {v : V} (h : Sm H CQ n f v) : ∀ a, v = .ref a → ∃ o, H a = some o := by
  have sc : ∀ {v}, Sc H CQ f v → ∀ a, v = .ref a → ∃ o, H a = some o := by
    rintro v (rfl | ⟨_, rfl⟩ | ⟨_, rfl⟩ | ⟨_, rfl⟩ | ⟨_, q, ss, gs, rfl, hq⟩) a e
    · cases e
    · cases e
    · cases e
    · cases e
    · cases e
      obtain ⟨_, _, h⟩ := hq.there
      exact ⟨_, h⟩
  cases n with
  | zero => exact sc h
  | succ n =>
    rcases h with h | ⟨a, xs, rfl, h | h, _⟩ | ⟨_, _, a, kvs, rfl, h, _⟩
    · exact sc h
    · rintro b e
      cases e
      exact ⟨_, h⟩
    · rintro b e
      cases e
      exact ⟨_, h⟩
    · rintro b e
      cases e
      exact ⟨_, h⟩
theorem Vy.keep' {H H' : Hp} {CQ : Addr} {n : Nat} {v : V} (h : Vy H CQ n v) (s : Same H H') : Vy H' CQ n v := h.keep s h.sm.there
theorem Vy.up {H : Hp} {CQ : Addr} {n : Nat} {v : V} (h : Vy H CQ n v) : Vy H CQ (n + 1) v := ⟨h.sm.up, fun a xs e h' => ⟨(h.ls a xs e h').1, fun x hx => ((h.ls a xs e h').2 x hx).up⟩⟩
theorem Vy.le {H : Hp} {CQ : Addr} {m n : Nat} {v : V} (h : Vy H CQ m v) (l : m ≤ n) : Vy H CQ n v := by
  induction l with
  | refl => exact h
  | step _ ih => exact ih.up
/-- what is no list -/
theorem Vy.of {H : Hp} {CQ : Addr} {n : Nat} {v : V} (h : Sm H CQ (n + 1) true v) (nl : ∀ a xs, v = .ref a → H a ≠ some (.lst xs)) : Vy H CQ n v := ⟨h, fun a xs e h' => absurd h' (nl a xs e)⟩
/-- a new list -/
theorem Vy.lst {H : Hp} {CQ : Addr} {n : Nat} {a : Addr} {xs : List V} (na : H a = none) (l : xs.length ≤ 900) (h : ∀ x ∈ xs, Sm H CQ n true x) : Vy (upd H a (.lst xs)) CQ n (.ref a) := by
  refine ⟨.inr (.inl ⟨a, xs, rfl, .inl upd_same, by omega, fun x hx => (h x hx).keep (same_upd na)⟩), fun b ys e h' => ?_⟩
  cases e
  rw [upd_same] at h'
  cases h'
  exact ⟨l, fun x hx => (h x hx).keep (same_del na)⟩
section
variable {P : Program} {w : World} {K : PySem.W.Frag} {mg : Str → Option Value} {base : Heap}
def spVery (CQ : Addr) : Sp := fun vs H Q _ => ∃ (t : Addr) (z : Str) (v : V), vs = [.ref t, .str z, v] ∧ Rep H t z v ∧ Vy H CQ 3 v ∧ ∀ H', Same H H' → Q (.bl true) H'
abbrev NVy : List Str := ["_law_told_here", "_law_word_here", "_law_thing", "_law_same"]
theorem scVery : FnScope NVy ["_law_told_here", "_law_word_here", "_law_thing"] (defScope sVery) := ⟨rfl, rfl, rfl, by decide +kernel, rfl, by decide +kernel, by decide +kernel⟩
theorem ok_very {CQ iQ eQ : Addr} {f : Addr} {fd : FuncData} (F : FnP K "_law_very" sVery f fd) (EX : Fz P w K mg base "_law_exact" 7 ["_law_one", "_law_other"] (spSame CQ 5)) (c : ClsF K CQ iQ eQ) (kq : KQ K CQ) (T : Tx K mg) : FnOk P w K mg base CX0 8 f fd ["_law_told_here", "_law_word_here", "_law_thing"] (spVery CQ) := by
  refine F.ok scVery (fun vs H Q E h => ?_) (fun cdv A outer s H vs Q E hr h => ?_)
  · obtain ⟨_, _, _, rfl, _⟩ := h
    rfl
  · obtain ⟨t, z, v, rfl, ht, vy, q⟩ := h
    have gIs := T.fr "isinstance" (by decide +kernel)
    have gLi := T.fr "list" (by decide +kernel)
    have sl := sizeLine_eq
    refine ⟨_, PSs.nox (pss_cons (ps_if (pt_not (pt_val (pe_fz EX hr (by rfl) (pa_cons (pv 0) (pa_cons (pe_tup (pa_cons (pv 1) (pa_cons (pv 2) (pa_cons pe_bl (pa_cons pe_bl pa_nil))))) pa_nil))))) (pss_one (ps_ret pe_bl)) pss_nil)
      (pss_cons (ps_if (pt_val (pe_callB call_isi (by rfl) gIs (by decide +kernel) (pa_cons (pv 2) (pa_cons (pe_bltn (v := .ty "list") (by rfl) gLi (by decide +kernel) rfl) pa_nil))))
        (pss_cons (ps_expr (pe_bm PySem.F.plainAttrs_list PySem.F.slot_list_append PySem.F.type_list_append mt_append (pv 2) (pa_cons pe_str pa_nil)))
        (pss_cons (ps_set (i := 3) scVery.nd rfl (Or.inl rfl) (pe_fz EX hr (by rfl) (pa_cons (pe_ix ix_tup (pv 0) pe_int (fun _ _ => rfl)) (pa_cons (pv 2) pa_nil))))
        (pss_cons (ps_expr (pe_bm0 PySem.F.plainAttrs_list PySem.F.slot_list_pop PySem.F.type_list_pop mt_pop (pv 2)))
        (pss_one (ps_ret (pv 3)))))) pss_nil)
      (pss_one (ps_ret pe_bl)))), ?_⟩
    have ht : H t = some (.tup [.str z, v, .bl false, .bl true]) := ht
    refine ⟨_, rfl, _, rfl, _, rfl, (by show 4 ≤ sizeLine; omega), fun p np => ?_⟩
    have s1 := same_upd (o := .tup [.str z, v, .bl false, .bl true]) np
    have hp : upd H p (.tup [.str z, v, .bl false, .bl true]) p = some (.tup [.str z, v, .bl false, .bl true]) := upd_same
    generalize upd H p (.tup [.str z, v, .bl false, .bl true]) = H1 at s1 hp ⊢
    refine ⟨true, _, _, rfl, .tup (s1 _ _ ht) hp (by show 4 ≤ 1000; omega) fun x hx => ?_, fun H2 s2 => ⟨_, rfl, ifF (by decide) ?_⟩⟩
    · rcases List.mem_cons.mp hx with rfl | hx
      · exact .inl (.inr (.inr (.inr (.inl ⟨_, rfl⟩))))
      rcases List.mem_cons.mp hx with rfl | hx
      · exact vy.sm.keep s1
      rcases List.mem_cons.mp hx with rfl | hx
      · exact .inl (.inr (.inl ⟨_, rfl⟩))
      rcases List.mem_cons.mp hx with rfl | hx
      · exact .inl (.inr (.inl ⟨_, rfl⟩))
      · exact absurd hx (by simp)
    have s02 := same_trans s1 s2
    have ht2 := s02 _ _ ht
    have vy2 := vy.keep' s02
    have kd : (∃ T, TyX K H2 v T ∧ PySem.W.kitOne K T (.type "list") = some false) ∨ ∃ a xs, v = .ref a ∧ H2 a = some (.lst xs) := by
      rcases vy2.sm with (rfl | ⟨_, rfl⟩ | ⟨_, rfl⟩ | ⟨_, rfl⟩ | ⟨_, q, ss, gs, rfl, hq⟩) | ⟨a, xs, rfl, h | h, _⟩ | ⟨_, _, a, kvs, rfl, h, _⟩
      · exact .inl ⟨_, .base .non, kfl (show kitB "NoneType" "list" = some false by decide +kernel)⟩
      · exact .inl ⟨_, .base (.bl _), kfl (show kitB "bool" "list" = some false by decide +kernel)⟩
      · exact .inl ⟨_, .base (.int _), kfl (show kitB "int" "list" = some false by decide +kernel)⟩
      · exact .inl ⟨_, .base (.str _), kfl (show kitB "str" "list" = some false by decide +kernel)⟩
      · obtain ⟨_, _, at_⟩ := hq.there
        exact .inl ⟨_, c.ty at_, kq.l⟩
      · exact .inr ⟨a, xs, rfl, h⟩
      · exact .inl ⟨_, .base (.tup h), kfl (show kitB "tuple" "list" = some false by decide +kernel)⟩
      · exact .inl ⟨_, (kind_ty (.dct h)).1, kfl (show kitB "dict" "list" = some false by decide +kernel)⟩
    rcases kd with ⟨T', ty, k⟩ | ⟨a, xs, rfl, ha⟩
    · exact ⟨_, rfl, _, _, _, _, _, rfl, .ty _, ty, k, _, rfl, ifF (by decide) (q _ s02)⟩
    · obtain ⟨lx, hx⟩ := vy2.ls a xs rfl ha
      refine ⟨_, rfl, _, _, _, _, _, rfl, .ty _, .base (.lst ha), ktr (by decide +kernel), _, rfl, ifT rfl ?_⟩
      refine ⟨_, rfl, Or.inl ⟨rfl, _, SqL.of ha⟩, a, xs, _, rfl, rfl, ha, by omega, ?_⟩
      have na : t ≠ a := fun e => by
        rw [e, ha] at ht2
        cases ht2
      have ht3 : upd H2 a (.lst (xs ++ [V.str "later"])) t = some (.tup [.str z, .ref a, .bl false, .bl true]) := by rw [upd_ne na]; exact ht2
      have ha3 : upd H2 a (.lst (xs ++ [V.str "later"])) a = some (.lst (xs ++ [V.str "later"])) := upd_same
      have sm3 : ∀ x ∈ xs ++ [V.str "later"], Sm (upd H2 a (.lst (xs ++ [V.str "later"]))) CQ 4 true x := fun x hx' => by
        rcases List.mem_append.mp hx' with h | h
        · exact ((hx x h).keep del_upd).up
        · rw [List.mem_singleton.mp h]
          exact .inl (.inr (.inr (.inr (.inl ⟨_, rfl⟩))))
      have old : ∀ {H' : Hp}, Same (upd H2 a (.lst (xs ++ [V.str "later"]))) H' → Same H2 (upd H' a (.lst xs)) := fun {H'} s b o e => by
        by_cases h : b = a
        · rw [h] at e ⊢
          rw [ha] at e
          rw [upd_same]
          exact e
        · rw [upd_ne h]
          exact s _ _ (by rw [upd_ne h]; exact e)
      generalize upd H2 a (.lst (xs ++ [V.str "later"])) = H3 at ht3 ha3 sm3 old ⊢
      refine ⟨_, rfl, t, _, ((1 : Nat) : Int), _, rfl, rfl, SqT.of ht3, atI_nat rfl, _, rfl, true, _, _, rfl, .lst ha3 ha3 (by rw [List.length_append, List.length_singleton]; omega) sm3, fun H4 s4 => ?_⟩
      have ha4 := s4 _ _ ha3
      refine ⟨_, rfl, Or.inl ⟨rfl, _, SqL.of ha4⟩, a, _, V.str "later", rfl, rfl, ha4, by simp, ⟨_, rfl, ?_⟩⟩
      rw [List.dropLast_concat]
      exact q _ (same_trans s02 (old s4))
end
end K4
end
section
set_option Elab.async false
set_option linter.all false
set_option maxRecDepth 100000
set_option maxHeartbeats 4000000
namespace K4
open PySem PySem.Spec PyProof.Rows L2 H3 H4
/-! ### odd values as they are written -/
mutual
def lv : Od → Nat
  | .lst os => lvA os + 1
  | .tup os => lvA os + 1
  | .dct => 1
  | _ => 0
def lvA : List Od → Nat
  | [] => 0
  | o :: os => max (lv o) (lvA os)
end
structure Ob (H : Hp) (CQ : Addr) (v : V) (o : Od) : Prop where
  od : OdV H v o
  vy : Vy H CQ (lv o) v
inductive ObA (H : Hp) (CQ : Addr) : List V → List Od → Prop
  | nil : ObA H CQ [] []
  | cons {v : V} {vs : List V} {o : Od} {os : List Od} (h : Ob H CQ v o) (hs : ObA H CQ vs os) : ObA H CQ (v :: vs) (o :: os)
theorem Ob.keep {H H' : Hp} {CQ : Addr} {v : V} {o : Od} (h : Ob H CQ v o) (s : Same H H') : Ob H' CQ v o := ⟨h.od.keep s, h.vy.keep' s⟩
theorem ObA.keep {H H' : Hp} {CQ : Addr} {vs : List V} {os : List Od} (h : ObA H CQ vs os) (s : Same H H') : ObA H' CQ vs os := by
  induction h with
  | nil => exact .nil
  | cons h _ ih => exact .cons (h.keep s) ih
theorem ObA.len {H : Hp} {CQ : Addr} {vs : List V} {os : List Od} (h : ObA H CQ vs os) : vs.length = os.length := by
  induction h with
  | nil => rfl
  | cons _ _ ih => rw [List.length_cons, List.length_cons, ih]
theorem ObA.app {H : Hp} {CQ : Addr} {vs vs' : List V} {os os' : List Od} (h : ObA H CQ vs os) (h' : ObA H CQ vs' os') : ObA H CQ (vs ++ vs') (os ++ os') := by
  induction h with
  | nil => exact h'
  | cons a _ ih => exact .cons a ih
theorem ObA.od {H : Hp} {CQ : Addr} {vs : List V} {os : List Od} (h : ObA H CQ vs os) : OdA H vs os := by
  induction h with
  | nil => exact .nil
  | cons a _ ih => exact .cons a.od ih
theorem ObA.sm {H : Hp} {CQ : Addr} {vs : List V} {os : List Od} (h : ObA H CQ vs os) : ∀ x ∈ vs, Sm H CQ (lvA os + 1) true x := by
  induction h with
  | nil => exact fun x hx => by simp at hx
  | cons a _ ih =>
    intro x hx
    rw [lvA]
    rcases List.mem_cons.mp hx with rfl | hx
    · exact a.vy.sm.le (by omega)
    · exact (ih x hx).le (by omega)
theorem ObA.get {H : Hp} {CQ : Addr} {vs : List V} {os : List Od} (h : ObA H CQ vs os) : ∀ {i : Nat} {v : V}, vs[i]? = some v → ∃ o, os[i]? = some o ∧ Ob H CQ v o := by
  induction h with
  | nil => exact fun e => by simp at e
  | cons a _ ih =>
    intro i v e
    cases i with
    | zero =>
      cases e
      exact ⟨_, rfl, a⟩
    | succ i => exact ih e
theorem Ob.tup {H : Hp} {CQ p : Addr} {vs : List V} {os : List Od} (np : H p = none) (h : ObA H CQ vs os) (l : os.length ≤ 900) : Ob (upd H p (.tup vs)) CQ (.ref p) (.tup os) := by
  have h1 := h.keep (same_upd (o := .tup vs) np)
  refine ⟨.tup upd_same h1.od, .of ?_ fun a xs e h' => ?_⟩
  · exact .inr (.inl ⟨p, vs, rfl, .inr upd_same, by rw [h.len]; omega, h1.sm⟩)
  · cases e
    rw [upd_same] at h'
    cases h'
theorem Ob.lst {H : Hp} {CQ p : Addr} {vs : List V} {os : List Od} (np : H p = none) (h : ObA H CQ vs os) (l : os.length ≤ 900) : Ob (upd H p (.lst vs)) CQ (.ref p) (.lst os) :=
  ⟨.lst upd_same (h.keep (same_upd (o := .lst vs) np)).od, .lst np (by rw [h.len]; exact l) h.sm⟩
theorem Ob.sc {H : Hp} {CQ : Addr} {v : V} {o : Od} (h : OdV H v o) (s : Sc H CQ true v) (nr : ∀ a, v ≠ .ref a) : Ob H CQ v o := ⟨h, .of (.inl s) fun a xs e => absurd e (nr a)⟩
theorem Ob.str {H : Hp} {CQ : Addr} {z : Str} (h : z.length ≤ 100) : Ob H CQ (.str z) (.str z) := .sc (.str z h) (.inr (.inr (.inr (.inl ⟨_, rfl⟩)))) fun a e => by cases e
theorem Ob.int {H : Hp} {CQ : Addr} (i : Int) : Ob H CQ (.int i) (.int i) := .sc (.int i) (.inr (.inr (.inl ⟨_, rfl⟩))) fun a e => by cases e
theorem Ob.bl {H : Hp} {CQ : Addr} (b : Bool) : Ob H CQ (.bl b) (.bl b) := .sc (.bl b) (.inr (.inl ⟨_, rfl⟩)) fun a e => by cases e
theorem Ob.non {H : Hp} {CQ : Addr} : Ob H CQ .non .non := .sc .non (.inl rfl) fun a e => by cases e
theorem Ob.dct {H : Hp} {CQ p : Addr} {kvs : List (Key × V)} (hp : H p = some (.dK kvs)) (l : kvs.length ≤ 900) (hk : ∀ kv ∈ kvs, ∃ z, kV kv.1 = .str z) (h : ∀ kv ∈ kvs, valV kvs kv.1 = some kv.2 ∧ Sm H CQ 1 false kv.2) : Ob H CQ (.ref p) .dct :=
  ⟨.dct hp, .of (.inr (.inr ⟨rfl, by show 1 ≤ 1; omega, p, kvs, rfl, hp, by omega, hk, h⟩)) fun a xs e h' => by
    cases e
    rw [hp] at h'
    cases h'⟩
/-- what of H is not in B -/
def mn (B H : Hp) : Hp := fun b => match B b with
  | none => H b
  | some _ => none
theorem mn_at {B H : Hp} {a : Addr} (h : B a = none) : mn B H a = H a := by
  unfold mn
  rw [h]
theorem mn_sub {B H : Hp} : Same (mn B H) H := fun b o e => by
  cases h : B b with
  | none => rwa [mn_at h] at e
  | some u =>
    unfold mn at e
    rw [h] at e
    cases e
theorem mn_keep {B H H' : Hp} (s : Same H H') : Same (mn B H) (mn B H') := fun b o e => by
  cases h : B b with
  | none =>
    rw [mn_at h] at e ⊢
    exact s _ _ e
  | some u =>
    unfold mn at e
    rw [h] at e
    cases e
theorem mn_upd {B H : Hp} {a : Addr} {u : HO} (h : B a = none) : mn B (upd H a u) = upd (mn B H) a u := by
  funext b
  by_cases e : b = a
  · rw [e, upd_same, mn_at h, upd_same]
  · rw [upd_ne e]
    unfold mn
    rw [upd_ne e]
theorem del_updD {H : Hp} {D : Addr} {u : HO} : del (upd H D u) D = del H D := by
  funext b
  by_cases h : b = D
  · simp [del, h]
  · simp only [del, h, if_false]
    rw [upd_ne h]
theorem del_sub {H : Hp} {D : Addr} : Same (del H D) H := fun b o e => by
  by_cases h : b = D
  · simp only [del, h, if_true] at e
    cases e
  · simpa only [del, h, if_false] using e
theorem del_upd_ne {H : Hp} {D p : Addr} {u : HO} (n : p ≠ D) : del (upd H p u) D = upd (del H D) p u := by
  funext b
  by_cases h : b = D
  · rw [h, upd_ne n.symm]
    simp [del]
  · by_cases h2 : b = p
    · simp only [del, h, if_false]
      rw [h2, upd_same, upd_same]
    · rw [upd_ne h2]
      simp only [del, h, if_false]
      rw [upd_ne h2]
theorem same_delN {H H' : Hp} {D : Addr} (s : Same H H') (n : H D = none) : Same H (del H' D) := fun b o e => by
  have : b ≠ D := fun z => by rw [z, n] at e; cases e
  simp only [del, this, if_false]
  exact s _ _ e
theorem sfr {B H : Hp} (s : Same B H) {a : Addr} (h : H a = none) : B a = none := by
  cases e : B a with
  | none => rfl
  | some u =>
    rw [s _ _ e] at h
    cases h
/-- what the text stands on: the list so far, the word of the turn -/
abbrev Rho : Type := List Od × Str
class Stab (B : Hp) (G : Rho → L2.St → Hp → Prop) : Prop where
  keep : ∀ {ρ σ H H'}, G ρ σ H → Same H H' → G ρ σ H'
  sub : ∀ {ρ σ H}, G ρ σ H → Same B H
section
variable {B : Hp} {G : Rho → L2.St → Hp → Prop} {CQ : Addr}
def tO (B : Hp) (G : Rho → L2.St → Hp → Prop) (CQ : Addr) (o : Rho → Od) : TE := fun σ H Q => ∃ ρ, G ρ σ H ∧ ∀ v H', Same H H' → Ob (mn B H') CQ v (o ρ) → Q v H'
def tOs (B : Hp) (G : Rho → L2.St → Hp → Prop) (CQ : Addr) (os : List (Rho → Od)) : TA := fun σ H Q => ∃ ρ, G ρ σ H ∧ ∀ vs H', Same H H' → ObA (mn B H') CQ vs (os.map fun o => o ρ) → Q vs H'
/-- a list that is kept -/
def tOL (B : Hp) (G : Rho → L2.St → Hp → Prop) (CQ : Addr) (f : Rho → List Od) : TE := fun σ H Q => ∃ ρ, G ρ σ H ∧ ∀ l vs H', Same H H' → H' l = some (.lst vs) → ObA (mn B H') CQ vs (f ρ) → Q (.ref l) H'
/-- a tuple that is gone through -/
def tOT (B : Hp) (G : Rho → L2.St → Hp → Prop) (CQ : Addr) (f : Rho → List Od) : TE := fun σ H Q => ∃ ρ, G ρ σ H ∧ ∀ l vs H', Same H H' → H' l = some (.tup vs) → ObA (mn B H') CQ vs (f ρ) → Q (.ref l) H'
section
variable [S : Stab B G] {X : Cx} {e e2 : Expr} {es : List Expr} {o : Rho → Od} {os : List (Rho → Od)} {f g : Rho → List Od} {pos : Pos} {x1 : Nat}
theorem os0 : PA X [] (tOs B G CQ []) := wkA pa_nil fun σ H Q ⟨ρ, _, h⟩ => h [] H (Same.refl _) .nil
theorem osC (he : PE X e (tO B G CQ o)) (ha : PA X es (tOs B G CQ os)) (hs : starEach (e :: es) X.env = (false, eval e X.env) :: starEach es X.env := by rfl) : PA X (e :: es) (tOs B G CQ (o :: os)) := wkA (pa_cons he ha hs) fun σ H Q ⟨ρ, g, h⟩ =>
  ⟨ρ, g, fun v H1 s1 hv => ⟨ρ, S.keep g s1, fun vs H2 s2 hvs => h (v :: vs) H2 (same_trans s1 s2) (.cons (hv.keep (mn_keep s2)) hvs)⟩⟩
theorem oStr {z : Str} (h : PE X e (tC (.str z))) (l : z.length ≤ 100 := by decide +kernel) : PE X e (tO B G CQ fun _ => .str z) := wkE h fun σ H Q ⟨ρ, g, k⟩ => k _ H (Same.refl _) (.str l)
theorem oInt {i : Int} (h : PE X e (tC (.int i))) : PE X e (tO B G CQ fun _ => .int i) := wkE h fun σ H Q ⟨ρ, g, k⟩ => k _ H (Same.refl _) (.int i)
theorem oNeg {i : Int} (h : PE X e (tUn (rU fun i => .int (-i)) (tC (.int i)))) : PE X e (tO B G CQ fun _ => .int (-i)) := wkE h fun σ H Q ⟨ρ, g, k⟩ => ⟨i, rfl, k _ H (Same.refl _) (.int _)⟩
theorem oBl {i : Bool} (h : PE X e (tC (.bl i))) : PE X e (tO B G CQ fun _ => .bl i) := wkE h fun σ H Q ⟨ρ, g, k⟩ => k _ H (Same.refl _) (.bl i)
theorem oNon (h : PE X e (tC .non)) : PE X e (tO B G CQ fun _ => .non) := wkE h fun σ H Q ⟨ρ, g, k⟩ => k _ H (Same.refl _) .non
theorem oTup (h : PA X es (tOs B G CQ os)) (l : os.length ≤ 900 := by decide) : PE X (.Tuple es x1 pos) (tO B G CQ fun ρ => .tup (os.map fun o => o ρ)) := wkE (pe_tup h) fun σ H Q ⟨ρ, g, k⟩ => ⟨ρ, g, fun vs H1 s1 hv => ⟨by
  have := hv.len
  rw [List.length_map] at this
  have := sizeLine_eq
  omega, fun p np => k _ _ (same_trans s1 (same_upd np)) (by
  have nB := sfr (same_trans (S.sub g) s1) np
  rw [mn_upd nB]
  exact .tup (by rw [mn_at nB]; exact np) hv (by rw [List.length_map]; exact l))⟩⟩
theorem oLst (h : PA X es (tOs B G CQ os)) (l : os.length ≤ 900 := by decide) : PE X (.List es pos) (tO B G CQ fun ρ => .lst (os.map fun o => o ρ)) := wkE (pe_lst h) fun σ H Q ⟨ρ, g, k⟩ => ⟨ρ, g, fun vs H1 s1 hv => ⟨by
  have := hv.len
  rw [List.length_map] at this
  have := sizeLine_eq
  omega, fun p np => k _ _ (same_trans s1 (same_upd np)) (by
  have nB := sfr (same_trans (S.sub g) s1) np
  rw [mn_upd nB]
  exact .lst (by rw [mn_at nB]; exact np) hv (by rw [List.length_map]; exact l))⟩⟩
theorem olLst (h : PA X es (tOs B G CQ os)) (l : os.length ≤ 900 := by decide) : PE X (.List es pos) (tOL B G CQ fun ρ => os.map fun o => o ρ) := wkE (pe_lst h) fun σ H Q ⟨ρ, g, k⟩ => ⟨ρ, g, fun vs H1 s1 hv => ⟨by
  have := hv.len
  rw [List.length_map] at this
  have := sizeLine_eq
  omega, fun p np => k _ _ _ (same_trans s1 (same_upd np)) upd_same (hv.keep (mn_keep (same_upd np)))⟩⟩
theorem otTup (h : PA X es (tOs B G CQ os)) (l : os.length ≤ 900 := by decide) : PE X (.Tuple es x1 pos) (tOT B G CQ fun ρ => os.map fun o => o ρ) := wkE (pe_tup h) fun σ H Q ⟨ρ, g, k⟩ => ⟨ρ, g, fun vs H1 s1 hv => ⟨by
  have := hv.len
  rw [List.length_map] at this
  have := sizeLine_eq
  omega, fun p np => k _ _ _ (same_trans s1 (same_upd np)) upd_same (hv.keep (mn_keep (same_upd np)))⟩⟩
theorem olCat (h : PE X e (tOp rCat (tOL B G CQ f) (tOL B G CQ g))) (l : ∀ ρ σ H, G ρ σ H → (f ρ).length + (g ρ).length ≤ 900) : PE X e (tOL B G CQ fun ρ => f ρ ++ g ρ) := wkE h fun σ H Q ⟨ρ, hg, k⟩ =>
  ⟨ρ, hg, fun a vs H1 s1 ha hv => ⟨ρ, S.keep hg s1, fun b ws H2 s2 hb hw => ⟨a, b, vs, ws, rfl, rfl, s2 _ _ ha, hb, by
    have := hv.len
    have := hw.len
    have := sizeLine_eq
    have := l ρ σ H hg
    omega, fun p np => k p (vs ++ ws) _ (same_trans s1 (same_trans s2 (same_upd np))) upd_same (((hv.keep (mn_keep s2)).app hw).keep (mn_keep (same_upd np)))⟩⟩⟩
/-- a new list -/
def tOLF (B : Hp) (G : Rho → L2.St → Hp → Prop) (CQ : Addr) (f : Rho → List Od) : TE := fun σ H Q => ∃ ρ, G ρ σ H ∧ ∀ l vs H', Same H H' → H l = none → H' l = some (.lst vs) → ObA (mn B H') CQ vs (f ρ) → Q (.ref l) H'
theorem olCatF (h : PE X e (tOp rCat (tOL B G CQ f) (tOL B G CQ g))) (l : ∀ ρ σ H, G ρ σ H → (f ρ).length + (g ρ).length ≤ 900) : PE X e (tOLF B G CQ fun ρ => f ρ ++ g ρ) := wkE h fun σ H Q ⟨ρ, hg, k⟩ =>
  ⟨ρ, hg, fun a vs H1 s1 ha hv => ⟨ρ, S.keep hg s1, fun b ws H2 s2 hb hw => ⟨a, b, vs, ws, rfl, rfl, s2 _ _ ha, hb, by
    have := hv.len
    have := hw.len
    have := sizeLine_eq
    have := l ρ σ H hg
    omega, fun p np => k p (vs ++ ws) _ (same_trans s1 (same_trans s2 (same_upd np))) (sfr (same_trans s1 s2) np) upd_same (((hv.keep (mn_keep s2)).app hw).keep (mn_keep (same_upd np)))⟩⟩⟩
/-- a dict without a key -/
theorem oD0 (h : PE X e tDNewK) : PE X e (tO B G CQ fun _ => .dct) := wkE h fun σ H Q ⟨ρ, g, k⟩ => fun p np => k _ _ (same_upd np) (.dct (kvs := []) (by rw [mn_at (sfr (S.sub g) np), upd_same]) (by decide) (fun kv (h : kv ∈ []) => by simp at h) fun kv (h : kv ∈ []) => by simp at h)
/-- a dict of one text -/
theorem oD1 {a b : Str} (h : PE X e (tDisp [(tC (.str a), tC (.str b))])) : PE X e (tO B G CQ fun _ => .dct) := wkE h fun σ H Q ⟨ρ, g, k⟩ => fun p np => ⟨upd_same, [(.inr a, .str b)], rfl, (by show 1 ≤ 15; omega), by
  have e : upd (upd H p (.dK [])) p (.dK (mergeK [] [(.inr a, .str b)])) = upd H p (.dK [(.inr a, .str b)]) := by
    funext x
    by_cases hx : x = p
    · rw [hx, upd_same, upd_same]
      rfl
    · rw [upd_ne hx, upd_ne hx, upd_ne hx]
  rw [e]
  refine k _ _ (same_upd np) (.dct (by rw [mn_at (sfr (S.sub g) np), upd_same]) (by show 1 ≤ 900; decide) (fun kv h => ?_) fun kv h => ?_)
  · rw [List.mem_singleton.mp h]
    exact ⟨a, rfl⟩
  · rw [List.mem_singleton.mp h]
    refine ⟨?_, .inl (.inr (.inr (.inr (.inl ⟨b, rfl⟩))))⟩
    simp [valV]⟩
/-- [(.., x, ..) for x in a tuple] -/
theorem olLc {te : TE} {i : Nat} {mk : Rho → V → List V} {mo : Rho → Od → List Od} (h : PE X e (tLc (iTup X.K (tOT B G CQ f)) (gName i) tYes te [i])) (l : ∀ ρ, (f ρ).length ≤ 300)
    (ht : ∀ ρ (σ : L2.St) H v (Q : VK), G ρ σ H → (∀ p, H p = none → Q (.ref p) (upd H p (.tup (mk ρ v)))) → wipe ((wipe σ [i]).set i (some v)) [i] = wipe σ [i] ∧ te ((wipe σ [i]).set i (some v)) H Q)
    (hm : ∀ ρ σ H, G ρ σ H → ∀ B v o, Ob B CQ v o → ObA B CQ (mk ρ v) (mo ρ o)) (lm : ∀ ρ o, (mo ρ o).length ≤ 900) : PE X e (tOL B G CQ fun ρ => (f ρ).map fun o => Od.tup (mo ρ o)) := wkE h fun σ H Q ⟨ρ, g, k⟩ => by
  refine ⟨ρ, g, fun t vs H1 s1 ht1 hv => ⟨t, rfl, ⟨vs, SqT.of ht1⟩, fun D nD => ?_⟩⟩
  have sl := sizeLine_eq
  have ll := l ρ
  have lv := hv.len
  have sB := same_trans (S.sub g) s1
  have nDB := sfr sB nD
  refine lc_it (walk_tup (xs := vs)) (fun j H' => Same H1 H' ∧ ∃ ws, H' D = some (.lst ws) ∧ ObA (del (mn B H') D) CQ ws (((f ρ).take j).map fun o => Od.tup (mo ρ o))) ⟨same_upd nD, [], upd_same, .nil⟩ (fun j H' _ h => SqT.of (h.1 _ _ ht1)) ?_ ?_
  · rintro j x H2 H3 hj ⟨s2, ws, hD, hws⟩ ⟨rfl, hx⟩
    obtain ⟨o, ho, hob⟩ := hv.get hx
    have g2 := S.keep g (same_trans s1 s2)
    have lw := hws.len
    rw [List.length_map, List.length_take] at lw
    obtain ⟨k1, k2⟩ := ht ρ σ H3 x (fun y H4 => ∃ acc, H4 D = some (.lst acc) ∧ acc.length < sizeLine ∧ (Same H1 (upd H4 D (.lst (acc ++ [y]))) ∧ ∃ ws, upd H4 D (.lst (acc ++ [y])) D = some (.lst ws) ∧ ObA (del (mn B (upd H4 D (.lst (acc ++ [y])))) D) CQ ws (((f ρ).take (j + 1)).map fun o => Od.tup (mo ρ o)))) g2 (fun p np => by
      have nD' : p ≠ D := fun e => by
        rw [e, hD] at np
        cases np
      have npB := sfr (same_trans sB s2) np
      refine ⟨ws, by rw [upd_ne nD'.symm]; exact hD, by omega, fun b u eb => ?_, ws ++ [.ref p], upd_same, ?_⟩
      · rw [upd_ne (ne_of_none eb nD)]
        exact same_upd np _ _ (s2 _ _ eb)
      · rw [mn_upd nDB, del_updD, mn_upd npB, List.take_add_one, ho, List.map_append]
        have np' : del (mn B H3) D p = none := by
          simp only [del, nD', if_false]
          rw [mn_at npB]
          exact np
        rw [del_upd_ne nD']
        have hx3 : Ob (del (mn B H3) D) CQ x o := hob.keep (same_delN (mn_keep s2) (by rw [mn_at nDB]; exact nD))
        exact (hws.keep (same_upd np')).app (.cons (.tup np' (hm ρ σ _ g2 _ x o hx3) (lm ρ o)) .nil))
    exact ⟨k1, k2⟩
  · rintro H2 ⟨s2, ws, hD, hws⟩
    rw [lv, List.take_length] at hws
    exact k D ws H2 (same_trans s1 s2) hD (hws.keep del_sub)
end
end
end K4
end
section
set_option Elab.async false
set_option linter.all false
set_option maxRecDepth 100000
set_option maxHeartbeats 4000000
namespace K4
open PySem PySem.Spec PyProof.Rows L2 H3 H4
/-! ### the odd changes -/
def goodV : List V := [.str "ab", .str "a", .str "b", .int 1, .int 2]
def goodA : List Od := [.str "ab", .str "a", .str "b", .int 1, .int 2]
def goodO : Od := .tup goodA
def b1x : List Od := [(.tup [(.str "put")]), (.tup [(.str "put"), goodO, (.int 1)]), (.tup [(.str "put"), (.str "ab")]), (.tup [(.str "put"), (.lst goodA)]), (.tup [(.str "put"), (.tup (goodA.take 4))]), (.tup [(.str "put"), (.tup [(.str "ab"), (.str "a"), (.str "a"), (.int 1), (.int 2)])]), (.tup [(.str "put"), (.tup [(.str "ab"), (.str "a"), (.str "b"), (.bl true), (.int 2)])])]
def c1x (w : Str) : List Od := ([(.str ""), (.str "A"), (.str "abcdefghi"), .non, (.int 1), (.bl true), (.tup [(.str "ab")]), (.lst [(.str "ab")]), (.lst [(.str "a"), (.str "b")]), goodO].map fun o => (.tup [(.str w), o]))
def c1y (w : Str) : List Od := [(.tup [(.str w), (.str "ab"), (.int 1)]), (.tup [(.str w)])]
def c2x (w : Str) : List Od := ([(.int (-1)), .non, (.bl true), (.bl false), (.str "1"), (.tup [(.int 1)]), (.lst [(.int 1)]), .dct].map fun o => (.tup [(.str w), (.str "ab"), o]))
def c2y (w : Str) : List Od := [(.tup [(.str w), (.str "ab")]), (.tup [(.str w), (.str "ab"), (.int 1), (.int 1)]), (.tup [(.str w)])]
def c3x (w : Str) : List Od := ([(.str ""), (.str "A"), .non, (.int 1), (.lst [(.str "a"), (.str "b")]), (.tup [(.str "ab")]), goodO].map fun o => (.tup [(.str w), o, (.int 1)]))
def b4x : List Od := [(.lst [(.str "out"), (.str "ab")]), (.tup [(.str "outs"), (.str "ab")]), (.tup [(.str "Put"), goodO]), (.tup [.non, (.str "ab")]), (.tup [(.int 1), (.int 2)]), (.tup [.dct, (.int 1)]), (.tup [(.lst [(.str "out")]), (.str "ab")]), (.tup [(.tup [(.str "out")]), (.str "ab")])]
def b5x : List Od := [(.tup []), (.lst []), .dct, .non, (.int 5), (.bl true), (.str "out"), .dct, (.tup [(.str "start"), (.str "ab")]), (.tup [(.str "put"), (.str "ab"), (.int 3)]), (.tup [(.str "out"), goodO]), (.tup [(.str "width"), (.int 3), (.str "ab")])]
def badB (o : Od) : Bool := !isChangeO o && (decide (lv o ≤ 2) && (match o with | .lst os => decide (os.length ≤ 900) | _ => true))
theorem good_a {H : Hp} {CQ : Addr} : ObA H CQ goodV goodA := .cons (.str (by decide +kernel)) (.cons (.str (by decide +kernel)) (.cons (.str (by decide +kernel)) (.cons (.int _) (.cons (.int _) .nil))))
theorem good_o {H : Hp} {CQ a : Addr} (h : H a = some (.tup goodV)) : Ob H CQ (.ref a) goodO := by
  refine ⟨.tup h (good_a (CQ := CQ)).od, .of ?_ fun b xs e h' => ?_⟩
  · exact .inr (.inl ⟨a, _, rfl, .inr h, by show 5 ≤ 1000; omega, good_a.sm⟩)
  · cases e
    rw [h] at h'
    cases h'
/-- where the text stands: the good change, the list so far (from 2 on), the word (from 3 on) -/
def Gb (B : Hp) (CQ : Addr) (k : Nat) : Rho → L2.St → Hp → Prop := fun ρ σ H => Same B H ∧ ∃ a o1 o2 o3, σ = [some (.ref a), o1, o2, o3] ∧ B a = none ∧ H a = some (.tup goodV) ∧ (2 ≤ k → ρ.1.length ≤ 300 ∧ ∃ l vs, o1 = some (.ref l) ∧ H l = some (.lst vs) ∧ ObA (mn B H) CQ vs ρ.1) ∧ (3 ≤ k → o2 = some (.str ρ.2) ∧ ρ.2.length ≤ 100)
instance {B : Hp} {CQ : Addr} {k : Nat} : Stab B (Gb B CQ k) := ⟨fun ⟨s0, a, o1, o2, o3, e, n, h, h2, h3⟩ s => ⟨same_trans s0 s, a, o1, o2, o3, e, n, s _ _ h, fun k2 => by
  obtain ⟨l2, l, vs, e, hl, hv⟩ := h2 k2
  exact ⟨l2, l, vs, e, s _ _ hl, hv.keep (mn_keep s)⟩, h3⟩, fun h => h.1⟩
section
variable {B : Hp} {CQ : Addr} {k : Nat} {ρ : Rho} {σ : L2.St} {H : Hp}
theorem Gb.len (h : Gb B CQ k ρ σ H) (hk : 2 ≤ k) : ρ.1.length ≤ 300 := by
  obtain ⟨_, a, o1, o2, o3, e, _, h, h2, h3⟩ := h
  exact (h2 hk).1
theorem Gb.w (h : Gb B CQ 3 ρ σ H) : ρ.2.length ≤ 100 := by
  obtain ⟨_, a, o1, o2, o3, e, _, h, h2, h3⟩ := h
  exact (h3 (by decide)).2
end
section
variable {X : Cx} {B : Hp} {CQ : Addr} {k : Nat} {e : Expr}
theorem oGood (h : PE X e (tVar 0)) : PE X e (tO B (Gb B CQ k) CQ fun _ => goodO) := wkE h fun σ H Q ⟨ρ, ⟨_, a, o1, o2, o3, e, n, h, h2, h3⟩, q⟩ => by
  subst e
  exact ⟨_, rfl, q _ H (Same.refl _) (good_o (by rw [mn_at n]; exact h))⟩
theorem oW (h : PE X e (tVar 2)) (hk : 3 ≤ k := by decide) : PE X e (tO B (Gb B CQ k) CQ fun ρ => .str ρ.2) := wkE h fun σ H Q ⟨ρ, ⟨_, a, o1, o2, o3, e, n, h, h2, h3⟩, q⟩ => by
  subst e
  obtain ⟨rfl, l⟩ := h3 hk
  exact ⟨_, rfl, q _ H (Same.refl _) (.str l)⟩
theorem olFound (h : PE X e (tVar 1)) (hk : 2 ≤ k := by decide) : PE X e (tOL B (Gb B CQ k) CQ fun ρ => ρ.1) := wkE h fun σ H Q ⟨ρ, ⟨_, a, o1, o2, o3, e, n, h, h2, h3⟩, q⟩ => by
  subst e
  obtain ⟨_, l, vs, rfl, hl, hv⟩ := h2 hk
  exact ⟨_, rfl, q l vs H (Same.refl _) hl hv⟩
theorem oListGood (h : PE X e (tCB (fun xs H Q => ∃ p ys, xs = [.ref p] ∧ (SqL X.K H p ys ∨ SqT X.K H p ys) ∧ ∀ l, H l = none → Q (.ref l) (upd H l (.lst ys))) (tCons (tVar 0) tNil))) : PE X e (tO B (Gb B CQ k) CQ fun _ => .lst goodA) := wkE h fun σ H Q ⟨ρ, ⟨s0, a, o1, o2, o3, e, n, h, h2, h3⟩, q⟩ => by
  subst e
  refine ⟨_, rfl, a, _, rfl, Or.inr (SqT.of h), fun l nl => q _ _ (same_upd nl) ?_⟩
  rw [mn_upd (sfr s0 nl)]
  exact .lst (by rw [mn_at (sfr s0 nl)]; exact nl) good_a (by decide)
theorem oCutGood (h : PE X e (tSl (rSlT X.K) (tVar 0) tNoPart (tPart (tC (.int 4))))) : PE X e (tO B (Gb B CQ k) CQ fun _ => .tup (goodA.take 4)) := wkE h fun σ H Q ⟨ρ, ⟨s0, a, o1, o2, o3, e, n, h, h2, h3⟩, q⟩ => by
  subst e
  refine ⟨_, rfl, 4, rfl, a, _, rfl, SqT.of h, by decide +kernel, fun l nl => ?_⟩
  have e : cutV goodV none (some 4) = goodV.take 4 := by rfl
  rw [e]
  refine q _ _ (same_upd nl) ?_
  rw [mn_upd (sfr s0 nl)]
  exact .tup (by rw [mn_at (sfr s0 nl)]; exact nl) (.cons (.str (by decide +kernel)) (.cons (.str (by decide +kernel)) (.cons (.str (by decide +kernel)) (.cons (.int _) .nil)))) (by decide)
end
abbrev NBad : List Str := ["_law_good", "_law_found", "_law_word_here", "_law_odd"]
theorem scBad : FnScope NBad [] (defScope sBad) := ⟨rfl, rfl, rfl, by decide +kernel, rfl, by decide +kernel, by decide +kernel⟩
section
variable {P : Program} {w : World} {K : PySem.W.Frag} {mg : Str → Option Value} {base : Heap}
def spBad (CQ : Addr) : Sp := fun vs H Q _ => vs = [] ∧ ∀ L ws os H', Same H H' → H L = none → H' L = some (.lst ws) → ObA (mn H H') CQ ws os → os.all badB = true → os.length ≤ 300 → Q (.ref L) H'
theorem ok_bad {CQ : Addr} {f : Addr} {fd : FuncData} (F : FnP K "_law_bad_changes" sBad f fd) (T : Tx K mg) : FnOk P w K mg base CX0 1 f fd [] (spBad CQ) := by
  refine F.ok scBad (fun vs H Q E h => ?_) (fun cdv A outer s H vs Q E hr h => ?_)
  · obtain ⟨rfl, _⟩ := h
    rfl
  · obtain ⟨rfl, q⟩ := h
    have gLi := T.fr "list" (by decide +kernel)
    have sl := sizeLine_eq
    refine ⟨_, PSs.nox (pss_cons (ps_set (i := 0) scBad.nd rfl (Or.inl rfl) (pe_tup (pa_cons pe_str (pa_cons pe_str (pa_cons pe_str (pa_cons pe_int (pa_cons pe_int pa_nil)))))))
      (pss_cons (ps_set (i := 1) scBad.nd rfl (Or.inl rfl) (olLst (B := H) (G := Gb H CQ 1) (CQ := CQ) (osC (oTup (osC (oStr pe_str) os0)) (osC (oTup (osC (oStr pe_str) (osC (oGood (pv 0)) (osC (oInt pe_int) os0)))) (osC (oTup (osC (oStr pe_str) (osC (oStr pe_str) os0))) (osC (oTup (osC (oStr pe_str) (osC (oListGood (pe_callTy call_list_of (by rfl) gLi (by decide +kernel) (pa_cons (pv 0) pa_nil))) os0))) (osC (oTup (osC (oStr pe_str) (osC (oCutGood (pe_slice sl_tup (pv 0) po_none (po_some pe_int))) os0))) (osC (oTup (osC (oStr pe_str) (osC (oTup (osC (oStr pe_str) (osC (oStr pe_str) (osC (oStr pe_str) (osC (oInt pe_int) (osC (oInt pe_int) os0)))))) os0))) (osC (oTup (osC (oStr pe_str) (osC (oTup (osC (oStr pe_str) (osC (oStr pe_str) (osC (oStr pe_str) (osC (oBl pe_bl) (osC (oInt pe_int) os0)))))) os0))) os0)))))))))
      (pss_cons (ps_for PassesOwn.never rfl (pi_tup (otTup (B := H) (G := Gb H CQ 2) (CQ := CQ) (osC (oStr pe_str) (osC (oStr pe_str) os0)))) (pg_name (i := 2) scBad.nd rfl (Or.inr rfl))
        (pss_one (ps_set (i := 1) scBad.nd rfl (Or.inl rfl) (olCat (B := H) (G := Gb H CQ 3) (CQ := CQ) (pe_op op_cat (olCat (pe_op op_cat (olFound (pv 1)) (olLc (B := H) (G := Gb H CQ 3) (CQ := CQ) (mk := fun ρ v => [.str ρ.2, v]) (mo := fun ρ o => [.str ρ.2, o]) (pe_lc (own := [("_law_odd", 3)]) (g := gName 3) (tt := tYes) (te := tTup (tCons (tVar 2) (tCons (tVar 3) tNil))) rfl scBad.nd (pi_tup (otTup (osC (oStr pe_str) (osC (oStr pe_str) (osC (oStr pe_str) (osC (oNon pe_non) (osC (oInt pe_int) (osC (oBl pe_bl) (osC (oTup (osC (oStr pe_str) os0)) (osC (oLst (osC (oStr pe_str) os0)) (osC (oLst (osC (oStr pe_str) (osC (oStr pe_str) os0))) (osC (oGood (pv 0)) os0)))))))))))) (blkOk_by (own := [("_law_odd", 3)]) (N := NBad) (sc := defScope sBad) (by decide +kernel))
              (fun _ _ _ _ _ => pg_name (i := 3) scBad.nd rfl (Or.inl rfl)) (fun _ _ _ _ _ => pts_nil) (fun _ _ _ _ _ => pe_tup (pa_cons (pv 2) (pa_cons (pv 3) pa_nil)))) (fun _ => by simp) (fun ρ σ H v Q h q => by obtain ⟨_, a, o1, o2, o3, rfl, _, ha, h2, h3⟩ := h; obtain ⟨rfl, hl⟩ := h3 (by decide); exact ⟨rfl, _, rfl, _, rfl, (by show (_ : Nat) ≤ sizeLine; rw [sizeLine_eq]; simp), q⟩) (fun ρ σ H h B v o hb => (.cons (.str (Gb.w h)) (.cons hb .nil))) (fun _ _ => by simp))) (fun ρ σ H h => by have := Gb.len h (by decide); simp only [List.length_append, List.length_map, List.length_cons, List.length_nil]; omega)) (olLst (osC (oTup (osC (oW (pv 2)) (osC (oStr pe_str) (osC (oInt pe_int) os0)))) (osC (oTup (osC (oW (pv 2)) os0)) os0)))) (fun ρ σ H h => by have := Gb.len h (by decide); simp only [List.length_append, List.length_map, List.length_cons, List.length_nil]; omega)))))
      (pss_cons (ps_for PassesOwn.never rfl (pi_tup (otTup (B := H) (G := Gb H CQ 2) (CQ := CQ) (osC (oStr pe_str) (osC (oStr pe_str) os0)))) (pg_name (i := 2) scBad.nd rfl (Or.inr rfl))
        (pss_cons (ps_set (i := 1) scBad.nd rfl (Or.inl rfl) (olCat (B := H) (G := Gb H CQ 3) (CQ := CQ) (pe_op op_cat (olCat (pe_op op_cat (olFound (pv 1)) (olLc (B := H) (G := Gb H CQ 3) (CQ := CQ) (mk := fun ρ v => [.str ρ.2, .str "ab", v]) (mo := fun ρ o => [.str ρ.2, .str "ab", o]) (pe_lc (own := [("_law_odd", 3)]) (g := gName 3) (tt := tYes) (te := tTup (tCons (tVar 2) (tCons (tC (.str "ab")) (tCons (tVar 3) tNil)))) rfl scBad.nd (pi_tup (otTup (osC (oNeg (pe_un un_neg pe_int)) (osC (oNon pe_non) (osC (oBl pe_bl) (osC (oBl pe_bl) (osC (oStr pe_str) (osC (oTup (osC (oInt pe_int) os0)) (osC (oLst (osC (oInt pe_int) os0)) (osC (oD0 pe_dnewK) os0)))))))))) (blkOk_by (own := [("_law_odd", 3)]) (N := NBad) (sc := defScope sBad) (by decide +kernel))
              (fun _ _ _ _ _ => pg_name (i := 3) scBad.nd rfl (Or.inl rfl)) (fun _ _ _ _ _ => pts_nil) (fun _ _ _ _ _ => pe_tup (pa_cons (pv 2) (pa_cons pe_str (pa_cons (pv 3) pa_nil))))) (fun _ => by simp) (fun ρ σ H v Q h q => by obtain ⟨_, a, o1, o2, o3, rfl, _, ha, h2, h3⟩ := h; obtain ⟨rfl, hl⟩ := h3 (by decide); exact ⟨rfl, _, rfl, _, rfl, (by show (_ : Nat) ≤ sizeLine; rw [sizeLine_eq]; simp), q⟩) (fun ρ σ H h B v o hb => (.cons (.str (Gb.w h)) (.cons (.str (by decide +kernel)) (.cons hb .nil)))) (fun _ _ => by simp))) (fun ρ σ H h => by have := Gb.len h (by decide); simp only [List.length_append, List.length_map, List.length_cons, List.length_nil]; omega)) (olLst (osC (oTup (osC (oW (pv 2)) (osC (oStr pe_str) os0))) (osC (oTup (osC (oW (pv 2)) (osC (oStr pe_str) (osC (oInt pe_int) (osC (oInt pe_int) os0))))) (osC (oTup (osC (oW (pv 2)) os0)) os0))))) (fun ρ σ H h => by have := Gb.len h (by decide); simp only [List.length_append, List.length_map, List.length_cons, List.length_nil]; omega)))
        (pss_one (ps_set (i := 1) scBad.nd rfl (Or.inl rfl) (olCat (B := H) (G := Gb H CQ 3) (CQ := CQ) (pe_op op_cat (olFound (pv 1)) (olLc (B := H) (G := Gb H CQ 3) (CQ := CQ) (mk := fun ρ v => [.str ρ.2, v, .int 1]) (mo := fun ρ o => [.str ρ.2, o, .int 1]) (pe_lc (own := [("_law_odd", 3)]) (g := gName 3) (tt := tYes) (te := tTup (tCons (tVar 2) (tCons (tVar 3) (tCons (tC (.int 1)) tNil)))) rfl scBad.nd (pi_tup (otTup (osC (oStr pe_str) (osC (oStr pe_str) (osC (oNon pe_non) (osC (oInt pe_int) (osC (oLst (osC (oStr pe_str) (osC (oStr pe_str) os0))) (osC (oTup (osC (oStr pe_str) os0)) (osC (oGood (pv 0)) os0))))))))) (blkOk_by (own := [("_law_odd", 3)]) (N := NBad) (sc := defScope sBad) (by decide +kernel))
              (fun _ _ _ _ _ => pg_name (i := 3) scBad.nd rfl (Or.inl rfl)) (fun _ _ _ _ _ => pts_nil) (fun _ _ _ _ _ => pe_tup (pa_cons (pv 2) (pa_cons (pv 3) (pa_cons pe_int pa_nil))))) (fun _ => by simp) (fun ρ σ H v Q h q => by obtain ⟨_, a, o1, o2, o3, rfl, _, ha, h2, h3⟩ := h; obtain ⟨rfl, hl⟩ := h3 (by decide); exact ⟨rfl, _, rfl, _, rfl, (by show (_ : Nat) ≤ sizeLine; rw [sizeLine_eq]; simp), q⟩) (fun ρ σ H h B v o hb => (.cons (.str (Gb.w h)) (.cons hb (.cons (.int _) .nil)))) (fun _ _ => by simp))) (fun ρ σ H h => by have := Gb.len h (by decide); simp only [List.length_append, List.length_map, List.length_cons, List.length_nil]; omega))))))
      (pss_cons (ps_set (i := 1) scBad.nd rfl (Or.inl rfl) (olCat (B := H) (G := Gb H CQ 2) (CQ := CQ) (pe_op op_cat (olFound (pv 1)) (olLst (osC (oLst (osC (oStr pe_str) (osC (oStr pe_str) os0))) (osC (oTup (osC (oStr pe_str) (osC (oStr pe_str) os0))) (osC (oTup (osC (oStr pe_str) (osC (oGood (pv 0)) os0))) (osC (oTup (osC (oNon pe_non) (osC (oStr pe_str) os0))) (osC (oTup (osC (oInt pe_int) (osC (oInt pe_int) os0))) (osC (oTup (osC (oD0 pe_dnewK) (osC (oInt pe_int) os0))) (osC (oTup (osC (oLst (osC (oStr pe_str) os0)) (osC (oStr pe_str) os0))) (osC (oTup (osC (oTup (osC (oStr pe_str) os0)) (osC (oStr pe_str) os0))) os0)))))))))) (fun ρ σ H h => by have := Gb.len h (by decide); simp only [List.length_append, List.length_map, List.length_cons, List.length_nil]; omega)))
      (pss_one (ps_ret (olCatF (B := H) (G := Gb H CQ 2) (CQ := CQ) (pe_op op_cat (olFound (pv 1)) (olLst (osC (oTup os0) (osC (oLst os0) (osC (oD0 pe_dnewK) (osC (oNon pe_non) (osC (oInt pe_int) (osC (oBl pe_bl) (osC (oStr pe_str) (osC (oD1 (pe_disp (pps_cons pe_str pe_str pps_nil) rfl rfl (by simp) (by decide))) (osC (oTup (osC (oStr pe_str) (osC (oStr pe_str) os0))) (osC (oTup (osC (oStr pe_str) (osC (oStr pe_str) (osC (oInt pe_int) os0)))) (osC (oTup (osC (oStr pe_str) (osC (oGood (pv 0)) os0))) (osC (oTup (osC (oStr pe_str) (osC (oInt pe_int) (osC (oStr pe_str) os0)))) os0)))))))))))))) (fun ρ σ H h => by have := Gb.len h (by decide); simp only [List.length_append, List.length_map, List.length_cons, List.length_nil]; omega))))))))), ?_⟩
    have good : ∀ {a : Addr}, a = a := rfl
    refine ⟨(by show 5 ≤ sizeLine; omega), fun a na => ?_⟩
    have sa := same_upd (o := .tup [V.str "ab", V.str "a", V.str "b", V.int 1, V.int 2]) na
    have ha : upd H a (.tup [V.str "ab", V.str "a", V.str "b", V.int 1, V.int 2]) a = some (.tup goodV) := upd_same
    generalize upd H a (.tup [V.str "ab", V.str "a", V.str "b", V.int 1, V.int 2]) = H0 at sa ha ⊢
    refine ⟨([], ""), ⟨sa, a, _, _, _, rfl, na, ha, (fun z => absurd z (by decide)), fun z => absurd z (by decide)⟩, fun l1 v1 H1 s1 hl1 hv1 => ?_⟩
    have ha1 := s1 _ _ ha
    have S1 := same_trans sa s1
    have key : ∀ {w1 w2 : Str} {H' : Hp} {ws : List V} {i : Nat} {x : V}, ObA H' CQ ws [.str w1, .str w2] → ws[i]? = some x → ∃ w, x = .str w ∧ (w = w1 ∨ w = w2) ∧ w.length ≤ 100 := by
      intro w1 w2 H' ws i x hw hx
      obtain ⟨o, ho, hb⟩ := hw.get hx
      have hd := hb.od
      match i, ho with
      | 0, ho =>
        cases ho
        cases hd with
        | str z hz => exact ⟨_, rfl, .inl rfl, hz⟩
      | 1, ho =>
        cases ho
        cases hd with
        | str z hz => exact ⟨_, rfl, .inr rfl, hz⟩
    refine ⟨(b1x, ""), ⟨S1, a, _, _, _, rfl, na, ha1, (fun _ => ⟨by decide, l1, v1, rfl, hl1, hv1⟩), fun z => absurd z (by decide)⟩, fun t ws H2 s2 ht hw => ⟨t, rfl, ⟨ws, SqT.of ht⟩, ?_⟩⟩
    have lw : ws.length = 2 := hw.len
    have ha2 := s2 _ _ ha1
    have S2 := same_trans S1 s2
    refine for_it (walk_tup (xs := ws)) (fun j σ H' => ∃ l vs os o2 o3, σ = [some (.ref a), some (.ref l), o2, o3] ∧ Same H2 H' ∧ H' l = some (.lst vs) ∧ ObA (mn H H') CQ vs os ∧ os.all badB = true ∧ os.length ≤ 10 + 20 * j) ⟨l1, v1, b1x, _, _, rfl, .refl _, s2 _ _ hl1, hv1.keep (mn_keep s2), by decide +kernel, by decide⟩ (fun j σ H' _ ⟨_, _, _, _, _, _, s3, _⟩ => SqT.of (s3 _ _ ht)) ?_ ?_
    · rintro j x σ H3 H4 hj ⟨l, vs, os, o2, o3, rfl, s3, hl, hv, ho, le⟩ ⟨rfl, hx⟩
      obtain ⟨w', rfl, hw', lw'⟩ := key hw hx
      refine ⟨(os, w'), ⟨same_trans S2 s3, a, _, _, _, rfl, na, s3 _ _ ha2, (fun _ => ⟨by show os.length ≤ 300; omega, l, vs, rfl, hl, hv⟩), fun _ => ⟨rfl, lw'⟩⟩, fun l' vs' H5 s5 hl' hv' => ⟨l', vs', os ++ c1x w' ++ c1y w', _, _, rfl, same_trans s3 s5, hl', hv', ?_, ?_⟩⟩
      · rw [List.all_append, List.all_append, ho]
        rcases hw' with rfl | rfl <;> decide +kernel
      · have e1 : (c1x w').length = 10 := rfl
        have e2 : (c1y w').length = 2 := rfl
        rw [List.length_append, List.length_append, e1, e2]
        omega
    rintro σ H3 ⟨l, vs, os, o2, o3, rfl, s3, hl, hv, ho, le⟩
    rw [lw] at le
    have ha3 := s3 _ _ ha2
    have S3 := same_trans S2 s3
    refine ⟨(os, ""), ⟨S3, a, _, _, _, rfl, na, ha3, (fun _ => ⟨by show os.length ≤ 300; omega, l, vs, rfl, hl, hv⟩), fun z => absurd z (by decide)⟩, fun t2 ws2 H4 s4 ht2 hw2 => ⟨t2, rfl, ⟨ws2, SqT.of ht2⟩, ?_⟩⟩
    have lw2 : ws2.length = 2 := hw2.len
    have ha4 := s4 _ _ ha3
    have S4 := same_trans S3 s4
    refine for_it (walk_tup (xs := ws2)) (fun j σ H' => ∃ l vs os o2 o3, σ = [some (.ref a), some (.ref l), o2, o3] ∧ Same H4 H' ∧ H' l = some (.lst vs) ∧ ObA (mn H H') CQ vs os ∧ os.all badB = true ∧ os.length ≤ 50 + 20 * j) ⟨l, vs, os, _, _, rfl, .refl _, s4 _ _ hl, hv.keep (mn_keep s4), ho, by omega⟩ (fun j σ H' _ ⟨_, _, _, _, _, _, s3, _⟩ => SqT.of (s3 _ _ ht2)) ?_ ?_
    · rintro j x σ H5 H6 hj ⟨l, vs, os, o2, o3, rfl, s5, hl, hv, ho, le⟩ ⟨rfl, hx⟩
      obtain ⟨w', rfl, hw', lw'⟩ := key hw2 hx
      refine ⟨(os, w'), ⟨same_trans S4 s5, a, _, _, _, rfl, na, s5 _ _ ha4, (fun _ => ⟨by show os.length ≤ 300; omega, l, vs, rfl, hl, hv⟩), fun _ => ⟨rfl, lw'⟩⟩, fun l' vs' H7 s7 hl' hv' => ?_⟩
      have e1 : (c2x w').length = 8 := rfl
      have e2 : (c2y w').length = 3 := rfl
      have e3 : (c3x w').length = 7 := rfl
      refine ⟨(os ++ c2x w' ++ c2y w', w'), ⟨same_trans S4 (same_trans s5 s7), a, _, _, _, rfl, na, s7 _ _ (s5 _ _ ha4), (fun _ => ⟨by show (os ++ c2x w' ++ c2y w').length ≤ 300; rw [List.length_append, List.length_append, e1, e2]; omega, l', vs', rfl, hl', hv'⟩), fun _ => ⟨rfl, lw'⟩⟩, fun l8 vs8 H8 s8 hl8 hv8 => ⟨l8, vs8, os ++ c2x w' ++ c2y w' ++ c3x w', _, _, rfl, same_trans s5 (same_trans s7 s8), hl8, hv8, ?_, ?_⟩⟩
      · rw [List.all_append, List.all_append, List.all_append, ho]
        rcases hw' with rfl | rfl <;> decide +kernel
      · rw [List.length_append, List.length_append, List.length_append, e1, e2, e3]
        omega
    rintro σ H5 ⟨l, vs, os, o2, o3, rfl, s5, hl, hv, ho, le⟩
    rw [lw2] at le
    have ha5 := s5 _ _ ha4
    have S5 := same_trans S4 s5
    have e4 : b4x.length = 8 := rfl
    have e5 : b5x.length = 12 := rfl
    refine ⟨(os, ""), ⟨S5, a, _, _, _, rfl, na, ha5, (fun _ => ⟨by show os.length ≤ 300; omega, l, vs, rfl, hl, hv⟩), fun z => absurd z (by decide)⟩, fun l6 vs6 H6 s6 hl6 hv6 => ?_⟩
    refine ⟨(os ++ b4x, ""), ⟨same_trans S5 s6, a, _, _, _, rfl, na, s6 _ _ ha5, (fun _ => ⟨by show (os ++ b4x).length ≤ 300; rw [List.length_append, e4]; omega, l6, vs6, rfl, hl6, hv6⟩), fun z => absurd z (by decide)⟩, fun l7 vs7 H7 s7 nl7 hl7 hv7 => ?_⟩
    refine q l7 vs7 (os ++ b4x ++ b5x) H7 (same_trans S5 (same_trans s6 s7)) (sfr (same_trans S5 s6) nl7) hl7 hv7 ?_ ?_
    · rw [List.all_append, List.all_append, ho]
      decide +kernel
    · rw [List.length_append, List.length_append, e4, e5]
      omega
end
end K4
end
section
set_option Elab.async false
set_option linter.all false
set_option maxRecDepth 100000
set_option maxHeartbeats 4000000
namespace K4
open PySem PySem.Spec PyProof.Rows L2 H3 H4
/-! ### _law_refused_right -/
abbrev NRf : List Str := ["_law_purse_here", "_law_quarter_here", "_law_world_here", "_law_good", "_law_some_good", "_law_odd", "_law_some", "_law_way", "_law_thing", "_law_made", "_law_street"]
theorem scRf : FnScope NRf ["_law_purse_here", "_law_quarter_here", "_law_world_here"] (defScope sRefused) := ⟨rfl, rfl, rfl, by decide +kernel, rfl, by decide +kernel, by decide +kernel⟩
def rfS (j : Nat) : Stmt := (defBody sRefused).getD j (.Pass ⟨0, 0, 0, 0⟩)
theorem IsQ.but {H H' : Hp} {CQ q p : Addr} {ss : List S5} {gs : List Str} {n : Int} (h : IsQ H CQ q ss gs) (hp : Pu H p n) (b : But p H H') : IsQ H' CQ q ss gs := by
  obtain ⟨⟨dx, l, g, ts, hs, ⟨h1, h2, h3⟩, r⟩, so, go⟩ := h
  refine ⟨⟨dx, l, g, ts, hs, ⟨b _ _ (fun e => ?_) h1, h2.but b (pu_ne_sts hp h2.1) hp.lst, b _ _ (pu_ne_ws hp h3) h3⟩, r⟩, so, go⟩
  obtain ⟨xs, hx⟩ := hp.lst
  rw [e, hx] at h1
  cases h1
/-- what refusals are judged by -/
structure Rf (H : Hp) (CQ p W ls lg lc ln q g S : Addr) (ts : List (Addr × S5)) (gs cs ns : List Str) (s : S5) (n : Int) : Prop where
  wo : WoP H p W ls lg lc ln ts gs cs ns
  q : IsQ H CQ q (snds ts) gs
  pu : Pu H p n
  hg : (Ch.put s).At H g
  S : H S = some (.lst (if zz8 ∈ nms (snds ts) then [] else [.ref g]))
  sn : s.nm = zz8
  so : s.Ok
theorem pu_ne_len {H : Hp} {p l : Addr} {n : Int} {xs : List V} (hp : Pu H p n) (h : H l = some (.lst xs)) (ne : xs.length ≠ 4) : l ≠ p := fun e => by
  obtain ⟨ys, hy, a, b, c, d, ex, _⟩ := hp
  rw [e, hy, ex] at h
  cases h
  exact ne rfl
theorem pu_ne_tup {H : Hp} {p l : Addr} {n : Int} {xs : List V} (hp : Pu H p n) (h : H l = some (.tup xs)) : l ≠ p := fun e => by
  obtain ⟨ys, hy, _⟩ := hp
  rw [e, hy] at h
  cases h
section
variable {H H' : Hp} {CQ p W ls lg lc ln q g S : Addr} {ts : List (Addr × S5)} {gs cs ns : List Str} {s : S5} {n m : Int}
theorem Rf.keep (h : Rf H CQ p W ls lg lc ln q g S ts gs cs ns s n) (e : Same H H') : Rf H' CQ p W ls lg lc ln q g S ts gs cs ns s n := ⟨h.wo.keep e, h.q.keep e, h.pu.same e, h.hg.keep e, e _ _ h.S, h.sn, h.so⟩
theorem Rf.but (h : Rf H CQ p W ls lg lc ln q g S ts gs cs ns s n) (b : But p H H') (hp : Pu H' p m) : Rf H' CQ p W ls lg lc ln q g S ts gs cs ns s m := ⟨h.wo.but b h.pu.lst, h.q.but h.pu b, hp, h.hg.but h.pu b, b _ _ (pu_ne_len h.pu h.S (by split <;> simp)) h.S, h.sn, h.so⟩
theorem Rf.mono (h : Rf H CQ p W ls lg lc ln q g S ts gs cs ns s n) (l : n ≤ m) : Rf H CQ p W ls lg lc ln q g S ts gs cs ns s m := ⟨h.wo, h.q, h.pu.mono l, h.hg, h.S, h.sn, h.so⟩
theorem Rf.len (h : Rf H CQ p W ls lg lc ln q g S ts gs cs ns s n) : (snds ts).length ≤ 59 := by
  have := h.wo.wo.l2
  have := h.wo.wo.l3
  rw [snds_len]
  omega
theorem Rf.gt (h : Rf H CQ p W ls lg lc ln q g S ts gs cs ns s n) : ∃ t, H g = some (.tup [.str "put", .ref t]) ∧ H t = some (.tup s.vals) := h.hg
theorem s5_vals_sm {n : Nat} {H : Hp} {CQ : Addr} {s : S5} : ∀ x ∈ s.vals, Sm H CQ n true x := by
  have sc : ∀ {v}, Sc H CQ true v → Sm H CQ n true v := fun h => Sm.le (m := 0) h (Nat.zero_le _)
  intro x hx
  simp only [S5.vals, List.mem_cons, List.not_mem_nil, or_false] at hx
  rcases hx with rfl | rfl | rfl | rfl | rfl
  · exact sc (.inr (.inr (.inr (.inl ⟨_, rfl⟩))))
  · exact sc (.inr (.inr (.inr (.inl ⟨_, rfl⟩))))
  · exact sc (.inr (.inr (.inr (.inl ⟨_, rfl⟩))))
  · exact sc (.inr (.inr (.inl ⟨_, rfl⟩)))
  · exact sc (.inr (.inr (.inl ⟨_, rfl⟩)))
theorem put_sm (h : (Ch.put s).At H g) (f : Bool) : Sm H CQ 2 f (.ref g) := by
  obtain ⟨t, h1, h2⟩ := h
  have sc : ∀ x ∈ s.vals, Sc H CQ f x := by
    intro x hx
    simp only [S5.vals, List.mem_cons, List.not_mem_nil, or_false] at hx
    rcases hx with rfl | rfl | rfl | rfl | rfl
    · exact .inr (.inr (.inr (.inl ⟨_, rfl⟩)))
    · exact .inr (.inr (.inr (.inl ⟨_, rfl⟩)))
    · exact .inr (.inr (.inr (.inl ⟨_, rfl⟩)))
    · exact .inr (.inr (.inl ⟨_, rfl⟩))
    · exact .inr (.inr (.inl ⟨_, rfl⟩))
  refine .inr (.inl ⟨g, _, rfl, .inr h1, by show 2 ≤ 1000; omega, fun x hx => ?_⟩)
  simp only [List.mem_cons, List.not_mem_nil, or_false] at hx
  rcases hx with rfl | rfl
  · exact .inl (.inr (.inr (.inr (.inl ⟨_, rfl⟩))))
  · exact .inr (.inl ⟨t, _, rfl, .inr h2, by show 5 ≤ 1000; omega, fun y hy => sc y hy⟩)
end
section
variable {P : Program} {w : World} {K : PySem.W.Frag} {mg : Str → Option Value} {base : Heap} {f : Addr} {cdv : Value} {A : Around} {outer : List Env} {s : Shared} {Hl : Hp} {E : XK} {CQ : Addr}
/-! ### one way on -/
def spToldO (CQ : Addr) : Sp := fun vs H Q _ => ∃ (q : Addr) (ss : List S5) (gs : List Str) (v : V) (o : Od), vs = [.str "one", .ref q, v] ∧ IsQ H CQ q ss gs ∧ ss.length ≤ 59 ∧ OdV H v o ∧ isChangeO o = false ∧ ∀ t H', Same H H' → H t = none → Rep H' t "change" v → Q (.ref t) H'
theorem told_O : ∀ vs H Q E, spToldO CQ vs H Q E → spTold CQ vs H Q E := by
  rintro vs H Q E ⟨q, ss, gs, v, o, rfl, hq, l, ho, e, z⟩
  refine ⟨true, .ref q, v, rfl, .inr ⟨q, ss, gs, rfl, hq, ?_⟩⟩
  rw [if_pos rfl]
  exact ⟨l, .inl ⟨o, ho, e, z⟩⟩
/-- no list of changes -/
def NoL (H : Hp) (CQ : Addr) (v : V) : Prop := (∃ o, OdV H v o ∧ o.short ∧ areChO o = false) ∨ ∃ a dx fs, v = .ref a ∧ H a = some (.ins CQ dx fs)
theorem NoL.keep {H H' : Hp} {v : V} (h : NoL H CQ v) (s : Same H H') : NoL H' CQ v := by
  rcases h with ⟨o, h, r⟩ | ⟨a, dx, fs, e, h⟩
  · exact .inl ⟨o, h.keep s, r⟩
  · exact .inr ⟨a, dx, fs, e, s _ _ h⟩
def spToldA (CQ : Addr) : Sp := fun vs H Q _ => ∃ (q : Addr) (ss : List S5) (gs : List Str) (v : V), vs = [.str "all", .ref q, v] ∧ IsQ H CQ q ss gs ∧ NoL H CQ v ∧ ∀ t H', Same H H' → H t = none → Rep H' t "changes" v → Q (.ref t) H'
theorem told_A : ∀ vs H Q E, spToldA CQ vs H Q E → spTold CQ vs H Q E := by
  rintro vs H Q E ⟨q, ss, gs, v, rfl, hq, h, z⟩
  refine ⟨false, .ref q, v, rfl, .inr ⟨q, ss, gs, rfl, hq, ?_⟩⟩
  rw [if_neg nf]
  exact .inl ⟨h, z⟩
def spToldQ (CQ : Addr) : Sp := fun vs H Q _ => ∃ (z : Str) (v vc : V) (T : String), vs = [.str z, v, vc] ∧ (z = "one" ∨ z = "all") ∧ KindV H v (.type T) ∧ ∀ t H', Same H H' → H t = none → Rep H' t "quarter" v → Q (.ref t) H'
theorem told_Q : ∀ vs H Q E, spToldQ CQ vs H Q E → spTold CQ vs H Q E := by
  rintro vs H Q E ⟨z, v, vc, T, rfl, e, k, q⟩
  rcases e with rfl | rfl
  · exact ⟨true, v, vc, rfl, .inl ⟨T, k, q⟩⟩
  · exact ⟨false, v, vc, rfl, .inl ⟨T, k, q⟩⟩
/-! ### all that it calls -/
structure RfE (P : Program) (w : World) (K : PySem.W.Frag) (mg : Str → Option Value) (base : Heap) (CQ CI CC CL : Addr) : Prop where
  bd : Fz P w K mg base "_law_bad_changes" 1 [] (spBad CQ)
  vy : Fz P w K mg base "_law_very" 8 ["_law_told_here", "_law_word_here", "_law_thing"] (spVery CQ)
  td : Fz P w K mg base "_law_told" 11 ["_law_way", "_law_quarter_here", "_law_value"] (spTold CQ)
  dr : DrawZ P w K mg base
  T : Tx K mg
abbrev TRf (P : Program) (w : World) (K : PySem.W.Frag) (mg : Str → Option Value) (base : Heap) (f : Addr) (cdv : Value) (A : Around) (outer : List Env) (s : Shared) (Hl : Hp) (E : XK) : Cx := (cxOf CX0 P w K mg base NRf "_law_refused_right" (defScope sRefused) f cdv A outer s Hl E).nox
/-- the good change -/
def tR0 (CQ : Addr) (u : TS) : TS := fun Z σ H => ∃ (p q W ls lg lc ln : Addr) (ts : List (Addr × S5)) (gs cs ns : List Str) (n : Int), σ = [some (.ref p), some (.ref q), some (.ref W), none, none, none, none, none, none, none, none] ∧ WoP H p W ls lg lc ln ts gs cs ns ∧
  ∀ g x H', Same H H' → (Ch.put x).At H' g → x.nm = zz8 → x.Ok → u Z [some (.ref p), some (.ref q), some (.ref W), some (.ref g), none, none, none, none, none, none, none] H'
theorem rf0 (T : Tx K mg) {rest : List Stmt} {u : TS} (hu : PSs (TRf P w K mg base f cdv A outer s Hl E) rest u) :
    PSs (TRf P w K mg base f cdv A outer s Hl E) (rfS 0 :: rest) (tR0 CQ u) := by
  have gL := T.fr "len" (by decide +kernel)
  have gTu := T.fr "tuple" (by decide +kernel)
  refine weak (pss_cons (ps_set (i := 3) scRf.nd rfl (Or.inl rfl) (pe_ifExp (pt_cmpR op_gt (pe_callB call_len_seq (by rfl) gL PySem.boot_len (pa_cons (pe_ix ix_list (pv 2) pe_int (fun _ _ => rfl)) pa_nil)) pe_int (nomark _))
      (pe_tup (pa_cons pe_str (pa_cons (pe_op op_catT (pe_op op_catT (pe_tup (pa_cons pe_str pa_nil)) (pe_callTy call_tuple_of (by rfl) gTu (by decide +kernel) (pa_cons (pe_slice sl_list (pe_ix ix_list (pv 2) pe_int (fun _ _ => rfl)) po_none (po_some pe_int)) pa_nil))) (pe_tup (pa_cons pe_int (pa_cons pe_int pa_nil)))) pa_nil)))
      (pe_tup (pa_cons pe_str (pa_cons (pe_tup (pa_cons pe_str (pa_cons pe_str (pa_cons pe_str (pa_cons pe_int (pa_cons pe_int pa_nil)))))) pa_nil))))) hu) ?_
  rintro Z σ H ⟨p, q, W, ls, lg, lc, ln, ts, gs, cs, ns, n, rfl, hw, z⟩
  have sl := sizeLine_eq
  have two : 2 ≤ sizeLine := by omega
  have five : 5 ≤ sizeLine := by omega
  have one : 1 ≤ sizeLine := by omega
  have hc := hw.wo.c
  refine ⟨_, rfl, W, _, ((2 : Nat) : Int), _, rfl, rfl, SqL.of hw.at_, atI_nat rfl, lc, _, rfl, Or.inl (SqL.of hc), _, _, rfl, rfl, _, rfl, ?_⟩
  match cs, hw, hc with
  | c1 :: c2 :: r, hw, hc =>
    have cd := hw.wo.cd
    have cw := hw.wo.cw
    refine ifT (decide_eq_true (by rw [List.length_map, List.length_cons, List.length_cons]; omega)) ?_
    refine ⟨one, fun a na => ?_⟩
    have sa := same_upd (o := .tup [V.str "zzzzzzzz"]) na
    have ha : upd H a (.tup [V.str "zzzzzzzz"]) a = some (.tup [V.str "zzzzzzzz"]) := upd_same
    generalize upd H a (.tup [V.str "zzzzzzzz"]) = H1 at sa ha ⊢
    refine ⟨_, rfl, W, _, ((2 : Nat) : Int), _, rfl, rfl, SqL.of (sa _ _ hw.at_), atI_nat rfl, 2, rfl, lc, _, rfl, SqL.of (sa _ _ hc), fun b nb => ?_⟩
    have eb : cutV ((c1 :: c2 :: r).map V.str) none (some 2) = [V.str c1, V.str c2] := cut_take _ 2
    rw [eb]
    have sb := same_upd (o := .lst [V.str c1, V.str c2]) nb
    have hb : upd H1 b (.lst [V.str c1, V.str c2]) b = some (.lst [V.str c1, V.str c2]) := upd_same
    generalize upd H1 b (.lst [V.str c1, V.str c2]) = H2 at sb hb ⊢
    refine ⟨b, _, rfl, .inl ⟨SqL.of hb, fun d nd => ?_⟩⟩
    have sd := same_upd (o := .tup [V.str c1, V.str c2]) nd
    have hd : upd H2 d (.tup [V.str c1, V.str c2]) d = some (.tup [V.str c1, V.str c2]) := upd_same
    generalize upd H2 d (.tup [V.str c1, V.str c2]) = H3 at sd hd ⊢
    refine ⟨a, d, _, _, rfl, rfl, SqT.of (sd _ _ (sb _ _ ha)), SqT.of hd, by simp, by show 3 ≤ sizeLine; omega, (fun z => by simp at z), fun _ e ne => ?_⟩
    have se := same_upd (o := .tup ([V.str "zzzzzzzz"] ++ [V.str c1, V.str c2])) ne
    have he : upd H3 e (.tup ([V.str "zzzzzzzz"] ++ [V.str c1, V.str c2])) e = some (.tup ([V.str "zzzzzzzz"] ++ [V.str c1, V.str c2])) := upd_same
    generalize upd H3 e (.tup ([V.str "zzzzzzzz"] ++ [V.str c1, V.str c2])) = H4 at se he ⊢
    refine ⟨two, fun k nk => ?_⟩
    have sk := same_upd (o := .tup [V.int 1, V.int 1]) nk
    have hk : upd H4 k (.tup [V.int 1, V.int 1]) k = some (.tup [V.int 1, V.int 1]) := upd_same
    generalize upd H4 k (.tup [V.int 1, V.int 1]) = H5 at sk hk ⊢
    refine ⟨e, k, _, _, rfl, rfl, SqT.of (sk _ _ he), SqT.of hk, by simp, by show 5 ≤ sizeLine; omega, (fun z => by simp at z), fun _ m nm => ?_⟩
    have sm := same_upd (o := .tup (([V.str "zzzzzzzz"] ++ [V.str c1, V.str c2]) ++ [V.int 1, V.int 1])) nm
    have hm : upd H5 m (.tup (([V.str "zzzzzzzz"] ++ [V.str c1, V.str c2]) ++ [V.int 1, V.int 1])) m = some (.tup (S5.vals ⟨"zzzzzzzz", c1, c2, 1, 1⟩)) := upd_same
    generalize upd H5 m (.tup (([V.str "zzzzzzzz"] ++ [V.str c1, V.str c2]) ++ [V.int 1, V.int 1])) = H6 at sm hm ⊢
    refine ⟨two, fun g ng => ?_⟩
    have sg := same_upd (o := .tup [V.str "put", V.ref m]) ng
    have ne : c1 ≠ c2 := fun z => by
      subst z
      simp at cd
    exact z g ⟨"zzzzzzzz", c1, c2, 1, 1⟩ _ (same_trans sa (same_trans sb (same_trans sd (same_trans se (same_trans sk (same_trans sm sg)))))) ⟨m, upd_same, sg _ _ hm⟩ rfl
      ⟨(by decide +kernel : Wd zz8), cw c1 (by simp), cw c2 (by simp), ne, (by show (0 : Int) ≤ 1; decide), (by show (1 : Int) ≤ 1000000; decide), (by show (0 : Int) ≤ 1; decide), (by show (1 : Int) ≤ 1000000; decide)⟩
  | [c1], hw, hc =>
    refine ifF (by rw [decide_eq_false (by simp)]; decide) ?_
    refine ⟨five, fun a na => ?_⟩
    have sa := same_upd (o := .tup [V.str "zzzzzzzz", V.str "q", V.str "qq", V.int 1, V.int 1]) na
    have ha : upd H a (.tup [V.str "zzzzzzzz", V.str "q", V.str "qq", V.int 1, V.int 1]) a = some (.tup (S5.vals ⟨"zzzzzzzz", "q", "qq", 1, 1⟩)) := upd_same
    generalize upd H a (.tup [V.str "zzzzzzzz", V.str "q", V.str "qq", V.int 1, V.int 1]) = H1 at sa ha ⊢
    refine ⟨two, fun b nb => ?_⟩
    have sb := same_upd (o := .tup [V.str "put", V.ref a]) nb
    exact z b ⟨"zzzzzzzz", "q", "qq", 1, 1⟩ _ (same_trans sa sb) ⟨a, upd_same, sb _ _ ha⟩ rfl (okB_ok (k := .put ⟨"zzzzzzzz", "q", "qq", 1, 1⟩) (by decide +kernel))
  | [], hw, hc =>
    obtain ⟨k, k1, _, k3, _⟩ := hw.wo.gp
    simp at k3
    omega
/-- the list of it -/
def tR1 (CQ : Addr) (u : TS) : TS := fun Z σ H => ∃ (p q W ls lg lc ln g : Addr) (ts : List (Addr × S5)) (gs cs ns : List Str) (x : S5) (n : Int), σ = [some (.ref p), some (.ref q), some (.ref W), some (.ref g), none, none, none, none, none, none, none] ∧ WoP H p W ls lg lc ln ts gs cs ns ∧ IsQ H CQ q (snds ts) gs ∧ Pu H p n ∧
  (Ch.put x).At H g ∧ x.nm = zz8 ∧ x.Ok ∧
  ∀ S H', Same H H' → Rf H' CQ p W ls lg lc ln q g S ts gs cs ns x n → u Z [some (.ref p), some (.ref q), some (.ref W), some (.ref g), some (.ref S), none, none, none, none, none, none] H'
theorem rf1 (T : Tx K mg) {rest : List Stmt} {u : TS} (hu : PSs (TRf P w K mg base f cdv A outer s Hl E) rest u) :
    PSs (TRf P w K mg base f cdv A outer s Hl E) (rfS 1 :: rest) (tR1 CQ u) := by
  have gI := T.fr "int" (by decide +kernel)
  refine weak (pss_cons (ps_set (i := 4) scRf.nd rfl (Or.inl rfl) (pe_op op_rep (pe_lst (pa_cons (pv 3) pa_nil)) (pe_callTy call_int1 (by rfl) gI (by decide +kernel) (pa_cons (pe_cmpR op_notIn_seq pe_str
      (pe_lc (own := [("_law_street", 10)]) (g := gName 10) (tt := tYes) (te := tOp (rIxT K) (tVar 10) (tC (.int ((0 : Nat) : Int)))) rfl scRf.nd (pi_list (pe_ix ix_list (pv 2) pe_int (fun _ _ => rfl))) (blkOk_by (own := [("_law_street", 10)]) (N := NRf) (sc := defScope sRefused) (by decide +kernel))
              (fun _ _ _ _ _ => pg_name (i := 10) scRf.nd rfl (Or.inl rfl)) (fun _ _ _ _ _ => pts_nil) (fun _ _ _ _ _ => pe_ix ix_tup (pv 10) pe_int (fun _ _ => rfl))) rfl) pa_nil)))) hu) ?_
  rintro Z σ H ⟨p, q, W, ls, lg, lc, ln, g, ts, gs, cs, ns, x, n, rfl, hw, hq, hp, hg, hx, ho, z⟩
  have sl := sizeLine_eq
  have hl := hw.wo.s
  have l60 : ts.length ≤ 14 := by
    have := hw.wo.l2
    have := hw.wo.l3
    omega
  refine ⟨_, rfl, by show 1 ≤ sizeLine; omega, fun a na => ?_⟩
  have sa := same_upd (o := .lst [V.ref g]) na
  have ha : upd H a (.lst [V.ref g]) a = some (.lst [V.ref g]) := upd_same
  generalize upd H a (.lst [V.ref g]) = H1 at sa ha ⊢
  have hl1 := hl.keep sa
  refine ⟨_, rfl, W, _, ((0 : Nat) : Int), _, rfl, rfl, SqL.of (sa _ _ hw.at_), atI_nat rfl, ls, rfl, ⟨_, SqL.of hl1.1⟩, fun D nD => ?_⟩
  refine lc_part (K := K) (g := S5.nm) (j := 0) (i := 10) (fun s => rfl) nD hl1 (by omega) (fun v => rfl) (fun v => rfl) fun H2 s2 hD => ?_
  refine ⟨D, _, rfl, Or.inl (SqL.of hD), rfl, flat_strs _, ?_⟩
  rw [inV_str]
  have s02 := same_trans sa s2
  have em : (ts.map fun t => t.2.nm) = nms (snds ts) := by simp only [nms, snds, List.map_map]; rfl
  rw [em]
  by_cases hz : zz8 ∈ nms (snds ts)
  · have e0 : (!decide (("zzzzzzzz" : Str) ∈ nms (snds ts))) = false := by
      show (!decide (zz8 ∈ nms (snds ts))) = false
      rw [decide_eq_true hz]
      rfl
    refine .inr ⟨_, rfl, a, _, _, rfl, rfl, s2 _ _ ha, ?_, ?_, ?_, fun S nS => ?_⟩
    · show -(2 ^ 63) ≤ (if (!decide (("zzzzzzzz" : Str) ∈ nms (snds ts))) = true then (1 : Int) else 0)
      rw [e0]
      decide
    · show (if (!decide (("zzzzzzzz" : Str) ∈ nms (snds ts))) = true then (1 : Int) else 0) < 2 ^ 63
      rw [e0]
      decide
    · show 1 * (if (!decide (("zzzzzzzz" : Str) ∈ nms (snds ts))) = true then (1 : Int) else 0).toNat ≤ sizeLine
      rw [e0, sl]
      decide
    · have s3 := same_upd (o := .lst (List.replicate (if (!decide (("zzzzzzzz" : Str) ∈ nms (snds ts))) = true then (1 : Int) else 0).toNat [V.ref g]).flatten) nS
      have s03 := same_trans s02 s3
      refine z S _ s03 ⟨hw.keep s03, hq.keep s03, hp.same s03, hg.keep s03, ?_, hx, ho⟩
      rw [upd_same, if_pos hz, e0]
      rfl
  · have e0 : (!decide (("zzzzzzzz" : Str) ∈ nms (snds ts))) = true := by
      show (!decide (zz8 ∈ nms (snds ts))) = true
      rw [decide_eq_false hz]
      rfl
    refine .inr ⟨_, rfl, a, _, _, rfl, rfl, s2 _ _ ha, ?_, ?_, ?_, fun S nS => ?_⟩
    · show -(2 ^ 63) ≤ (if (!decide (("zzzzzzzz" : Str) ∈ nms (snds ts))) = true then (1 : Int) else 0)
      rw [e0]
      decide
    · show (if (!decide (("zzzzzzzz" : Str) ∈ nms (snds ts))) = true then (1 : Int) else 0) < 2 ^ 63
      rw [e0]
      decide
    · show 1 * (if (!decide (("zzzzzzzz" : Str) ∈ nms (snds ts))) = true then (1 : Int) else 0).toNat ≤ sizeLine
      rw [e0, sl]
      decide
    · have s3 := same_upd (o := .lst (List.replicate (if (!decide (("zzzzzzzz" : Str) ∈ nms (snds ts))) = true then (1 : Int) else 0).toNat [V.ref g]).flatten) nS
      have s03 := same_trans s02 s3
      refine z S _ s03 ⟨hw.keep s03, hq.keep s03, hp.same s03, hg.keep s03, ?_, hx, ho⟩
      rw [upd_same, if_neg hz, e0]
      rfl
end
end K4
end
section
set_option Elab.async false
set_option linter.all false
set_option maxRecDepth 100000
set_option maxHeartbeats 4000000
namespace K4
open PySem PySem.Spec PyProof.Rows L2 H3 H4
theorem OdA.app {H : Hp} : ∀ {vs vs' : List V} {os os' : List Od}, OdA H vs os → OdA H vs' os' → OdA H (vs ++ vs') (os ++ os')
  | [], _, _, _, h, h' => by
    cases h
    exact h'
  | v :: vs, _, _, _, h, h' => by
    cases h with
    | cons a h => exact .cons a (h.app h')
theorem chs_od {H : Hp} : ∀ ks : List (Addr × Ch), (∀ t ∈ ks, t.2.At H t.1) → (∀ t ∈ ks, t.2.Ok) → ∃ os, OdA H (ks.map fun t => V.ref t.1) os ∧ os.length = ks.length
  | [], _, _ => ⟨[], .nil, rfl⟩
  | t :: ks, h, ok => by
    obtain ⟨os, h1, h2⟩ := chs_od ks (fun u hu => h u (List.mem_cons_of_mem _ hu)) (fun u hu => ok u (List.mem_cons_of_mem _ hu))
    obtain ⟨o, h4, _⟩ := (h t List.mem_cons_self).od (ok t List.mem_cons_self)
    exact ⟨o :: os, .cons h4 h1, by simp [h2]⟩
theorem Ch.At.wo {H : Hp} {c M : Addr} {k : Ch} {xs : List V} (h : k.At H c) (hM : H M = some (.lst xs)) : k.At (del H M) c := by
  have ne : ∀ {a : Addr} {ys : List V}, H a = some (.tup ys) → del H M a = some (.tup ys) := fun {a ys} e => by
    have : a ≠ M := fun z => by
      rw [z, hM] at e
      cases e
    simpa only [del, this, if_false] using e
  cases k with
  | put s =>
    obtain ⟨t, h1, h2⟩ := h
    exact ⟨t, ne h1, ne h2⟩
  | out z => exact ne h
  | ck k => exact ne h
theorem Ch.At.sm {H : Hp} {CQ c : Addr} {k : Ch} {f : Bool} (h : k.At H c) : Sm H CQ 2 f (.ref c) := by
  have st : ∀ {n z}, Sm H CQ n f (.str z) := fun {n z} => Sm.le (m := 0) (.inr (.inr (.inr (.inl ⟨z, rfl⟩)))) (Nat.zero_le _)
  have it : ∀ {n z}, Sm H CQ n f (.int z) := fun {n z} => Sm.le (m := 0) (.inr (.inr (.inl ⟨z, rfl⟩))) (Nat.zero_le _)
  cases k with
  | put s => exact put_sm h f
  | out z =>
    refine .inr (.inl ⟨c, _, rfl, .inr h, by show 2 ≤ 1000; omega, fun x hx => ?_⟩)
    simp only [List.mem_cons, List.not_mem_nil, or_false] at hx
    rcases hx with rfl | rfl <;> exact st
  | ck k =>
    cases k with
    | w z i =>
      refine .inr (.inl ⟨c, _, rfl, .inr h, by show 3 ≤ 1000; omega, fun x hx => ?_⟩)
      simp only [CK.vals, List.mem_cons, List.not_mem_nil, or_false] at hx
      rcases hx with rfl | rfl | rfl
      · exact st
      · exact st
      · exact it
    | l z i =>
      refine .inr (.inl ⟨c, _, rfl, .inr h, by show 3 ≤ 1000; omega, fun x hx => ?_⟩)
      simp only [CK.vals, List.mem_cons, List.not_mem_nil, or_false] at hx
      rcases hx with rfl | rfl | rfl
      · exact st
      · exact st
      · exact it
    | t z =>
      refine .inr (.inl ⟨c, _, rfl, .inr h, by show 2 ≤ 1000; omega, fun x hx => ?_⟩)
      simp only [CK.vals, List.mem_cons, List.not_mem_nil, or_false] at hx
      rcases hx with rfl | rfl <;> exact st
/-- changes with an odd thing among them -/
theorem odd_list {H F : Hp} {CQ M : Addr} {ks : List (Addr × Ch)} {x : V} {o : Od} {i : Nat} (hM : H M = some (.lst ((ks.map fun t => V.ref t.1).take i ++ [x] ++ (ks.map fun t => V.ref t.1).drop i))) (hk : ∀ t ∈ ks, t.2.At H t.1) (ok : ∀ t ∈ ks, t.2.Ok) (kl : ks.length ≤ 10)
    (hx : Ob F CQ x o) (bo : badB o = true) (s : Same F (del H M)) : NoL H CQ (.ref M) ∧ Vy H CQ 3 (.ref M) := by
  unfold badB at bo
  simp only [Bool.and_eq_true, decide_eq_true_eq, Bool.not_eq_true'] at bo
  obtain ⟨b1, b2, b3⟩ := bo
  have hx1 : Ob (del H M) CQ x o := hx.keep s
  have hxH : Ob H CQ x o := hx1.keep del_sub
  rw [← List.map_take, ← List.map_drop] at hM
  obtain ⟨os1, h1, l1⟩ := chs_od (H := H) (ks.take i) (fun t ht => hk t (List.mem_of_mem_take ht)) fun t ht => ok t (List.mem_of_mem_take ht)
  obtain ⟨os2, h2, l2⟩ := chs_od (H := H) (ks.drop i) (fun t ht => hk t (List.mem_of_mem_drop ht)) fun t ht => ok t (List.mem_of_mem_drop ht)
  rw [List.length_take] at l1
  rw [List.length_drop] at l2
  have sm : ∀ y ∈ (ks.take i).map (fun t => V.ref t.1) ++ [x] ++ (ks.drop i).map (fun t => V.ref t.1), Sm (del H M) CQ 3 true y := by
    intro y hy
    rcases List.mem_append.mp hy with hy | hy
    · rcases List.mem_append.mp hy with hy | hy
      · obtain ⟨t, ht, rfl⟩ := List.mem_map.mp hy
        exact (((hk t (List.mem_of_mem_take ht)).wo hM).sm).up
      · rw [List.mem_singleton.mp hy]
        exact hx1.vy.sm.le (by omega)
    · obtain ⟨t, ht, rfl⟩ := List.mem_map.mp hy
      exact (((hk t (List.mem_of_mem_drop ht)).wo hM).sm).up
  have ln : ((ks.take i).map (fun t => V.ref t.1) ++ [x] ++ (ks.drop i).map (fun t => V.ref t.1)).length ≤ 900 := by
    rw [List.length_append, List.length_append, List.length_map, List.length_map, List.length_take, List.length_drop, List.length_singleton]
    omega
  refine ⟨.inl ⟨.lst (os1 ++ [o] ++ os2), .lst hM ((h1.app (.cons hxH.od .nil)).app h2), ?_, ?_⟩, ?_, ?_⟩
  · show (os1 ++ [o] ++ os2).length ≤ 1000
    rw [List.length_append, List.length_append, List.length_singleton]
    omega
  · show (os1 ++ [o] ++ os2).all isChangeO = false
    simp [List.all_append, b1]
  · exact .inr (.inl ⟨M, _, rfl, .inl hM, by omega, fun y hy => (sm y hy).keep del_sub⟩)
  · intro a xs e h'
    cases e
    rw [hM] at h'
    cases h'
    exact ⟨ln, sm⟩
section
variable {P : Program} {w : World} {K : PySem.W.Frag} {mg : Str → Option Value} {base : Heap} {f : Addr} {cdv : Value} {A : Around} {outer : List Env} {s : Shared} {Hl : Hp} {E : XK} {CQ CI CC CL : Addr}
theorem same_but {p : Addr} {F H H' : Hp} (s : Same F H) (b : But p H H') (n : F p = none) : Same F H' := fun a o e => b a o (ne_of_none e n) (s a o e)
/-- all odd changes, alone and among others -/
def tR2 (CQ : Addr) (u : TS) : TS := fun Z σ H => ∃ (p q W ls lg lc ln g S : Addr) (ts : List (Addr × S5)) (gs cs ns : List Str) (x : S5) (n : Int), σ = [some (.ref p), some (.ref q), some (.ref W), some (.ref g), some (.ref S), none, none, none, none, none, none] ∧ Rf H CQ p W ls lg lc ln q g S ts gs cs ns x n ∧ n ≤ 500000 ∧
  ∀ o5 o6 H', But p H H' → Rf H' CQ p W ls lg lc ln q g S ts gs cs ns x (n + 1000) → u Z [some (.ref p), some (.ref q), some (.ref W), some (.ref g), some (.ref S), o5, o6, none, none, none, none] H'
theorem rf2 (L : RfE P w K mg base CQ CI CC CL) (hr : Room 11 (A.deeper (envOfC "_law_refused_right" (defScope sRefused) s.heap.objs.size f cdv))) {rest : List Stmt} {u : TS} (hu : PSs (TRf P w K mg base f cdv A outer s Hl E) rest u) :
    PSs (TRf P w K mg base f cdv A outer s Hl E) (rfS 2 :: rest) (tR2 CQ u) := by
  have gL := L.T.fr "len" (by decide +kernel)
  have r1 : Room 1 (A.deeper (envOfC "_law_refused_right" (defScope sRefused) s.heap.objs.size f cdv)) := hr.mono (by decide)
  have r2 : Room 2 (A.deeper (envOfC "_law_refused_right" (defScope sRefused) s.heap.objs.size f cdv)) := hr.mono (by decide)
  have r8 : Room 8 (A.deeper (envOfC "_law_refused_right" (defScope sRefused) s.heap.objs.size f cdv)) := hr.mono (by decide)
  have TO := Fz.wk L.td told_O
  have TA := Fz.wk L.td told_A
  refine weak (pss_cons (ps_for PassesOwn.never rfl (pi_list (pe_fz0 L.bd r1 (by rfl))) (pg_name (i := 5) scRf.nd rfl (Or.inl rfl))
    (pss_cons (ps_if (pt_not (pt_val (pe_fz L.vy r8 (by rfl) (pa_cons (pe_fz TO hr (by rfl) (pa_cons pe_str (pa_cons (pv 1) (pa_cons (pv 5) pa_nil)))) (pa_cons pe_str (pa_cons (pv 5) pa_nil)))))) (pss_one (ps_ret pe_bl)) pss_nil)
    (pss_cons (ps_set (i := 6) scRf.nd rfl (Or.inl rfl) (pe_op op_cat (pv 4) (pe_slice sl_list (pe_lst (pa_cons (pe_tup (pa_cons pe_str (pa_cons pe_str pa_nil))) (pa_cons (pe_tup (pa_cons pe_str (pa_cons pe_str (pa_cons pe_int pa_nil)))) pa_nil))) po_none (po_some (pe_fz L.dr r2 (by rfl) (pa_cons (pv 0) (pa_cons pe_int pa_nil)))))))
    (pss_cons (ps_expr (pe_bm PySem.F.plainAttrs_list PySem.F.slot_list_insert PySem.F.type_list_insert mt_insert (pv 6) (pa_cons (pe_fz L.dr r2 (by rfl) (pa_cons (pv 0) (pa_cons (pe_op op_add (pe_callB call_len_seq (by rfl) gL PySem.boot_len (pa_cons (pv 6) pa_nil)) pe_int) pa_nil))) (pa_cons (pv 5) pa_nil))))
    (pss_one (ps_if (pt_not (pt_val (pe_fz L.vy r8 (by rfl) (pa_cons (pe_fz TA hr (by rfl) (pa_cons pe_str (pa_cons (pv 1) (pa_cons (pv 6) pa_nil)))) (pa_cons pe_str (pa_cons (pv 6) pa_nil)))))) (pss_one (ps_ret pe_bl)) pss_nil)))))) hu) ?_
  rintro Z σ H ⟨p, q, W, ls, lg, lc, ln, g, S, ts, gs, cs, ns, y, n, rfl, hR, hn, z⟩
  have sl := sizeLine_eq
  refine ⟨rfl, fun L0 ws os H1 s1 nL hL hws hb hlen => ⟨L0, rfl, ⟨_, SqL.of hL⟩, ?_⟩⟩
  have hlw := hws.len
  have Fp : mn H H1 p = none := by
    obtain ⟨xs, hx, _⟩ := hR.pu
    unfold mn
    rw [hx]
  have FL : mn H H1 L0 = some (.lst ws) := by rw [mn_at nL]; exact hL
  have sF1 : Same (mn H H1) H1 := mn_sub
  generalize mn H H1 = F at hws Fp FL sF1
  have hR1 := hR.keep s1
  refine for_list (K := K) (a := L0) (xs := ws) (fun j σ H' => ∃ (o5 o6 : Option V), σ = [some (.ref p), some (.ref q), some (.ref W), some (.ref g), some (.ref S), o5, o6, none, none, none, none] ∧ But p H1 H' ∧ Same F H' ∧ Rf H' CQ p W ls lg lc ln q g S ts gs cs ns y (n + 2 * (j : Nat))) ⟨_, _, rfl, Same.but (.refl _), sF1, by simpa using hR1⟩ (fun j σ H' _ ⟨_, _, _, _, sF, _⟩ => SqL.of (sF _ _ FL)) ?_ ?_
  · rintro j x σ H2 hj ⟨o5, o6, rfl, b2, sF2, hR2⟩
    obtain ⟨o, ho, hob⟩ := hws.get hj
    have bo : badB o = true := List.all_eq_true.mp hb o (List.mem_of_getElem? ho)
    have lt : j < os.length := (List.getElem?_eq_some_iff.mp ho).1
    have hob2 := hob.keep sF2
    have bo' := bo
    unfold badB at bo'
    simp only [Bool.and_eq_true, decide_eq_true_eq, Bool.not_eq_true'] at bo'
    refine ⟨_, rfl, _, rfl, q, snds ts, gs, x, o, rfl, hR2.q, hR2.len, hob2.od, bo'.1, fun t H3 s3 nt rp => ⟨_, rfl, t, "change", x, rfl, rp, (hob2.vy.keep' s3).le (by omega), fun H4 s4 => ⟨_, rfl, ifF (by decide) ?_⟩⟩⟩
    have s34 := same_trans s3 s4
    have hR4 := hR2.keep s34
    -- some good ones
    refine ⟨_, rfl, (by show 2 ≤ sizeLine; omega), fun c1 nc1 => ?_⟩
    have k1 := same_upd (o := .tup [V.str "out", V.str "ab"]) nc1
    have hc1 : (Ch.out "ab").At (upd H4 c1 (.tup [V.str "out", V.str "ab"])) c1 := upd_same
    generalize upd H4 c1 (.tup [V.str "out", V.str "ab"]) = H5 at k1 hc1 ⊢
    refine ⟨(by show 3 ≤ sizeLine; omega), fun c2 nc2 => ?_⟩
    have k2 := same_upd (o := .tup [V.str "width", V.str "ab", V.int 3]) nc2
    have hc2 : (Ch.ck (.w "ab" 3)).At (upd H5 c2 (.tup [V.str "width", V.str "ab", V.int 3])) c2 := upd_same
    generalize upd H5 c2 (.tup [V.str "width", V.str "ab", V.int 3]) = H6 at k2 hc2 ⊢
    refine ⟨(by show 2 ≤ sizeLine; omega), fun l3 nl3 => ?_⟩
    have k3 := same_upd (o := .lst [V.ref c1, V.ref c2]) nl3
    have hl3 : upd H6 l3 (.lst [V.ref c1, V.ref c2]) l3 = some (.lst [V.ref c1, V.ref c2]) := upd_same
    generalize upd H6 l3 (.lst [V.ref c1, V.ref c2]) = H7 at k3 hl3 ⊢
    have k13 := same_trans k1 (same_trans k2 k3)
    have hR7 := hR4.keep k13
    obtain ⟨xs7, hx7, hp7⟩ := hR7.pu
    refine ⟨_, rfl, p, 3, _, xs7, rfl, hx7, hp7, by omega, by decide, by decide, fun r ys r0 r3 hy => ?_⟩
    obtain ⟨p8, b8⟩ := pu_b (H := H7) (p := p) hy
    have hR8 := hR7.but b8 p8
    have nl3p : l3 ≠ p := pu_ne_len hR7.pu hl3 (by simp)
    have hl38 := b8 _ _ nl3p hl3
    have hc18 := ((hc1.keep k2).keep k3).but hR7.pu b8
    have hc28 := (hc2.keep k3).but hR7.pu b8
    have F8 : Same F (upd H7 p (.lst ys)) := same_but (same_trans sF2 (same_trans s34 k13)) b8 Fp
    have B8 : But p H1 (upd H7 p (.lst ys)) := b2.trans ((Same.but (same_trans s34 k13)).trans b8)
    generalize upd H7 p (.lst ys) = H8 at hR8 hl38 hc18 hc28 F8 B8 p8 ⊢
    obtain ⟨m, rfl⟩ := Int.eq_ofNat_of_zero_le r0
    refine ⟨_, rfl, l3, _, rfl, SqL.of hl38, fun d nd => ?_⟩
    rw [cut_take]
    have k4 := same_upd (o := .lst ([V.ref c1, V.ref c2].take m)) nd
    have hd : upd H8 d (.lst ([V.ref c1, V.ref c2].take m)) d = some (.lst ([V.ref c1, V.ref c2].take m)) := upd_same
    generalize upd H8 d (.lst ([V.ref c1, V.ref c2].take m)) = H9 at k4 hd ⊢
    have hR9 := hR8.keep k4
    have cut : ([V.ref c1, V.ref c2].take m).length ≤ 2 := by rw [List.length_take]; show min m 2 ≤ 2; omega
    have goodl : (if zz8 ∈ nms (snds ts) then [] else [V.ref g]).length ≤ 1 := by split <;> simp
    refine ⟨S, d, _, _, rfl, rfl, hR9.S, hd, by omega, fun M nM => ?_⟩
    -- all of them as changes
    obtain ⟨ks, ek, lk, hk, ok⟩ : ∃ ks : List (Addr × Ch), (if zz8 ∈ nms (snds ts) then [] else [V.ref g]) ++ [V.ref c1, V.ref c2].take m = ks.map (fun t => V.ref t.1) ∧ ks.length ≤ 3 ∧ (∀ t ∈ ks, t.2.At H9 t.1) ∧ ∀ t ∈ ks, t.2.Ok := by
      refine ⟨(if zz8 ∈ nms (snds ts) then [] else [(g, Ch.put y)]) ++ [(c1, Ch.out "ab"), (c2, Ch.ck (.w "ab" 3))].take m, ?_, ?_, ?_⟩
      · rw [List.map_append, List.map_take]
        split <;> rfl
      · rw [List.length_append, List.length_take]
        have : (if zz8 ∈ nms (snds ts) then [] else [(g, Ch.put y)]).length ≤ 1 := by split <;> simp
        show _ + min m 2 ≤ 3
        omega
      · have key : ∀ t ∈ (if zz8 ∈ nms (snds ts) then [] else [(g, Ch.put y)]) ++ [(c1, Ch.out "ab"), (c2, Ch.ck (.w "ab" 3))].take m, t = (g, Ch.put y) ∨ t = (c1, Ch.out "ab") ∨ t = (c2, Ch.ck (.w "ab" 3)) := by
          intro t ht
          rcases List.mem_append.mp ht with h | h
          · left
            split at h
            · simp at h
            · exact List.mem_singleton.mp h
          · right
            have := List.mem_of_mem_take h
            simpa using this
        refine ⟨fun t ht => ?_, fun t ht => ?_⟩
        · rcases key t ht with rfl | rfl | rfl
          · exact hR9.hg
          · exact hc18.keep k4
          · exact hc28.keep k4
        · rcases key t ht with rfl | rfl | rfl
          · exact hR9.so
          · exact okB_ok (k := .out "ab") (by decide +kernel)
          · exact okB_ok (k := .ck (.w "ab" 3)) (by decide +kernel)
    rw [ek]
    have k5 := same_upd (o := .lst (ks.map fun t => V.ref t.1)) nM
    have hM : upd H9 M (.lst (ks.map fun t => V.ref t.1)) M = some (.lst (ks.map fun t => V.ref t.1)) := upd_same
    have F9 : Same F H9 := same_trans F8 k4
    have FM : F M = none := sfr F9 nM
    have nMp : M ≠ p := pu_new hR9.pu nM
    generalize upd H9 M (.lst (ks.map fun t => V.ref t.1)) = H10 at k5 hM ⊢
    have hR10 := hR9.keep k5
    obtain ⟨xs10, hx10, hp10⟩ := hR10.pu
    refine ⟨_, rfl, Or.inl ⟨rfl, _, SqL.of hM⟩, _, rfl, _, rfl, M, _, rfl, Or.inl (SqL.of hM), _, _, rfl, rfl, ?_⟩
    refine ⟨p, _, _, xs10, rfl, hx10, hp10, by omega, by rw [List.length_map]; omega, by rw [List.length_map]; omega, fun r ys r0 r3 hy => ?_⟩
    obtain ⟨p11, b11⟩ := pu_b (H := H10) (p := p) hy
    have hR11 := hR10.but b11 p11
    have hM11 := b11 _ _ nMp hM
    have hk11 : ∀ t ∈ ks, t.2.At (upd H10 p (.lst ys)) t.1 := fun t ht => ((hk t ht).keep k5).but hR10.pu b11
    have F11 : Same F (upd H10 p (.lst ys)) := same_but (same_trans F9 k5) b11 Fp
    have B11 : But p H1 (upd H10 p (.lst ys)) := B8.trans ((Same.but (same_trans k4 k5)).trans b11)
    generalize upd H10 p (.lst ys) = H11 at hR11 hM11 hk11 F11 B11 p11 b11 ⊢
    obtain ⟨i, rfl⟩ := Int.eq_ofNat_of_zero_le r0
    rw [List.length_map] at r3
    refine ⟨_, rfl, M, _, _, x, rfl, rfl, hM11, by rw [List.length_map]; omega, r0, by omega, ?_⟩
    have hM12 : upd H11 M (.lst ((ks.map fun t => V.ref t.1).take ((i : Int)).toNat ++ [x] ++ (ks.map fun t => V.ref t.1).drop ((i : Int)).toNat)) M = some (.lst ((ks.map fun t => V.ref t.1).take ((i : Int)).toNat ++ [x] ++ (ks.map fun t => V.ref t.1).drop ((i : Int)).toNat)) := upd_same
    have b12 : But M H11 (upd H11 M (.lst ((ks.map fun t => V.ref t.1).take ((i : Int)).toNat ++ [x] ++ (ks.map fun t => V.ref t.1).drop ((i : Int)).toNat))) := but_self
    generalize upd H11 M (.lst ((ks.map fun t => V.ref t.1).take ((i : Int)).toNat ++ [x] ++ (ks.map fun t => V.ref t.1).drop ((i : Int)).toNat)) = H12 at hM12 b12 ⊢
    have b9 : But p H9 H12 := fun b u nb e => b12 b u (ne_of_none e nM) (b11 b u nb (k5 b u e))
    have p12 : Pu H12 p (n + 2 * (j : Nat) + 1 + 1) := by
      obtain ⟨ys', hy', hu'⟩ := p11
      exact ⟨ys', b12 _ _ nMp.symm hy', hu'⟩
    have hR12 := hR9.but b9 p12
    have F12 : Same F (del H12 M) := fun b u e => by
      have nb : b ≠ M := ne_of_none e FM
      have e2 := b12 _ _ nb (F11 _ _ e)
      simpa only [del, nb, if_false] using e2
    have F12' : Same F H12 := same_trans F12 del_sub
    have hk12 : ∀ t ∈ ks, t.2.At H12 t.1 := fun t ht => ((hk11 t ht).wo hM11).keep fun b u e => by
      by_cases h : b = M
      · simp only [del, h, if_true] at e
        cases e
      · simp only [del, h, if_false] at e
        exact b12 _ _ h e
    have B12 : But p H1 H12 := (B8.trans (Same.but k4)).trans b9
    obtain ⟨nol, vy⟩ := odd_list hM12 hk12 ok (by omega) hob bo F12
    refine ⟨_, rfl, _, rfl, q, snds ts, gs, .ref M, rfl, hR12.q, nol, fun t13 H13 s13 nt13 rp13 => ⟨_, rfl, t13, "changes", .ref M, rfl, rp13, vy.keep' s13, fun H14 s14 => ⟨_, rfl, ifF (by decide) ?_⟩⟩⟩
    have s1314 := same_trans s13 s14
    exact ⟨_, _, rfl, B12.trans (Same.but s1314), same_trans F12' s1314, (hR12.keep s1314).mono (by push_cast; omega)⟩
  · rintro σ H2 ⟨o5, o6, rfl, b2, sF, hR2⟩
    exact z _ _ H2 ((Same.but s1).trans b2) (hR2.mono (by omega))
end
end K4
end
section
set_option Elab.async false
set_option linter.all false
set_option maxRecDepth 100000
set_option maxHeartbeats 4000000
namespace K4
open PySem PySem.Spec PyProof.Rows L2 H3 H4
/-- a thing that is no list of changes, and may be borne by an error -/
def Ax (H : Hp) (CQ : Addr) (v : V) : Prop := NoL H CQ v ∧ Vy H CQ 3 v
theorem Ax.keep {H H' : Hp} {CQ : Addr} {v : V} (h : Ax H CQ v) (s : Same H H') : Ax H' CQ v := ⟨h.1.keep s, h.2.keep' s⟩
theorem change_no {o : Od} (h : isChangeO o = true) : areChO o = false ∧ o.short := by
  cases o with
  | tup os => exact ⟨rfl, trivial⟩
  | lst os => exact absurd h nf
  | non => exact absurd h nf
  | bl b => exact absurd h nf
  | int b => exact absurd h nf
  | str b => exact absurd h nf
  | dct => exact absurd h nf
theorem sm_sc {H : Hp} {CQ : Addr} {n : Nat} {f : Bool} {v : V} (h : Sc H CQ f v) : Sm H CQ n f v := Sm.le (m := 0) h (Nat.zero_le _)
theorem vy_sc {H : Hp} {CQ : Addr} {v : V} (h : Sc H CQ true v) (nl : ∀ a xs, v = .ref a → H a ≠ some (.lst xs)) : Vy H CQ 3 v := .of (sm_sc h) nl
theorem vy_tup {H : Hp} {CQ a : Addr} {xs : List V} (ha : H a = some (.tup xs)) (l : xs.length ≤ 1000) (h : ∀ x ∈ xs, Sm H CQ 3 true x) : Vy H CQ 3 (.ref a) := .of (.inr (.inl ⟨a, xs, rfl, .inr ha, l, h⟩)) fun b ys e h' => by
  cases e
  rw [ha] at h'
  cases h'
section
variable {P : Program} {w : World} {K : PySem.W.Frag} {mg : Str → Option Value} {base : Heap} {f : Addr} {cdv : Value} {A : Around} {outer : List Env} {s : Shared} {Hl : Hp} {E : XK} {CQ CI CC CL : Addr}
/-- what is no list of changes at all -/
def tR3 (CQ : Addr) (u : TS) : TS := fun Z σ H => ∃ (p q W ls lg lc ln g S : Addr) (o5 o6 : Option V) (ts : List (Addr × S5)) (gs cs ns : List Str) (x : S5) (n : Int), σ = [some (.ref p), some (.ref q), some (.ref W), some (.ref g), some (.ref S), o5, o6, none, none, none, none] ∧ Rf H CQ p W ls lg lc ln q g S ts gs cs ns x n ∧
  ∀ o6 H', Same H H' → u Z [some (.ref p), some (.ref q), some (.ref W), some (.ref g), some (.ref S), o5, o6, none, none, none, none] H'
theorem rf3 (L : RfE P w K mg base CQ CI CC CL) (hr : Room 11 (A.deeper (envOfC "_law_refused_right" (defScope sRefused) s.heap.objs.size f cdv))) {rest : List Stmt} {u : TS} (hu : PSs (TRf P w K mg base f cdv A outer s Hl E) rest u) :
    PSs (TRf P w K mg base f cdv A outer s Hl E) (rfS 3 :: rest) (tR3 CQ u) := by
  have r8 : Room 8 (A.deeper (envOfC "_law_refused_right" (defScope sRefused) s.heap.objs.size f cdv)) := hr.mono (by decide)
  have TA := Fz.wk L.td told_A
  refine weak (pss_cons (ps_for PassesOwn.never rfl (pi_tup (pe_tup (pa_cons pe_non (pa_cons (pe_tup (pa_cons (pv 3) pa_nil)) (pa_cons (pv 3) (pa_cons (pe_disp (pps_cons pe_str (pv 3) pps_nil) rfl rfl (by simp) (by decide)) (pa_cons pe_str (pa_cons pe_int (pa_cons (pv 1)
      (pa_cons (pe_lst (pa_cons (pe_lst (pa_cons (pv 3) pa_nil)) pa_nil)) (pa_cons (pe_lst (pa_cons (pv 3) (pa_cons pe_non pa_nil))) (pa_cons (pe_lst (pa_cons pe_non (pa_cons (pv 3) pa_nil))) pa_nil)))))))))))) (pg_name (i := 6) scRf.nd rfl (Or.inl rfl))
    (pss_one (ps_if (pt_not (pt_val (pe_fz L.vy r8 (by rfl) (pa_cons (pe_fz TA hr (by rfl) (pa_cons pe_str (pa_cons (pv 1) (pa_cons (pv 6) pa_nil)))) (pa_cons pe_str (pa_cons (pv 6) pa_nil)))))) (pss_one (ps_ret pe_bl)) pss_nil))) hu) ?_
  rintro Z σ H ⟨p, q, W, ls, lg, lc, ln, g, S, o5, o6, ts, gs, cs, ns, y, n, rfl, hR, z⟩
  have sl := sizeLine_eq
  have one : 1 ≤ sizeLine := by omega
  have two : 2 ≤ sizeLine := by omega
  obtain ⟨og, hog, eog⟩ := hR.hg.od hR.so
  have gsm : ∀ {f}, Sm H CQ 3 f (.ref g) := fun {f} => (put_sm hR.hg f).up
  refine ⟨_, rfl, one, fun a1 n1 => ?_⟩
  have s1 := same_upd (o := .tup [V.ref g]) n1
  have A1 : Ax (upd H a1 (.tup [V.ref g])) CQ (.ref a1) := ⟨.inl ⟨.tup [og], .tup upd_same (.cons (hog.keep s1) .nil), trivial, rfl⟩, vy_tup upd_same (by show 1 ≤ 1000; omega) fun x hx => by
    rw [List.mem_singleton.mp hx]
    exact gsm.keep s1⟩
  generalize upd H a1 (.tup [V.ref g]) = H1 at s1 A1 ⊢
  refine ⟨_, rfl, fun a2 n2 => ⟨_, rfl, upd_same, [(.inr "a", .ref g)], rfl, by show 1 ≤ 15; omega, ?_⟩⟩
  have e2 : upd (upd H1 a2 (.dK [])) a2 (.dK (mergeK [] [(.inr "a", .ref g)])) = upd H1 a2 (.dK [(.inr "a", .ref g)]) := by
    funext x
    by_cases hx : x = a2
    · rw [hx, upd_same, upd_same]
      rfl
    · rw [upd_ne hx, upd_ne hx, upd_ne hx]
  rw [e2]
  have s2 := same_upd (o := .dK [(.inr "a", V.ref g)]) n2
  have A2 : Ax (upd H1 a2 (.dK [(.inr "a", V.ref g)])) CQ (.ref a2) := ⟨.inl ⟨.dct, .dct upd_same, trivial, rfl⟩, .of (.inr (.inr ⟨rfl, by show 1 ≤ 3; omega, a2, [(.inr "a", .ref g)], rfl, upd_same, by show 1 ≤ 1000; omega, fun kv hkv => by
      rw [List.mem_singleton.mp hkv]
      exact ⟨_, rfl⟩, fun kv hkv => by
      rw [List.mem_singleton.mp hkv]
      exact ⟨by simp [valV], gsm.keep (same_trans s1 s2)⟩⟩)) fun b ys e h' => by
    cases e
    rw [upd_same] at h'
    cases h'⟩
  generalize upd H1 a2 (.dK [(.inr "a", V.ref g)]) = H2 at s2 A2 ⊢
  have s02 := same_trans s1 s2
  refine ⟨_, rfl, _, rfl, one, fun a3 n3 => ?_⟩
  have s3 := same_upd (o := .lst [V.ref g]) n3
  have B3 : OdV (upd H2 a3 (.lst [V.ref g])) (.ref a3) (.lst [og]) := .lst upd_same (.cons (hog.keep (same_trans s02 s3)) .nil)
  have C3 : Sm (upd H2 a3 (.lst [V.ref g])) CQ 3 true (.ref a3) := .inr (.inl ⟨a3, _, rfl, .inl upd_same, by show 1 ≤ 1000; omega, fun x hx => by
    rw [List.mem_singleton.mp hx]
    exact (put_sm hR.hg true).keep (same_trans s02 s3)⟩)
  generalize upd H2 a3 (.lst [V.ref g]) = H3 at s3 B3 C3 ⊢
  refine ⟨one, fun a4 n4 => ?_⟩
  have s4 := same_upd (o := .lst [V.ref a3]) n4
  have A4 : Ax (upd H3 a4 (.lst [V.ref a3])) CQ (.ref a4) := ⟨.inl ⟨.lst [.lst [og]], .lst upd_same (.cons (B3.keep s4) .nil), by show 1 ≤ 1000; omega, rfl⟩, .lst n4 (by show 1 ≤ 900; omega) fun x hx => by
    rw [List.mem_singleton.mp hx]
    exact C3⟩
  generalize upd H3 a4 (.lst [V.ref a3]) = H4 at s4 A4 ⊢
  have s04 := same_trans s02 (same_trans s3 s4)
  refine ⟨_, rfl, two, fun a5 n5 => ?_⟩
  have s5 := same_upd (o := .lst [V.ref g, V.non]) n5
  have A5 : Ax (upd H4 a5 (.lst [V.ref g, V.non])) CQ (.ref a5) := ⟨.inl ⟨.lst [og, .non], .lst upd_same (.cons (hog.keep (same_trans s04 s5)) (.cons .non .nil)), by show 2 ≤ 1000; omega, by simp [areChO, isChangeO]⟩, .lst n5 (by show 2 ≤ 900; omega) fun x hx => by
    simp only [List.mem_cons, List.not_mem_nil, or_false] at hx
    rcases hx with rfl | rfl
    · exact gsm.keep s04
    · exact sm_sc (.inl rfl)⟩
  generalize upd H4 a5 (.lst [V.ref g, V.non]) = H5 at s5 A5 ⊢
  refine ⟨_, rfl, two, fun a6 n6 => ?_⟩
  have s6 := same_upd (o := .lst [V.non, V.ref g]) n6
  have s05 := same_trans s04 s5
  have A6 : Ax (upd H5 a6 (.lst [V.non, V.ref g])) CQ (.ref a6) := ⟨.inl ⟨.lst [.non, og], .lst upd_same (.cons .non (.cons (hog.keep (same_trans s05 s6)) .nil)), by show 2 ≤ 1000; omega, by simp [areChO, isChangeO]⟩, .lst n6 (by show 2 ≤ 900; omega) fun x hx => by
    simp only [List.mem_cons, List.not_mem_nil, or_false] at hx
    rcases hx with rfl | rfl
    · exact sm_sc (.inl rfl)
    · exact gsm.keep s05⟩
  generalize upd H5 a6 (.lst [V.non, V.ref g]) = H6 at s6 A6 ⊢
  have s06 := same_trans s05 s6
  refine ⟨by show 10 ≤ sizeLine; omega, fun t nt => ⟨t, rfl, ⟨_, SqT.of upd_same⟩, ?_⟩⟩
  have s7 := same_upd (o := .tup [V.non, V.ref a1, V.ref g, V.ref a2, V.str "changes", V.int 3, V.ref q, V.ref a4, V.ref a5, V.ref a6]) nt
  have ht : upd H6 t (.tup [V.non, V.ref a1, V.ref g, V.ref a2, V.str "changes", V.int 3, V.ref q, V.ref a4, V.ref a5, V.ref a6]) t = some (.tup [V.non, V.ref a1, V.ref g, V.ref a2, V.str "changes", V.int 3, V.ref q, V.ref a4, V.ref a5, V.ref a6]) := upd_same
  have s07 := same_trans s06 s7
  have hR7 := hR.keep s07
  have gno := change_no eog
  have gtup : ∀ {H' : Hp}, Same H H' → ∀ a xs, V.ref g = .ref a → H' a ≠ some (.lst xs) := fun {H'} e a xs h h' => by
    cases h
    obtain ⟨t, h1, _⟩ := hR.gt
    rw [e _ _ h1] at h'
    cases h'
  have all : ∀ x ∈ [V.non, V.ref a1, V.ref g, V.ref a2, V.str "changes", V.int 3, V.ref q, V.ref a4, V.ref a5, V.ref a6], Ax (upd H6 t (.tup [V.non, V.ref a1, V.ref g, V.ref a2, V.str "changes", V.int 3, V.ref q, V.ref a4, V.ref a5, V.ref a6])) CQ x := by
    intro x hx
    simp only [List.mem_cons, List.not_mem_nil, or_false] at hx
    rcases hx with rfl | rfl | rfl | rfl | rfl | rfl | rfl | rfl | rfl | rfl
    · exact ⟨.inl ⟨.non, .non, trivial, rfl⟩, vy_sc (.inl rfl) fun a xs e => by cases e⟩
    · exact A1.keep (same_trans s2 (same_trans s3 (same_trans s4 (same_trans s5 (same_trans s6 s7)))))
    · exact ⟨.inl ⟨og, hog.keep s07, gno.2, gno.1⟩, .of ((gsm.keep s07).up) (gtup s07)⟩
    · exact A2.keep (same_trans s3 (same_trans s4 (same_trans s5 (same_trans s6 s7))))
    · exact ⟨.inl ⟨.str "changes", .str _ (by decide +kernel), trivial, rfl⟩, vy_sc (.inr (.inr (.inr (.inl ⟨_, rfl⟩)))) fun a xs e => by cases e⟩
    · exact ⟨.inl ⟨.int 3, .int _, trivial, rfl⟩, vy_sc (.inr (.inr (.inl ⟨_, rfl⟩))) fun a xs e => by cases e⟩
    · obtain ⟨dx, fs, at_⟩ := hR7.q.there
      exact ⟨.inr ⟨q, dx, fs, rfl, at_⟩, vy_sc (.inr (.inr (.inr (.inr ⟨rfl, q, _, _, rfl, hR7.q⟩)))) fun a xs e h' => by
        cases e
        rw [at_] at h'
        cases h'⟩
    · exact A4.keep (same_trans s5 (same_trans s6 s7))
    · exact A5.keep (same_trans s6 s7)
    · exact A6.keep s7
  generalize upd H6 t (.tup [V.non, V.ref a1, V.ref g, V.ref a2, V.str "changes", V.int 3, V.ref q, V.ref a4, V.ref a5, V.ref a6]) = H7 at ht s07 hR7 all ⊢
  generalize [V.non, V.ref a1, V.ref g, V.ref a2, V.str "changes", V.int 3, V.ref q, V.ref a4, V.ref a5, V.ref a6] = xs at ht all ⊢
  refine for_it (walk_tup (xs := xs)) (fun j σ H' => Same H7 H' ∧ ∃ o6, σ = [some (.ref p), some (.ref q), some (.ref W), some (.ref g), some (.ref S), o5, o6, none, none, none, none]) ⟨.refl _, _, rfl⟩ (fun j σ H' _ h => SqT.of (h.1 _ _ ht)) ?_ ?_
  · rintro j x σ H8 H9 hj ⟨s8, o6, rfl⟩ ⟨rfl, hx⟩
    obtain ⟨nol, vy⟩ := (all x (List.mem_of_getElem? hx)).keep s8
    refine ⟨_, rfl, _, rfl, q, snds ts, gs, x, rfl, hR7.q.keep s8, nol, fun t3 H13 s13 nt13 rp13 => ⟨_, rfl, t3, "changes", x, rfl, rp13, vy.keep' s13, fun H14 s14 => ⟨_, rfl, ifF (by decide) ?_⟩⟩⟩
    exact ⟨same_trans s8 (same_trans s13 s14), _, rfl⟩
  · rintro σ H8 ⟨s8, o6, rfl⟩
    exact z _ H8 (same_trans s07 s8)
/-- what is no quarter -/
def tR4 (CQ : Addr) (u : TS) : TS := fun Z σ H => ∃ (p q W ls lg lc ln g S : Addr) (o5 o6 : Option V) (ts : List (Addr × S5)) (gs cs ns : List Str) (x : S5) (n : Int), σ = [some (.ref p), some (.ref q), some (.ref W), some (.ref g), some (.ref S), o5, o6, none, none, none, none] ∧ Rf H CQ p W ls lg lc ln q g S ts gs cs ns x n ∧
  ∀ o5 o7 o8 H', Same H H' → u Z [some (.ref p), some (.ref q), some (.ref W), some (.ref g), some (.ref S), o5, o6, o7, o8, none, none] H'
theorem rf4 (L : RfE P w K mg base CQ CI CC CL) (hr : Room 11 (A.deeper (envOfC "_law_refused_right" (defScope sRefused) s.heap.objs.size f cdv))) {rest : List Stmt} {u : TS} (hu : PSs (TRf P w K mg base f cdv A outer s Hl E) rest u) :
    PSs (TRf P w K mg base f cdv A outer s Hl E) (rfS 4 :: rest) (tR4 CQ u) := by
  have r8 : Room 8 (A.deeper (envOfC "_law_refused_right" (defScope sRefused) s.heap.objs.size f cdv)) := hr.mono (by decide)
  have TQ := Fz.wk L.td told_Q
  refine weak (pss_cons (ps_for PassesOwn.never rfl (pi_tup (pe_tup (pa_cons pe_non (pa_cons (pe_ix ix_list (pv 2) pe_int (fun _ _ => rfl)) (pa_cons (pe_tup (pa_cons (pe_ix ix_list (pv 2) pe_int (fun _ _ => rfl)) (pa_cons (pe_ix ix_list (pv 2) pe_int (fun _ _ => rfl)) pa_nil))) (pa_cons (pe_lst (pa_cons (pv 1) pa_nil)) (pa_cons pe_int (pa_cons pe_bl pa_nil)))))))) (pg_name (i := 5) scRf.nd rfl (Or.inl rfl))
    (pss_one (ps_for PassesOwn.never rfl (pi_tup (pe_tup (pa_cons (pe_tup (pa_cons pe_str (pa_cons pe_non pa_nil))) (pa_cons (pe_tup (pa_cons pe_str (pa_cons pe_non pa_nil))) (pa_cons (pe_tup (pa_cons pe_str (pa_cons (pv 3) pa_nil))) (pa_cons (pe_tup (pa_cons pe_str (pa_cons (pe_lst (pa_cons (pv 3) pa_nil)) pa_nil))) (pa_cons (pe_tup (pa_cons pe_str (pa_cons (pe_lst pa_nil) pa_nil))) pa_nil)))))))
      (pg_tup rfl (pgs_cons (pg_name (i := 7) scRf.nd rfl (Or.inl rfl)) (pgs_cons (pg_name (i := 8) scRf.nd rfl (Or.inl rfl)) pgs_nil)))
      (pss_one (ps_if (pt_not (pt_val (pe_fz L.vy r8 (by rfl) (pa_cons (pe_fz TQ hr (by rfl) (pa_cons (pv 7) (pa_cons (pv 5) (pa_cons (pv 8) pa_nil)))) (pa_cons pe_str (pa_cons (pv 5) pa_nil)))))) (pss_one (ps_ret pe_bl)) pss_nil))))) hu) ?_
  rintro Z σ H ⟨p, q, W, ls, lg, lc, ln, g, S, o5, o6, ts, gs, cs, ns, y, n, rfl, hR, z⟩
  have sl := sizeLine_eq
  have one : 1 ≤ sizeLine := by omega
  have two : 2 ≤ sizeLine := by omega
  have hW := hR.wo.at_
  have hls := hR.wo.wo.s
  have hlg := hR.wo.wo.g
  refine ⟨_, rfl, W, _, ((0 : Nat) : Int), _, rfl, rfl, SqL.of hW, atI_nat rfl, _, rfl, W, _, ((0 : Nat) : Int), _, rfl, rfl, SqL.of hW, atI_nat rfl, _, rfl, W, _, ((1 : Nat) : Int), _, rfl, rfl, SqL.of hW, atI_nat rfl, two, fun a1 n1 => ?_⟩
  have s1 := same_upd (o := .tup [V.ref ls, V.ref lg]) n1
  have h1 : upd H a1 (.tup [V.ref ls, V.ref lg]) a1 = some (.tup [V.ref ls, V.ref lg]) := upd_same
  generalize upd H a1 (.tup [V.ref ls, V.ref lg]) = H1 at s1 h1 ⊢
  refine ⟨_, rfl, one, fun a2 n2 => ?_⟩
  have s2 := same_upd (o := .lst [V.ref q]) n2
  have h2 : upd H1 a2 (.lst [V.ref q]) a2 = some (.lst [V.ref q]) := upd_same
  have v2 : Vy (upd H1 a2 (.lst [V.ref q])) CQ 3 (.ref a2) := .lst n2 (by show 1 ≤ 900; omega) fun x hx => by
    rw [List.mem_singleton.mp hx]
    exact sm_sc (.inr (.inr (.inr (.inr ⟨rfl, q, _, _, rfl, hR.q.keep s1⟩))))
  generalize upd H1 a2 (.lst [V.ref q]) = H2 at s2 h2 v2 ⊢
  have s02 := same_trans s1 s2
  refine ⟨by show 6 ≤ sizeLine; omega, fun t nt => ⟨t, rfl, ⟨_, SqT.of upd_same⟩, ?_⟩⟩
  have s3 := same_upd (o := .tup [V.non, V.ref ls, V.ref a1, V.ref a2, V.int 5, V.bl true]) nt
  have s03 := same_trans s02 s3
  have ht : upd H2 t (.tup [V.non, V.ref ls, V.ref a1, V.ref a2, V.int 5, V.bl true]) t = some (.tup [V.non, V.ref ls, V.ref a1, V.ref a2, V.int 5, V.bl true]) := upd_same
  have all : ∀ x ∈ [V.non, V.ref ls, V.ref a1, V.ref a2, V.int 5, V.bl true], (∃ T, KindV (upd H2 t (.tup [V.non, V.ref ls, V.ref a1, V.ref a2, V.int 5, V.bl true])) x (.type T)) ∧ Vy (upd H2 t (.tup [V.non, V.ref ls, V.ref a1, V.ref a2, V.int 5, V.bl true])) CQ 3 x := by
    have l14 : ts.length ≤ 60 := by
      have := hR.wo.wo.l2
      have := hR.wo.wo.l3
      omega
    have g5 := hR.wo.wo.gok.l
    have tsm : ∀ {H' : Hp} {n : Nat} {f : Bool}, (∀ t ∈ ts, H' t.1 = some (.tup t.2.vals)) → ∀ x ∈ ts.map (fun t => V.ref t.1), Sm H' CQ (n + 1) f x := by
      intro H' n f h x hx
      obtain ⟨t, ht, rfl⟩ := List.mem_map.mp hx
      refine .inr (.inl ⟨t.1, _, rfl, .inr (h t ht), by show 5 ≤ 1000; omega, fun x hx => ?_⟩)
      simp only [S5.vals, List.mem_cons, List.not_mem_nil, or_false] at hx
      rcases hx with rfl | rfl | rfl | rfl | rfl
      · exact sm_sc (.inr (.inr (.inr (.inl ⟨_, rfl⟩))))
      · exact sm_sc (.inr (.inr (.inr (.inl ⟨_, rfl⟩))))
      · exact sm_sc (.inr (.inr (.inr (.inl ⟨_, rfl⟩))))
      · exact sm_sc (.inr (.inr (.inl ⟨_, rfl⟩)))
      · exact sm_sc (.inr (.inr (.inl ⟨_, rfl⟩)))
    intro x hx
    simp only [List.mem_cons, List.not_mem_nil, or_false] at hx
    have hls3 := hls.keep s03
    have hlg3 : Ws (upd H2 t (.tup [V.non, V.ref ls, V.ref a1, V.ref a2, V.int 5, V.bl true])) lg gs := s03 _ _ hlg
    rcases hx with rfl | rfl | rfl | rfl | rfl | rfl
    · exact ⟨⟨_, .non⟩, vy_sc (.inl rfl) fun a xs e => by cases e⟩
    · refine ⟨⟨_, .lst hls3.1⟩, .inr (.inl ⟨ls, _, rfl, .inl hls3.1, by rw [List.length_map]; omega, tsm hls3.2⟩), fun a xs e h' => ?_⟩
      cases e
      rw [hls3.1] at h'
      cases h'
      refine ⟨by rw [List.length_map]; omega, tsm fun t' ht' => ?_⟩
      have nl : t'.1 ≠ ls := fun e => by
        have := hls3.2 t' ht'
        rw [e, hls3.1] at this
        cases this
      simp only [del, nl, if_false]
      exact hls3.2 t' ht'
    · refine ⟨⟨_, .tup (s3 _ _ (s2 _ _ h1))⟩, vy_tup (s3 _ _ (s2 _ _ h1)) (by show 2 ≤ 1000; omega) fun x hx => ?_⟩
      simp only [List.mem_cons, List.not_mem_nil, or_false] at hx
      rcases hx with rfl | rfl
      · exact .inr (.inl ⟨ls, _, rfl, .inl hls3.1, by rw [List.length_map]; omega, tsm hls3.2⟩)
      · refine .inr (.inl ⟨lg, _, rfl, .inl hlg3, by rw [List.length_map]; omega, fun x hx => ?_⟩)
        obtain ⟨z, _, rfl⟩ := List.mem_map.mp hx
        exact sm_sc (.inr (.inr (.inr (.inl ⟨_, rfl⟩))))
    · exact ⟨⟨_, .lst (s3 _ _ h2)⟩, v2.keep' s3⟩
    · exact ⟨⟨_, .int _⟩, vy_sc (.inr (.inr (.inl ⟨_, rfl⟩))) fun a xs e => by cases e⟩
    · exact ⟨⟨_, .bl _⟩, vy_sc (.inr (.inl ⟨_, rfl⟩)) fun a xs e => by cases e⟩
  generalize upd H2 t (.tup [V.non, V.ref ls, V.ref a1, V.ref a2, V.int 5, V.bl true]) = H3 at ht s03 all ⊢
  generalize [V.non, V.ref ls, V.ref a1, V.ref a2, V.int 5, V.bl true] = xs at ht all ⊢
  refine for_it (walk_tup (xs := xs)) (fun j σ H' => Same H3 H' ∧ ∃ o5 o7 o8, σ = [some (.ref p), some (.ref q), some (.ref W), some (.ref g), some (.ref S), o5, o6, o7, o8, none, none]) ⟨.refl _, _, _, _, rfl⟩ (fun j σ H' _ h => SqT.of (h.1 _ _ ht)) ?_ ?_
  · rintro j x σ H8 H4 hj ⟨s4, o5, o7, o8, rfl⟩ ⟨rfl, hx⟩
    obtain ⟨⟨T', kd⟩, vy⟩ := all x (List.mem_of_getElem? hx)
    have kd4 : ∀ {H' : Hp}, Same H3 H' → KindV H' x (.type T') := fun s => by
      cases kd with
      | non => exact .non
      | bl b => exact .bl b
      | int i => exact .int i
      | str z => exact .str z
      | lst h => exact .lst (s _ _ h)
      | tup h => exact .tup (s _ _ h)
      | dct h => exact .dct (s _ _ h)
    refine ⟨two, fun b1 m1 => ?_⟩
    have k1 := same_upd (o := .tup [V.str "one", V.non]) m1
    have g1 : upd H4 b1 (.tup [V.str "one", V.non]) b1 = some (.tup [V.str "one", V.non]) := upd_same
    generalize upd H4 b1 (.tup [V.str "one", V.non]) = H5 at k1 g1 ⊢
    refine ⟨two, fun b2 m2 => ?_⟩
    have k2 := same_upd (o := .tup [V.str "all", V.non]) m2
    have g2 : upd H5 b2 (.tup [V.str "all", V.non]) b2 = some (.tup [V.str "all", V.non]) := upd_same
    generalize upd H5 b2 (.tup [V.str "all", V.non]) = H6 at k2 g2 ⊢
    refine ⟨_, rfl, two, fun b3 m3 => ?_⟩
    have k3 := same_upd (o := .tup [V.str "one", V.ref g]) m3
    have g3 : upd H6 b3 (.tup [V.str "one", V.ref g]) b3 = some (.tup [V.str "one", V.ref g]) := upd_same
    generalize upd H6 b3 (.tup [V.str "one", V.ref g]) = H7 at k3 g3 ⊢
    refine ⟨_, rfl, one, fun b4 m4 => ?_⟩
    have k4 := same_upd (o := .lst [V.ref g]) m4
    generalize upd H7 b4 (.lst [V.ref g]) = H8 at k4 ⊢
    refine ⟨two, fun b5 m5 => ?_⟩
    have k5 := same_upd (o := .tup [V.str "all", V.ref b4]) m5
    have g5 : upd H8 b5 (.tup [V.str "all", V.ref b4]) b5 = some (.tup [V.str "all", V.ref b4]) := upd_same
    generalize upd H8 b5 (.tup [V.str "all", V.ref b4]) = H9 at k5 g5 ⊢
    refine ⟨by show 0 ≤ sizeLine; omega, fun b6 m6 => ?_⟩
    have k6 := same_upd (o := .lst []) m6
    generalize upd H9 b6 (.lst []) = H10 at k6 ⊢
    refine ⟨two, fun b7 m7 => ?_⟩
    have k7 := same_upd (o := .tup [V.str "all", V.ref b6]) m7
    have g7 : upd H10 b7 (.tup [V.str "all", V.ref b6]) b7 = some (.tup [V.str "all", V.ref b6]) := upd_same
    generalize upd H10 b7 (.tup [V.str "all", V.ref b6]) = H11 at k7 g7 ⊢
    refine ⟨by show 5 ≤ sizeLine; omega, fun t2 nt2 => ⟨t2, rfl, ⟨_, SqT.of upd_same⟩, ?_⟩⟩
    have k8 := same_upd (o := .tup [V.ref b1, V.ref b2, V.ref b3, V.ref b5, V.ref b7]) nt2
    have ht2 : upd H11 t2 (.tup [V.ref b1, V.ref b2, V.ref b3, V.ref b5, V.ref b7]) t2 = some (.tup [V.ref b1, V.ref b2, V.ref b3, V.ref b5, V.ref b7]) := upd_same
    have k38 := same_trans k4 (same_trans k5 (same_trans k6 (same_trans k7 k8)))
    have s12 := same_trans s4 (same_trans k1 (same_trans k2 (same_trans k3 k38)))
    have all2 : ∀ x ∈ [V.ref b1, V.ref b2, V.ref b3, V.ref b5, V.ref b7], ∃ a z v, x = .ref a ∧ upd H11 t2 (.tup [V.ref b1, V.ref b2, V.ref b3, V.ref b5, V.ref b7]) a = some (.tup [.str z, v]) ∧ (z = "one" ∨ z = "all") := by
      intro x hx
      simp only [List.mem_cons, List.not_mem_nil, or_false] at hx
      rcases hx with rfl | rfl | rfl | rfl | rfl
      · exact ⟨_, _, _, rfl, k38 _ _ (k3 _ _ (k2 _ _ g1)), .inl rfl⟩
      · exact ⟨_, _, _, rfl, k38 _ _ (k3 _ _ g2), .inr rfl⟩
      · exact ⟨_, _, _, rfl, k38 _ _ g3, .inl rfl⟩
      · exact ⟨_, _, _, rfl, k8 _ _ (k7 _ _ (k6 _ _ g5)), .inr rfl⟩
      · exact ⟨_, _, _, rfl, k8 _ _ g7, .inr rfl⟩
    generalize upd H11 t2 (.tup [V.ref b1, V.ref b2, V.ref b3, V.ref b5, V.ref b7]) = H12 at ht2 s12 all2 ⊢
    generalize [V.ref b1, V.ref b2, V.ref b3, V.ref b5, V.ref b7] = xs2 at ht2 all2 ⊢
    refine for_it (walk_tup (xs := xs2)) (fun j σ H' => Same H12 H' ∧ ∃ o7 o8, σ = [some (.ref p), some (.ref q), some (.ref W), some (.ref g), some (.ref S), some x, o6, o7, o8, none, none]) ⟨.refl _, _, _, rfl⟩ (fun j σ H' _ h => SqT.of (h.1 _ _ ht2)) ?_ ?_
    · rintro j2 x2 σ H14 H13 hj2 ⟨s13, o7, o8, rfl⟩ ⟨rfl, hx2⟩
      obtain ⟨a, z1, v, rfl, ha, e⟩ := all2 x2 (List.mem_of_getElem? hx2)
      have s3' := same_trans s12 s13
      refine ⟨a, _, rfl, SqT.of (s13 _ _ ha), rfl, _, _, rfl, _, _, rfl, rfl, ?_⟩
      refine ⟨_, rfl, _, rfl, _, rfl, z1, x, v, T', rfl, e, kd4 s3', fun t3 H15 s15 nt15 rp15 => ⟨_, rfl, t3, "quarter", x, rfl, rp15, (vy.keep' s3').keep' s15, fun H16 s16 => ⟨_, rfl, ifF (by decide) ?_⟩⟩⟩
      exact ⟨same_trans s13 (same_trans s15 s16), _, _, rfl⟩
    · rintro σ H13 ⟨s13, o7, o8, rfl⟩
      exact ⟨same_trans s12 s13, _, _, _, rfl⟩
  · rintro σ H4 ⟨s4, o5, o7, o8, rfl⟩
    exact z _ _ _ H4 (same_trans s03 s4)
end
end K4
end
section
set_option Elab.async false
set_option linter.all false
set_option maxRecDepth 100000
set_option maxHeartbeats 4000000
namespace K4
open PySem PySem.Spec PyProof.Rows L2 H3 H4
/-- a def that may raise, called by names alone; rv: the names in the parameters' order turned about -/
def rvs (rv : Bool) {α : Type} (l : List α) : List α := if rv then l.reverse else l
def FzXK (P : Program) (w : World) (K : PySem.W.Frag) (mg : Str → Option Value) (base : Heap) (x : Str) (k : Nat) (ps ks : List Str) (rv : Bool) (sp : Sp) : Prop :=
  ∃ (g : Addr) (fd : FuncData), FnOk P w K mg base (L2.CX P w) k g fd ps sp ∧ mg x = some (.ref g) ∧ PySem.W.keepIn K (.ref g) = true ∧ KBn K fd ps 0 ks (fun us ws => us ++ rvs rv ws) (fun vs zs => vs ++ rvs rv zs)
def tFzXK (rv : Bool) (n : Nat) (sp : Sp) (tk : TA) : TE := fun σ H Q => tk σ H fun zs H2 => zs.length = n ∧ sp (rvs rv zs) H2 Q (fun _ _ _ => False)
theorem pe_fzXK {X : Cx} {k : Nat} {x : Str} {ps ks : List Str} {rv : Bool} {sp : Sp} {p pos : Pos} {kws : List Keyword} {tk : TA} (Z : FzXK X.prog X.w X.K X.mg X.base x k ps ks rv sp) (hr : Room k X.A) (hg : Gl X x) (hkw : PK X kws tk)
    (hall : (backToKw pos (keywordEach kws X.env)).all (·.1.isSome) = true := by rfl) (hks : (backToKw pos (keywordEach kws X.env)).filterMap (·.1) = ks := by rfl) (hdb : (x == ("__debug__" : Str)) = false := by decide)
    (hpl : ((backTo pos (starEach [] X.env)).any (·.1) || (backToKw pos (keywordEach kws X.env)).any (·.1.isNone)) = false := by rfl) : PE X (.Call (.Name x p) [] kws pos) (tFzXK rv ks.length sp tk) := by
  obtain ⟨g, fd, F, hm, hk, hb⟩ := Z
  refine ⟨fun pins s σ H Q I h => ?_⟩
  refine wpAny_Call_Name_kw (ld_glob I hg hm ?_ hdb)
  refine PySem.W.callWith_KW0 (h₀ := X.base) I.ok.mod.kin hk hall ?_ hpl
  refine thn (hkw.run pos pins s σ H _ I h) fun ws s2 ⟨zs, H2, I2, rz, l2, q2⟩ => ⟨I2.kIn, ?_⟩
  rw [hks]
  exact run_fnN (n := 0) (us := []) (vs := []) (E := fun _ _ _ => False) F hr hb (fun pins σ H s e s' I c => passAt takes0 σ pins H s e s' I c) I2 .nil rz rfl l2 q2
theorem s5_dp {K : PySem.W.Frag} {H : Hp} {a : Addr} {s : S5} (h : H a = some (.tup s.vals)) : Dp K H (.ref a) s.data := .tup (SqT.of h) (.cons (.str _) (.cons (.str _) (.cons (.str _) (.cons (.int _) (.cons (.int _) .nil)))))
section
variable {P : Program} {w : World} {K : PySem.W.Frag} {mg : Str → Option Value} {base : Heap} {f : Addr} {cdv : Value} {A : Around} {outer : List Env} {s : Shared} {Hl : Hp} {E : XK} {CQ CI CC CL : Addr}
structure RfM (P : Program) (w : World) (K : PySem.W.Frag) (mg : Str → Option Value) (base : Heap) (CQ CI CC CL : Addr) : Prop where
  ck : FzXK P w K mg base "changed" 9 ["quarter", "change"] ["quarter", "change"] false (spChanged CQ CI CC)
  bk : FzXK P w K mg base "changed_by" 10 ["quarter", "changes"] ["changes", "quarter"] true (spChangedBy CQ CI CC CL)
  b : FzX P w K mg base "changed_by" 10 ["quarter", "changes"] (spChangedBy CQ CI CC CL)
  so : Fz P w K mg base "street_of" 2 ["quarter", "name"] (spStreetOf CQ)
  eq : EqZ P w K mg base CQ
/-- one that is good is made, by name, too -/
def tR5 (CQ : Addr) : TS := fun Z σ H => ∃ (p q W ls lg lc ln g S : Addr) (o5 o6 o7 o8 : Option V) (ts : List (Addr × S5)) (gs cs ns : List Str) (x : S5) (n : Int), σ = [some (.ref p), some (.ref q), some (.ref W), some (.ref g), some (.ref S), o5, o6, o7, o8, none, none] ∧ Rf H CQ p W ls lg lc ln q g S ts gs cs ns x n ∧
  ∀ H', Same H H' → Z.rt (.bl true) H'
theorem rf5 (M : RfM P w K mg base CQ CI CC CL) (hr : Room 11 (A.deeper (envOfC "_law_refused_right" (defScope sRefused) s.heap.objs.size f cdv))) :
    PSs (TRf P w K mg base f cdv A outer s Hl E) [rfS 5, rfS 6, rfS 7] (tR5 CQ) := by
  have r1 : Room 1 (A.deeper (envOfC "_law_refused_right" (defScope sRefused) s.heap.objs.size f cdv)) := hr.mono (by decide)
  have r2 : Room 2 (A.deeper (envOfC "_law_refused_right" (defScope sRefused) s.heap.objs.size f cdv)) := hr.mono (by decide)
  have r9 : Room 9 (A.deeper (envOfC "_law_refused_right" (defScope sRefused) s.heap.objs.size f cdv)) := hr.mono (by decide)
  have r10 : Room 10 (A.deeper (envOfC "_law_refused_right" (defScope sRefused) s.heap.objs.size f cdv)) := hr.mono (by decide)
  have hu : (A.deeper (envOfC "_law_refused_right" (defScope sRefused) s.heap.objs.size f cdv)).units + 64 < cLine := by
    have := hr.un
    omega
  refine weak (pss_cons (ps_if (pt_cmpR (op_eqD hu) (pv 4) (pe_lst pa_nil) (nomark _)) (pss_one (ps_ret pe_bl)) pss_nil)
    (pss_cons (ps_set (i := 9) scRf.nd rfl (Or.inl rfl) (pe_lst (pa_cons (pe_fzXK M.ck r9 (by rfl) (pk_cons (pv 1) (pk_cons (pv 3) pk_nil))) (pa_cons (pe_fzXK M.bk r10 (by rfl) (pk_cons (pe_lst (pa_cons (pv 3) pa_nil)) (pk_cons (pv 1) pk_nil))) (pa_cons (pe_fzX M.b r10 (by rfl) takes0 (pa_cons (pv 1) (pa_cons (pe_lst pa_nil) pa_nil))) pa_nil)))))
    (pss_one (ps_ret (pe_and (pe_cmpR (op_qEq M.eq r1) (pe_ix ix_list (pv 9) pe_int (fun _ _ => rfl)) (pe_ix ix_list (pv 9) pe_int (fun _ _ => rfl)) (nomark _)) (pe_and (pe_cmpR (op_qEq M.eq r1) (pe_ix ix_list (pv 9) pe_int (fun _ _ => rfl)) (pv 1) (nomark _)) (pe_and (pe_cmpR (op_qNe M.eq r2) (pe_ix ix_list (pv 9) pe_int (fun _ _ => rfl)) (pv 1) (nomark _))
      (pe_one (pe_cmpR (op_eqD hu) (pe_fz M.so r2 (by rfl) (pa_cons (pe_ix ix_list (pv 9) pe_int (fun _ _ => rfl)) (pa_cons pe_str pa_nil))) (pe_ix ix_tup (pv 3) pe_int (fun _ _ => rfl)) (nomark _)))))))))) ?_
  rintro Z σ H ⟨p, q, W, ls, lg, lc, ln, g, S, o5, o6, o7, o8, ts, gs, cs, ns, y, n, rfl, hR, z⟩
  have sl := sizeLine_eq
  refine ⟨_, rfl, (by show 0 ≤ sizeLine; omega), fun N nN => ?_⟩
  have s1 := same_upd (o := .lst []) nN
  have hN : upd H N (.lst []) N = some (.lst []) := upd_same
  generalize upd H N (.lst []) = H1 at s1 hN ⊢
  have hR1 := hR.keep s1
  by_cases hz : zz8 ∈ nms (snds ts)
  · have hS := hR1.S
    rw [if_pos hz] at hS
    refine ⟨.list [], .list [], .lst (SqL.of hS) .nil, .lst (SqL.of hN) .nil, nil_shaped, nil_shaped, _, rfl, ifT (by decide +kernel) (z _ s1)⟩
  have hS := hR1.S
  rw [if_neg hz] at hS
  have cS : ChL H1 S [(g, .put y)] := ⟨hS, fun t ht => by
    rw [List.mem_singleton.mp ht]
    exact hR1.hg⟩
  have okS : ∀ t ∈ [(g, Ch.put y)], t.2.Ok := fun t ht => by
    rw [List.mem_singleton.mp ht]
    exact hR1.so
  refine ⟨_, .list [], cS.dp, .lst (SqL.of hN) .nil, chs_shaped okS, nil_shaped, _, rfl, ?_⟩
  rw [eqv_nil]
  refine ifF (by simp) ?_
  have hy : y.nm ∉ nms (snds ts) := by rw [hR.sn]; exact hz
  have est : stepS (snds ts) (.put y) = some (snds ts ++ [y]) := by simp only [stepS, hy, if_false]
  have l59 := hR.len
  -- three of them
  refine ⟨_, rfl, _, rfl, rfl, .ref q, .ref g, rfl, .inr ⟨q, snds ts, gs, rfl, hR1.q, l59, .inr ⟨g, .put y, rfl, hR1.hg, hR1.so, (fun e => by rw [est] at e; cases e), fun ss' m1 H2 e s2 nm1 hq1 => ?_⟩⟩⟩
  rw [est] at e
  cases e
  have hR2 := hR1.keep s2
  refine ⟨_, rfl, (by show 1 ≤ sizeLine; omega), fun l nl => ?_⟩
  have s3 := same_upd (o := .lst [V.ref g]) nl
  have hl : upd H2 l (.lst [V.ref g]) l = some (.lst [V.ref g]) := upd_same
  generalize upd H2 l (.lst [V.ref g]) = H3 at s3 hl ⊢
  have hR3 := hR2.keep s3
  have cl : ChL H3 l [(g, .put y)] := ⟨hl, fun t ht => by
    rw [List.mem_singleton.mp ht]
    exact hR3.hg⟩
  have er : runS (snds ts) [(g, .put y)] = .inr (snds ts ++ [y]) := by simp only [runS, est]
  refine ⟨_, rfl, rfl, .ref q, .ref l, rfl, .inr ⟨q, snds ts, gs, rfl, hR3.q, .inr ⟨l, [(g, .put y)], rfl, cl, okS, (by show _ + 1 ≤ 60; omega), (fun a e => by rw [er] at e; cases e), fun ss' m2 H4 e s4 hq2 => ?_⟩⟩⟩
  rw [er] at e
  cases e
  refine ⟨_, rfl, (by show 0 ≤ sizeLine; omega), fun l2 nl2 => ?_⟩
  have s5 := same_upd (o := .lst []) nl2
  have hl2 : upd H4 l2 (.lst []) l2 = some (.lst []) := upd_same
  generalize upd H4 l2 (.lst []) = H5 at s5 hl2 ⊢
  have hR5 := (hR3.keep s4).keep s5
  have cl2 : ChL H5 l2 [] := ⟨hl2, fun t ht => by simp at ht⟩
  refine ⟨.ref q, .ref l2, rfl, .inr ⟨q, snds ts, gs, rfl, hR5.q, .inr ⟨l2, [], rfl, cl2, (fun t ht => by simp at ht), (by show _ + 0 ≤ 60; omega), (fun a e => by cases e), fun ss' m3 H6 e s6 hq3 => ?_⟩⟩⟩
  cases e
  refine ⟨(by show 3 ≤ sizeLine; omega), fun M0 nM => ?_⟩
  have s7 := same_upd (o := .lst [V.ref m1, V.ref m2, V.ref m3]) nM
  have hM : upd H6 M0 (.lst [V.ref m1, V.ref m2, V.ref m3]) M0 = some (.lst [V.ref m1, V.ref m2, V.ref m3]) := upd_same
  generalize upd H6 M0 (.lst [V.ref m1, V.ref m2, V.ref m3]) = H7 at s7 hM ⊢
  have q3 := hq3.keep s7
  have q2 := (hq2.keep (same_trans s5 s6)).keep s7
  have q1 := (hq1.keep (same_trans s3 (same_trans s4 (same_trans s5 s6)))).keep s7
  have hR7 := (hR5.keep s6).keep s7
  have eb : ∀ k : Bool, (k = true ↔ (snds ts ++ [y]).Perm (snds ts ++ [y]) ∧ gs.Perm gs) → k = true := fun k hk => hk.mpr ⟨.refl _, .refl _⟩
  refine ⟨_, rfl, M0, _, ((0 : Nat) : Int), _, rfl, rfl, SqL.of hM, atI_nat rfl, _, rfl, M0, _, ((1 : Nat) : Int), _, rfl, rfl, SqL.of hM, atI_nat rfl, m1, m2, _, _, gs, gs, rfl, rfl, q1, q2, fun k hk => ?_⟩
  rw [hk.mpr ⟨.refl _, .refl _⟩]
  refine ⟨_, rfl, ifT rfl ?_⟩
  refine ⟨_, rfl, M0, _, ((2 : Nat) : Int), _, rfl, rfl, SqL.of hM, atI_nat rfl, _, rfl, m3, q, _, _, gs, gs, rfl, rfl, q3, hR7.q, fun k hk => ?_⟩
  rw [hk.mpr ⟨.refl _, .refl _⟩]
  refine ⟨_, rfl, ifT rfl ?_⟩
  refine ⟨_, rfl, M0, _, ((0 : Nat) : Int), _, rfl, rfl, SqL.of hM, atI_nat rfl, _, rfl, m1, q, _, _, gs, gs, rfl, rfl, q1, hR7.q, fun k hk => ?_⟩
  have ek : k = false := by
    cases k with
    | false => rfl
    | true =>
      have := (hk.mp rfl).1.length_eq
      simp at this
  rw [ek]
  refine ⟨_, rfl, ifT rfl ?_⟩
  obtain ⟨⟨dx, ml, mg', mts, mgs, hqp, pt, as, pg, ag⟩, so1, go1⟩ := q1
  obtain ⟨t, ht, et⟩ : ∃ t ∈ mts, t.2 = y := by
    have : y ∈ snds mts := pt.mem_iff.mpr (by simp)
    obtain ⟨t, ht, e⟩ := List.mem_map.mp this
    exact ⟨t, ht, e⟩
  have nd : (mts.map fun t => t.2.nm).Nodup := by
    have := (pt.map S5.nm).nodup_iff.mpr so1.nd
    have e : (snds mts).map S5.nm = mts.map fun t => t.2.nm := by
      simp only [snds, List.map_map]
      rfl
    rwa [e] at this
  have etn : (V.str zz8) = .str t.2.nm := by rw [et, hR.sn]
  refine ⟨_, rfl, M0, _, ((0 : Nat) : Int), _, rfl, rfl, SqL.of hM, atI_nat rfl, m1, dx, ml, mg', mts, mgs, t, by rw [← etn]; rfl, hqp, ht, nd, fun H8 s8 => ?_⟩
  obtain ⟨tg, hg1, hg2⟩ := (hR7.keep s8).gt
  refine ⟨_, rfl, g, _, ((1 : Nat) : Int), _, rfl, rfl, SqT.of hg1, atI_nat rfl, t.2.data, y.data, s5_dp (s8 _ _ (hqp.s.2 t ht)), s5_dp hg2, by rw [et]; exact s5_shaped hR.so, s5_shaped hR.so, ?_⟩
  rw [et, eqv_s5, decide_eq_true rfl]
  exact z _ (same_trans s1 (same_trans s2 (same_trans s3 (same_trans s4 (same_trans s5 (same_trans s6 (same_trans s7 s8)))))))
end
section
variable {P : Program} {w : World} {K : PySem.W.Frag} {mg : Str → Option Value} {base : Heap} {CQ CI CC CL : Addr}
def spRef (CQ : Addr) : Sp := fun vs H Q _ => ∃ (p q W ls lg lc ln : Addr) (ts : List (Addr × S5)) (gs cs ns : List Str) (n : Int), vs = [.ref p, .ref q, .ref W] ∧ WoP H p W ls lg lc ln ts gs cs ns ∧ IsQ H CQ q (snds ts) gs ∧ Pu H p n ∧ n ≤ 500000 ∧
  ∀ H', But p H H' → Q (.bl true) H'
theorem ok_ref {f : Addr} {fd : FuncData} (F : FnP K "_law_refused_right" sRefused f fd) (L : RfE P w K mg base CQ CI CC CL) (M : RfM P w K mg base CQ CI CC CL) : FnOk P w K mg base CX0 12 f fd ["_law_purse_here", "_law_quarter_here", "_law_world_here"] (spRef CQ) := by
  refine F.ok scRf (fun vs H Q E h => ?_) (fun cdv A outer s H vs Q E hr h => ?_)
  · obtain ⟨_, _, _, _, _, _, _, _, _, _, _, _, rfl, _⟩ := h
    rfl
  · obtain ⟨p, q, W, ls, lg, lc, ln, ts, gs, cs, ns, n, rfl, hw, hq, hp, hn, z⟩ := h
    refine ⟨_, PSs.nox (rf0 (CQ := CQ) L.T (rf1 (CQ := CQ) L.T (rf2 L hr (rf3 L hr (rf4 L hr (rf5 M hr)))))), ?_⟩
    refine ⟨p, q, W, ls, lg, lc, ln, ts, gs, cs, ns, n, rfl, hw, fun g x H1 s1 hg hx ho => ?_⟩
    refine ⟨p, q, W, ls, lg, lc, ln, g, ts, gs, cs, ns, x, n, rfl, hw.keep s1, hq.keep s1, hp.same s1, hg, hx, ho, fun S H2 s2 hR2 => ?_⟩
    refine ⟨p, q, W, ls, lg, lc, ln, g, S, ts, gs, cs, ns, x, n, rfl, hR2, hn, fun o5 o6 H3 b3 hR3 => ?_⟩
    refine ⟨p, q, W, ls, lg, lc, ln, g, S, o5, o6, ts, gs, cs, ns, x, _, rfl, hR3, fun o6 H4 s4 => ?_⟩
    refine ⟨p, q, W, ls, lg, lc, ln, g, S, o5, o6, ts, gs, cs, ns, x, _, rfl, hR3.keep s4, fun o5 o7 o8 H5 s5 => ?_⟩
    refine ⟨p, q, W, ls, lg, lc, ln, g, S, o5, o6, o7, o8, ts, gs, cs, ns, x, _, rfl, (hR3.keep s4).keep s5, fun H6 s6 => ?_⟩
    exact z H6 ((Same.but (same_trans s1 s2)).trans (b3.trans (Same.but (same_trans s4 (same_trans s5 s6)))))
end
end K4
end
section
set_option Elab.async false
set_option linter.all false
set_option maxRecDepth 100000
set_option maxHeartbeats 4000000
namespace K4
open PySem PySem.Spec PyProof.Rows L2 H3 H4
abbrev NLaw : List Str := ["_law_script", "_law_purse_here", "_law_world_here", "_law_quarter_here", "_law_turn", "_law_changes"]
theorem scLaw : FnScope NLaw ["_law_script"] (defScope sLaw) := ⟨rfl, rfl, rfl, by decide +kernel, rfl, by decide +kernel, by decide +kernel⟩
def lwS (j : Nat) : Stmt := (defBody sLaw).getD j (.Pass ⟨0, 0, 0, 0⟩)
def lwB (j : Nat) : Stmt := (forBody (lwS 0)).getD j (.Pass ⟨0, 0, 0, 0⟩)
theorem pu_ne_refs {α : Type} {H : Hp} {p l : Addr} {n : Int} {ts : List α} {g : α → Addr} (hp : Pu H p n) (h : H l = some (.lst (ts.map fun t => V.ref (g t)))) : l ≠ p := fun e => by
  obtain ⟨xs, hx, a, b, c, d, ex, _⟩ := hp
  rw [e, hx, ex] at h
  cases ts with
  | nil => cases h
  | cons t ts => cases h
theorem ChL.but {H H' : Hp} {l p : Addr} {ks : List (Addr × Ch)} {n : Int} (h : ChL H l ks) (hp : Pu H p n) (b : But p H H') : ChL H' l ks := ⟨b _ _ (pu_ne_refs hp h.at_) h.at_, fun t ht => (h.each t ht).but hp b⟩
/-- all that law calls -/
structure LawE (P : Program) (w : World) (K : PySem.W.Frag) (mg : Str → Option Value) (base : Heap) (CQ : Addr) : Prop where
  T : Tx K mg
  pu : Fz P w K mg base "_law_purses" 2 ["_law_script", "_law_few"] (spPurses K)
  dr : DrawZ P w K mg base
  wo : Fz P w K mg base "_law_world" 6 ["_law_purse_here", "_law_gates", "_law_inner", "_law_most"] spWorld
  lq : Fz P w K mg base "_law_quarter" 8 ["_law_world_here"] (spLQuarter CQ)
  dl : Fz P w K mg base "_law_drawn_list" 6 ["_law_purse_here", "_law_world_here"] spDrawn
  ml : Fz P w K mg base "_law_made_lists" 1 ["_law_world_here"] spMade
  sh : Fz P w K mg base "_law_shuffled" 3 ["_law_purse_here", "_law_some"] spShuffled
  lr : Fz P w K mg base "_law_list_right" 12 ["_law_quarter_here", "_law_world_here", "_law_changes"] (spLR CQ)
  rf : Fz P w K mg base "_law_refused_right" 12 ["_law_purse_here", "_law_quarter_here", "_law_world_here"] (spRef CQ)
/-- a world and its quarter -/
structure LwT (H : Hp) (CQ p W ls lg lc ln q : Addr) (ts : List (Addr × S5)) (gs cs ns : List Str) (n : Int) : Prop where
  wo : WoP H p W ls lg lc ln ts gs cs ns
  q : IsQ H CQ q (snds ts) gs
  pu : Pu H p n
  ne : ns ≠ []
section
variable {H H' : Hp} {CQ p W ls lg lc ln q : Addr} {ts : List (Addr × S5)} {gs cs ns : List Str} {n m : Int}
theorem LwT.keep (h : LwT H CQ p W ls lg lc ln q ts gs cs ns n) (s : Same H H') : LwT H' CQ p W ls lg lc ln q ts gs cs ns n := ⟨h.wo.keep s, h.q.keep s, h.pu.same s, h.ne⟩
theorem LwT.but (h : LwT H CQ p W ls lg lc ln q ts gs cs ns n) (b : But p H H') (hp : Pu H' p m) : LwT H' CQ p W ls lg lc ln q ts gs cs ns m := ⟨h.wo.but b h.pu.lst, h.q.but h.pu b, hp, h.ne⟩
theorem LwT.mono (h : LwT H CQ p W ls lg lc ln q ts gs cs ns n) (l : n ≤ m) : LwT H CQ p W ls lg lc ln q ts gs cs ns m := ⟨h.wo, h.q, h.pu.mono l, h.ne⟩
theorem LwT.len (h : LwT H CQ p W ls lg lc ln q ts gs cs ns n) : ts.length ≤ 14 ∧ gs.length ≤ 5 := by
  have := h.wo.wo.l2
  have := h.wo.wo.l3
  exact ⟨by omega, h.wo.wo.gnd.2.2.2⟩
end
section
variable {P : Program} {w : World} {K : PySem.W.Frag} {mg : Str → Option Value} {base : Heap} {f : Addr} {cdv : Value} {A : Around} {outer : List Env} {s : Shared} {Hl : Hp} {E : XK} {CQ : Addr}
abbrev TLw (P : Program) (w : World) (K : PySem.W.Frag) (mg : Str → Option Value) (base : Heap) (f : Addr) (cdv : Value) (A : Around) (outer : List Env) (s : Shared) (Hl : Hp) (E : XK) : Cx := (cxOf CX0 P w K mg base NLaw "law" (defScope sLaw) f cdv A outer s Hl E).nox
/-- what is drawn -/
def tL1 (CQ : Addr) (u : TS) : TS := fun Z σ H => ∃ (o0 o2 o3 o4 o5 : Option V) (p : Addr), σ = [o0, some (.ref p), o2, o3, o4, o5] ∧ Pu H p 0 ∧
  ∀ W ls lg lc ln q ts gs cs ns H', But p H H' → LwT H' CQ p W ls lg lc ln q ts gs cs ns 2000 → u Z [o0, some (.ref p), some (.ref W), some (.ref q), o4, o5] H'
theorem lw1 (L : LawE P w K mg base CQ) (hr : Room 12 (A.deeper (envOfC "law" (defScope sLaw) s.heap.objs.size f cdv))) {rest : List Stmt} {u : TS} (hu : PSs (TLw P w K mg base f cdv A outer s Hl E) rest u) :
    PSs (TLw P w K mg base f cdv A outer s Hl E) (lwB 0 :: lwB 1 :: rest) (tL1 CQ u) := by
  have r2 : Room 2 (A.deeper (envOfC "law" (defScope sLaw) s.heap.objs.size f cdv)) := hr.mono (by decide)
  have r6 : Room 6 (A.deeper (envOfC "law" (defScope sLaw) s.heap.objs.size f cdv)) := hr.mono (by decide)
  have r8 : Room 8 (A.deeper (envOfC "law" (defScope sLaw) s.heap.objs.size f cdv)) := hr.mono (by decide)
  refine weak (pss_cons (ps_set (i := 2) scLaw.nd rfl (Or.inr rfl) (pe_fz L.wo r6 (by rfl) (pa_cons (pv 1) (pa_cons (pe_op op_add pe_int (pe_fz L.dr r2 (by rfl) (pa_cons (pv 1) (pa_cons pe_int pa_nil)))) (pa_cons (pe_fz L.dr r2 (by rfl) (pa_cons (pv 1) (pa_cons pe_int pa_nil))) (pa_cons (pe_op op_add pe_int (pe_fz L.dr r2 (by rfl) (pa_cons (pv 1) (pa_cons pe_int pa_nil)))) pa_nil))))))
    (pss_cons (ps_set (i := 3) scLaw.nd rfl (Or.inl rfl) (pe_fz L.lq r8 (by rfl) (pa_cons (pv 2) pa_nil))) hu)) ?_
  rintro Z σ H ⟨o0, o2, o3, o4, o5, p, rfl, ⟨xs, hx, hu⟩, q⟩
  have b0 : ∀ {H : Hp} {o : HO}, But p H (upd H p o) := but_self
  refine ⟨_, rfl, _, rfl, p, 4, 0, xs, rfl, hx, hu, by decide, by decide, by decide, fun r1 ys1 r10 r15 hu1 => ⟨_, _, rfl, rfl, ?_⟩⟩
  have b1 : But p H (upd H p (.lst ys1)) := b0
  have p1 : upd H p (.lst ys1) p = some (.lst ys1) := upd_same
  generalize upd H p (.lst ys1) = H1 at b1 p1 ⊢
  refine ⟨_, rfl, p, 3, _, ys1, rfl, p1, hu1, by decide, by decide, by decide, fun r2 ys2 r20 r25 hu2 => ?_⟩
  have b2 : But p H1 (upd H1 p (.lst ys2)) := b0
  have p2 : upd H1 p (.lst ys2) p = some (.lst ys2) := upd_same
  generalize upd H1 p (.lst ys2) = H2 at b2 p2 ⊢
  refine ⟨_, rfl, p, 10, _, ys2, rfl, p2, hu2, by decide, by decide, by decide, fun r3 ys3 r30 r35 hu3 => ⟨_, _, rfl, rfl, ?_⟩⟩
  have b3 : But p H2 (upd H2 p (.lst ys3)) := b0
  have p3 : upd H2 p (.lst ys3) p = some (.lst ys3) := upd_same
  generalize upd H2 p (.lst ys3) = H3 at b3 p3 ⊢
  have hp3 : Pu H3 p (0 + 1 + 1 + 1) := ⟨ys3, p3, hu3⟩
  refine ⟨p, _, _, _, _, rfl, hp3, by decide, by omega, by omega, by omega, by omega, by omega, by omega, fun W ls lg lc ln ts gs cs ns H4 hp4 b4 nW hW wo nw e1 e2 e3 => ?_⟩
  obtain ⟨m1, m2, m3, m4, m5⟩ := nw
  have nep : ∀ {a : Addr}, H3 a = none → a ≠ p := fun {a} e z => by
    rw [z, p3] at e
    cases e
  have wop : WoP H4 p W ls lg lc ln ts gs cs ns := ⟨hW, wo, nep nW, nep m1, nep m2, nep m3, nep m4⟩
  have ne : ns ≠ [] := fun e => by
    rw [e] at e3
    simp at e3
    omega
  refine ⟨_, rfl, W, ls, lg, ts, gs, rfl, wop.wq, fun qq H5 s5 nq isq => ?_⟩
  exact q W ls lg lc ln qq ts gs cs ns H5 (b1.trans (b2.trans (b3.trans (b4.trans (Same.but s5))))) ⟨wop.keep s5, isq, (hp4.same s5).mono (by omega), ne⟩
/-- lists of changes with where they stand -/
structure CLs (H : Hp) (zs : List (Addr × List (Addr × Ch))) : Prop where
  each : ∀ z ∈ zs, ChL H z.1 z.2 ∧ (∀ t ∈ z.2, t.2.Ok) ∧ z.2.length ≤ 4
theorem CLs.keep {H H' : Hp} {zs : List (Addr × List (Addr × Ch))} (h : CLs H zs) (s : Same H H') : CLs H' zs := ⟨fun z hz => ⟨(h.each z hz).1.keep s, (h.each z hz).2⟩⟩
theorem CLs.but {H H' : Hp} {p : Addr} {n : Int} {zs : List (Addr × List (Addr × Ch))} (h : CLs H zs) (hp : Pu H p n) (b : But p H H') : CLs H' zs := ⟨fun z hz => ⟨(h.each z hz).1.but hp b, (h.each z hz).2⟩⟩
theorem ChL.wo {H : Hp} {l D : Addr} {ks : List (Addr × Ch)} {xs : List V} (h : ChL H l ks) (n : l ≠ D) (hD : H D = some (.lst xs)) : ChL (del H D) l ks := ⟨by
  simp only [del, n, if_false]
  exact h.at_, fun t ht => (h.each t ht).wo hD⟩
/-- all lists of changes -/
def tL2 (CQ : Addr) (u : TS) : TS := fun Z σ H => ∃ (o0 o4 o5 : Option V) (p W ls lg lc ln q : Addr) (ts : List (Addr × S5)) (gs cs ns : List Str), σ = [o0, some (.ref p), some (.ref W), some (.ref q), o4, o5] ∧ LwT H CQ p W ls lg lc ln q ts gs cs ns 2000 ∧
  ∀ o5 H', But p H H' → LwT H' CQ p W ls lg lc ln q ts gs cs ns 4000 → u Z [o0, some (.ref p), some (.ref W), some (.ref q), o4, o5] H'
theorem lw2 (L : LawE P w K mg base CQ) (hr : Room 12 (A.deeper (envOfC "law" (defScope sLaw) s.heap.objs.size f cdv))) {rest : List Stmt} {u : TS} (hu : PSs (TLw P w K mg base f cdv A outer s Hl E) rest u) :
    PSs (TLw P w K mg base f cdv A outer s Hl E) (lwB 2 :: rest) (tL2 CQ u) := by
  have gR := L.T.fr "range" (by decide +kernel)
  have r1 : Room 1 (A.deeper (envOfC "law" (defScope sLaw) s.heap.objs.size f cdv)) := hr.mono (by decide)
  have r3 : Room 3 (A.deeper (envOfC "law" (defScope sLaw) s.heap.objs.size f cdv)) := hr.mono (by decide)
  have r6 : Room 6 (A.deeper (envOfC "law" (defScope sLaw) s.heap.objs.size f cdv)) := hr.mono (by decide)
  refine weak (pss_cons (ps_for PassesOwn.never rfl (pi_list (pe_op op_cat
      (pe_lc (own := [("_law_turn", 4)]) (g := gName 4) (tt := tYes) (te := tCall spDrawn [] E0 (tCons (tVar 1) (tCons (tVar 2) tNil))) rfl scLaw.nd (pi_range1 rfl gR (pa_cons pe_int pa_nil)) (blkOk_by (own := [("_law_turn", 4)]) (N := NLaw) (sc := defScope sLaw) (by decide +kernel))
          (fun _ _ _ _ _ => pg_name (i := 4) scLaw.nd rfl (Or.inl rfl)) (fun _ _ _ _ _ => pts_nil) (fun _ _ _ _ _ => pe_fz L.dl r6 (by rfl) (pa_cons (pv 1) (pa_cons (pv 2) pa_nil))))
      (pe_slice sl_list (pe_fz L.sh r3 (by rfl) (pa_cons (pv 1) (pa_cons (pe_fz L.ml r1 (by rfl) (pa_cons (pv 2) pa_nil)) pa_nil))) po_none (po_some pe_int)))) (pg_name (i := 5) scLaw.nd rfl (Or.inl rfl))
    (pss_one (ps_if (pt_not (pt_val (pe_fz L.lr hr (by rfl) (pa_cons (pv 3) (pa_cons (pv 2) (pa_cons (pv 5) pa_nil)))))) (pss_one (ps_ret pe_bl)) pss_nil))) hu) ?_
  rintro Z σ H ⟨o0, o4, o5, p, W, ls, lg, lc, ln, q, ts, gs, cs, ns, rfl, h, z⟩
  have sl := sizeLine_eq
  refine ⟨5, rfl, by decide, by decide, fun D nD => ?_⟩
  have nDp : D ≠ p := pu_new h.pu nD
  refine lc_it (walk_range (lo := 0) (n := (5 : Int).toNat)) (fun j H' => ∃ zs : List (Addr × List (Addr × Ch)), But p H H' ∧ Pu H' p (2000 + 300 * (j : Nat)) ∧ H' D = some (.lst (zs.map fun z => V.ref z.1)) ∧ CLs H' zs ∧ (∀ z ∈ zs, z.1 ≠ D) ∧ zs.length = j) ⟨[], but_new nD, by simpa using h.pu.same (same_upd nD), upd_same, ⟨fun z hz => by simp at hz⟩, fun z hz => by simp at hz, rfl⟩ (fun _ _ _ _ => trivial) ?_ ?_
  · rintro j x H2 H1 hj ⟨zs, b1, p1, hD, hz, hn, lz⟩ ⟨rfl, rfl⟩
    have j5 : j < 5 := hj
    have h1 := h.but b1 p1
    refine ⟨rfl, _, rfl, _, rfl, p, W, ls, lg, lc, ln, ts, gs, cs, ns, _, rfl, h1.wo, h1.pu, by omega, h1.ne, fun F ks H3 p3 b3 nF hF ok k4 => ?_⟩
    have hz3 := hz.but p1 b3
    have hD3 := b3 _ _ nDp hD
    have nFD : F ≠ D := fun e => by
      rw [e, hD] at nF
      cases nF
    refine ⟨_, hD3, by rw [List.length_map]; omega, zs ++ [(F, ks)], fun b o nb e => ?_, ?_, by rw [upd_same, List.map_append]; rfl, ⟨fun z hz' => ?_⟩, fun z hz' => ?_, by rw [List.length_append, lz]; rfl⟩
    · rw [upd_ne (ne_of_none e nD)]
      exact b3 _ _ nb (b1 _ _ nb e)
    · obtain ⟨ys, hy, hu⟩ := p3
      exact ⟨ys, by rw [upd_ne nDp.symm]; exact hy, hu.mono (by push_cast; omega)⟩
    · rcases List.mem_append.mp hz' with hm | hm
      · exact ⟨((hz3.each z hm).1.wo (hn z hm) hD3).keep del_upd, (hz3.each z hm).2⟩
      · rw [List.mem_singleton.mp hm]
        exact ⟨(hF.wo nFD hD3).keep del_upd, ok, k4⟩
    · rcases List.mem_append.mp hz' with hm | hm
      · exact hn z hm
      · rw [List.mem_singleton.mp hm]
        exact nFD
  · rintro H1 ⟨zs, b1, p1, hD, hz, hn, lz⟩
    have lz5 : zs.length = 5 := lz
    refine ⟨_, rfl, _, rfl, _, rfl, fun L0 ll H2 s2 nL hL em hll => ?_⟩
    have p2 := p1.same s2
    have nLp : L0 ≠ p := pu_new p1 nL
    have l14 : ll.length = 14 := by
      have := congrArg List.length em
      rw [List.length_map] at this
      exact this
    refine ⟨p, L0, _, _, rfl, p2, by decide, hL, nLp, by rw [List.length_map]; omega, fun D2 us H3 pm p3 b3 nD2 hD2 => ?_⟩
    have nD2p : D2 ≠ p := pu_new p2 nD2
    refine ⟨8, rfl, D2, _, rfl, SqL.of hD2, fun d nd => ?_⟩
    have eu : cutV us none (some 8) = us.take 8 := cut_take us 8
    rw [eu]
    have s4 := same_upd (o := .lst (us.take 8)) nd
    have hd : upd H3 d (.lst (us.take 8)) d = some (.lst (us.take 8)) := upd_same
    generalize upd H3 d (.lst (us.take 8)) = H4 at s4 hd ⊢
    have b14 : But p H1 H4 := (Same.but s2).trans (b3.trans (Same.but s4))
    refine ⟨D, d, _, _, rfl, rfl, b14 _ _ nDp hD, hd, by rw [List.length_map, List.length_take]; omega, fun M nM => ?_⟩
    have s5 := same_upd (o := .lst ((zs.map fun z => V.ref z.1) ++ us.take 8)) nM
    have hM : upd H4 M (.lst ((zs.map fun z => V.ref z.1) ++ us.take 8)) M = some (.lst ((zs.map fun z => V.ref z.1) ++ us.take 8)) := upd_same
    have all : ∀ x ∈ (zs.map fun z => V.ref z.1) ++ us.take 8, ∃ l ks, x = .ref l ∧ ChL (upd H4 M (.lst ((zs.map fun z => V.ref z.1) ++ us.take 8))) l ks ∧ (∀ t ∈ ks, t.2.Ok) ∧ ks.length ≤ 4 := by
      intro x hx
      rcases List.mem_append.mp hx with hx | hx
      · obtain ⟨z', hz', rfl⟩ := List.mem_map.mp hx
        obtain ⟨g1, g2, g3⟩ := hz.each z' hz'
        exact ⟨_, _, rfl, (g1.but p1 b14).keep s5, g2, g3⟩
      · have hx := pm.mem_iff.mp (List.mem_of_mem_take hx)
        obtain ⟨l', hl', rfl⟩ := List.mem_map.mp hx
        have hm : (l'.2.map fun u => u.2) ∈ mkAll := by
          rw [← em]
          exact List.mem_map.mpr ⟨l', hl', rfl⟩
        obtain ⟨g2, g3⟩ := mk_ok hm
        exact ⟨_, _, rfl, (((hll l' hl').but p2 b3).keep s4).keep s5, fun t ht => g2 _ (List.mem_map.mpr ⟨t, ht, rfl⟩), by rw [List.length_map] at g3; exact g3⟩
    have b15 : But p H1 (upd H4 M (.lst ((zs.map fun z => V.ref z.1) ++ us.take 8))) := b14.trans (Same.but s5)
    have p5 : Pu (upd H4 M (.lst ((zs.map fun z => V.ref z.1) ++ us.take 8))) p 4000 := ((p3.same s4).same s5).mono (by rw [List.length_map, l14]; decide)
    generalize upd H4 M (.lst ((zs.map fun z => V.ref z.1) ++ us.take 8)) = H5 at hM all b15 p5 ⊢
    have h5 := h.but (b1.trans b15) p5
    generalize (zs.map fun z => V.ref z.1) ++ us.take 8 = xs at hM all ⊢
    obtain ⟨t14, g5⟩ := h5.len
    refine ⟨M, rfl, ⟨_, SqL.of hM⟩, ?_⟩
    refine for_list (K := K) (a := M) (xs := xs) (fun i σ H' => Same H5 H' ∧ ∃ o5 : Option V, σ = [o0, some (.ref p), some (.ref W), some (.ref q), o4, o5]) ⟨Same.refl _, _, rfl⟩ (fun i σ H' _ h => SqL.of (h.1 _ _ hM)) ?_ ?_
    · rintro i x σ H' hi ⟨s6, o5, rfl⟩
      obtain ⟨l, ks, rfl, hc, ok, k4⟩ := all x (List.mem_of_getElem? hi)
      have h6 := h5.keep s6
      refine ⟨_, rfl, _, rfl, _, rfl, q, W, ls, lg, l, ts, gs, ks, rfl, ⟨h6.q, h6.wo.wq, hc.keep s6, ok, by omega⟩, fun H7 s7 => ⟨_, rfl, ifF (by decide) ⟨same_trans s6 s7, _, rfl⟩⟩⟩
    · rintro σ H' ⟨s6, o5, rfl⟩
      exact z _ H' (b1.trans (b15.trans (Same.but s6))) (h5.keep s6)
/-- refusals -/
def tL3 (CQ : Addr) : TS := fun Z σ H => ∃ (o0 o4 o5 : Option V) (p W ls lg lc ln q : Addr) (ts : List (Addr × S5)) (gs cs ns : List Str), σ = [o0, some (.ref p), some (.ref W), some (.ref q), o4, o5] ∧ LwT H CQ p W ls lg lc ln q ts gs cs ns 4000 ∧
  ∀ H', But p H H' → Z.nx [o0, some (.ref p), some (.ref W), some (.ref q), o4, o5] H'
theorem lw3 (L : LawE P w K mg base CQ) (hr : Room 12 (A.deeper (envOfC "law" (defScope sLaw) s.heap.objs.size f cdv))) :
    PSs (TLw P w K mg base f cdv A outer s Hl E) [lwB 3] (tL3 CQ) := by
  refine weak (pss_one (ps_if (pt_not (pt_val (pe_fz L.rf hr (by rfl) (pa_cons (pv 1) (pa_cons (pv 3) (pa_cons (pv 2) pa_nil)))))) (pss_one (ps_ret pe_bl)) pss_nil)) ?_
  rintro Z σ H ⟨o0, o4, o5, p, W, ls, lg, lc, ln, q, ts, gs, cs, ns, rfl, h, z⟩
  exact ⟨_, rfl, _, rfl, _, rfl, p, q, W, ls, lg, lc, ln, ts, gs, cs, ns, _, rfl, h.wo, h.q, h.pu, by decide, fun H1 b1 => ⟨_, rfl, ifF (by decide) (z H1 b1)⟩⟩
end
section
variable {P : Program} {w : World} {K : PySem.W.Frag} {mg : Str → Option Value} {base : Heap} {CQ : Addr}
def spLaw (K : PySem.W.Frag) : Sp := fun vs H Q _ => ∃ (a : Addr) (ns : List Int), vs = [.ref a] ∧ SqL K H a (ns.map V.int) ∧ ∀ H', Q (.bl true) H'
/-- at the head of the turn i -/
def Pv (D : Addr) (ps : List Addr) (i : Nat) : L2.St → Hp → Prop := fun σ H => (∃ (o0 o1 o2 o3 o4 o5 : Option V), σ = [o0, o1, o2, o3, o4, o5]) ∧ H D = some (.lst (ps.map V.ref)) ∧
  ∀ j p, i ≤ j → ps[j]? = some p → Pu H p 0
theorem ok_law {f : Addr} {fd : FuncData} (F : FnP K "law" sLaw f fd) (L : LawE P w K mg base CQ) : FnOk P w K mg base CX0 13 f fd ["_law_script"] (spLaw K) := by
  refine F.ok scLaw (fun vs H Q E h => ?_) (fun cdv A outer s H vs Q E hr h => ?_)
  · obtain ⟨_, _, rfl, _⟩ := h
    rfl
  · obtain ⟨a, ns, rfl, hS, q⟩ := h
    have r2 : Room 2 (A.deeper (envOfC "law" (defScope sLaw) s.heap.objs.size f cdv)) := hr.mono (by decide)
    refine ⟨_, PSs.nox (pss_cons (ps_for PassesOwn.never rfl (pi_list (pe_fz L.pu r2 (by rfl) (pa_cons (pv 0) (pa_cons pe_int pa_nil)))) (pg_name (i := 1) scLaw.nd rfl (Or.inr rfl)) (lw1 L hr (lw2 L hr (lw3 L hr))))
      (pss_one (ps_ret pe_bl))), ?_⟩
    refine ⟨_, rfl, a, ns, rfl, hS, fun D ps H1 hl nD hP => ⟨D, rfl, ⟨_, SqL.of hP.2.1⟩, ?_⟩⟩
    refine for_list (K := K) (a := D) (xs := ps.map V.ref) (Pv D ps) ⟨⟨_, _, _, _, _, _, rfl⟩, hP.2.1, fun j p _ e => ?_⟩ (fun i σ H' _ h => SqL.of h.2.1) (fun i x σ H' hx h => ?_) ?_
    · obtain ⟨_, _, xs, e2, e3⟩ := hP.2.2.2 p (List.mem_of_getElem? e)
      exact ⟨xs, e2, e3⟩
    · obtain ⟨p, hi, rfl⟩ := at_map hx
      obtain ⟨⟨o0, o1, o2, o3, o4, o5, rfl⟩, hD, hp⟩ := h
      have npD : p ≠ D := (hP.2.2.2 p (List.mem_of_getElem? hi)).2.1
      refine ⟨_, _, _, _, _, p, rfl, hp i p (Nat.le_refl _) hi, fun W ls lg lc ln qq ts gs cs ns H2 b2 t2 => ?_⟩
      refine ⟨_, _, _, p, W, ls, lg, lc, ln, qq, ts, gs, cs, ns, rfl, t2, fun o5 H3 b3 t3 => ?_⟩
      refine ⟨_, _, _, p, W, ls, lg, lc, ln, qq, ts, gs, cs, ns, rfl, t3, fun H4 b4 => ?_⟩
      have b := b2.trans (b3.trans b4)
      refine ⟨⟨_, _, _, _, _, _, rfl⟩, b _ _ (Ne.symm npD) hD, fun j r hj hr' => ?_⟩
      obtain ⟨ys, hy, hv⟩ := hp j r (by omega) hr'
      refine ⟨ys, b _ _ (fun y => ?_) hy, hv⟩
      rw [y] at hr'
      have lt := (List.getElem?_eq_some_iff.mp hi).1
      have := (List.getElem?_inj lt hP.2.2.1).mp (hi.trans hr'.symm)
      omega
    · rintro σ H2 ⟨⟨o0, o1, o2, o3, o4, o5, o6, rfl⟩, _, _⟩
      exact q H2
end
end K4
end
section
set_option Elab.async false
set_option linter.all false
set_option maxRecDepth 100000
set_option maxHeartbeats 4000000
/-! # own errors at the head: what the written part must say of them, their __init__ -/
namespace H5
open PySem PySem.Spec PyProof.Rows L2
def excB (K : PySem.W.Frag) (C : Addr) : Bool :=
  He.eqO (PySem.W.findIn K (.ref C) "__getattribute__") (some (some (.builtin "BaseException.__getattribute__"))) &&
  (He.eqO (PySem.W.findIn K (.ref C) "__getattr__") (some none) &&
  (decide (PySem.W.subIn K (.ref C) (.type "BaseException") = some true) &&
  (PySem.W.hasDictIn K C &&
  (He.eqO (PySem.W.findIn K (.ref C) "__class__") (some (some (.builtin "object.__class__"))) &&
  (He.eqO (PySem.W.specialIn K (.builtin "object.__class__") "__get__") (some (some (.builtin "getset_descriptor.__get__"))) &&
  (decide (PySem.W.takesIn K (.builtin "object.__class__") = some true) &&
  decide (PySem.W.mroIn K C (.type "object") = some true)))))))
theorem excB_ok {K : PySem.W.Frag} {C : Addr} (h : excB K C = true) : ExcC K C ∧ XfC K C := by
  obtain ⟨h1, h⟩ := He.ba h
  obtain ⟨h2, h⟩ := He.ba h
  obtain ⟨h3, h⟩ := He.ba h
  obtain ⟨h4, h⟩ := He.ba h
  obtain ⟨h5, h⟩ := He.ba h
  obtain ⟨h6, h⟩ := He.ba h
  obtain ⟨h7, h8⟩ := He.ba h
  exact ⟨⟨He.eqO_ok h1, He.eqO_ok h2, of_decide_eq_true h3, h4, He.eqO_ok h5, He.eqO_ok h6, of_decide_eq_true h7, of_decide_eq_true h8⟩, ⟨He.eqO_ok h1, He.eqO_ok h2, of_decide_eq_true h3, h4⟩⟩
def ecB (K : PySem.W.Frag) (C : Addr) : Bool := match K.lookup C with
  | some ⟨.type "type", _, .cls cd, sl⟩ => (match cd.mro, sl.toList with
    | .ref C' :: bm, [_, _, _, _, some (.builtin n), _] => C' == C && (n == "ValueError.__new__" && (!cd.hasDel && (cd.hasDict && PySem.HandSPX.refsVE bm)))
    | _, _ => false)
  | _ => false
theorem ecB_ok {K : PySem.W.Frag} {C : Addr} (q : ecB K C = true) : ∃ nm qn N bs bm sn sub ab col dd k0 k1 k2 k3 k5, K.lookup C = some (excClassObj nm qn C N bs bm true sn sub ab col dd k0 k1 k2 k3 k5 "ValueError.__new__") ∧ PySem.HandSPX.refsVE bm = true := by
  unfold ecB at q
  split at q
  · rename_i dd cd sl ho
    split at q
    · rename_i C' bm k0 k1 k2 k3 n k5 hm hs
      simp only [Bool.and_eq_true, beq_iff_eq, Bool.not_eq_true'] at q
      obtain ⟨rfl, rfl, hdel, hdct, ht⟩ := q
      obtain ⟨nm, bs, mro, ns, qn, hd, sn, sub, ab, col, del⟩ := cd
      dsimp only at hm hdel hdct
      subst hm hdel hdct
      have hsl : sl = #[k0, k1, k2, k3, some (.builtin "ValueError.__new__"), k5] := by
        obtain ⟨l⟩ := sl
        simp only at hs
        rw [hs]
      subst hsl
      exact ⟨nm, qn, ns, bs, bm, sn, sub, ab, col, dd, k0, k1, k2, k3, k5, ho, ht⟩
    · cases q
  · cases q
def oexB (K : PySem.W.Frag) (C fI : Addr) : Bool :=
  ecB K C && (He.eqO (PySem.W.findIn K (.ref C) "__setattr__") (some (some (.builtin "object.__setattr__"))) && (decide (PySem.W.typeIn K (.ref C) = some (.type "type")) && (PySem.W.keepIn K (.ref C) &&
  (He.eqO (PySem.W.findIn K (.ref C) "__init__") (some (some (.ref fI))) && (decide (PySem.W.typeIn K (.ref fI) = some (.type "function")) && He.eqO (PySem.W.findIn K (.ref C) "value") (some none))))))
theorem oexB_ok {K : PySem.W.Frag} {C fI : Addr} (e : PySem.W.subIn K (.ref C) (.type "BaseException") = some true) (h : oexB K C fI = true) : XvC K C fI := by
  obtain ⟨h1, h⟩ := He.ba h
  obtain ⟨h2, h⟩ := He.ba h
  obtain ⟨h3, h⟩ := He.ba h
  obtain ⟨h4, h⟩ := He.ba h
  obtain ⟨h5, h⟩ := He.ba h
  obtain ⟨h6, h7⟩ := He.ba h
  exact ⟨⟨ecB_ok h1, He.eqO_ok h2, e, of_decide_eq_true h3, h4⟩, He.eqO_ok h5, of_decide_eq_true h6, He.eqO_ok h7⟩
/-- an error class of the name x -/
def erB (K : PySem.W.Frag) (x : Str) : Bool := excB K (He.ga K x) && oexB K (He.ga K x) (He.ma K (He.ga K x) "__init__")
theorem erB_ok {K : PySem.W.Frag} {x : Str} (h : erB K x = true) : ExcC K (He.ga K x) ∧ XfC K (He.ga K x) ∧ XvC K (He.ga K x) (He.ma K (He.ga K x) "__init__") := by
  obtain ⟨h1, h2⟩ := He.ba h
  obtain ⟨e1, e2⟩ := excB_ok h1
  exact ⟨e1, e2, oexB_ok e1.hs h2⟩
def iArgs (p1 p2 p3 : Pos) : Arguments := { posonlyargs := [], args := [{ arg := "self", annotation := none, pos := p1 }, { arg := "value", annotation := none, pos := p2 }], vararg := none, kwonlyargs := [], kw_defaults := [], kwarg := none, defaults := [.Constant .none 0 p3] }
def iBody (p1 p2 p3 p4 : Pos) : List Stmt := [.Assign [.Attribute (.Name "self" p1) "value" p2] (.Name "value" p3) p4]
def iScope : Scope := { kind := .function, names := [("self", .local), ("value", .local)], isGenerator := false, isCoroutine := false, more := [] }
theorem scIni : FnScope ["self", "value"] ["self", "value"] iScope := ⟨rfl, rfl, rfl, by decide +kernel, rfl, by decide +kernel, by decide +kernel⟩
section
variable {P : Program} {w : World} {K : PySem.W.Frag} {mg : Str → Option Value} {base : Heap}
theorem ok_ini {q : Str} {params : Arguments} {f : Addr} {fd : FuncData} {p1 p2 p3 p4 : Pos} (F : FunD K "__init__" q params (iBody p1 p2 p3 p4) iScope [.non] [] f fd) : FnOk P w K mg base CX0 1 f fd ["self", "value"] (spXI K) := by
  refine F.ok scIni (fun vs H Q E h => ?_) (fun cdv A outer s H vs Q E hr h => ?_)
  · obtain ⟨_, _, _, rfl, _⟩ := h
    rfl
  · obtain ⟨a, C, v, rfl, ha, hC, hn, q⟩ := h
    refine ⟨_, PSs.nox (pss_one (ps_ost (pv 0) (pv 1) rfl)), ?_⟩
    exact ⟨_, rfl, _, rfl, a, C, rfl, hC, hn, Or.inl ⟨ha, fun d nd ne => q d nd ne⟩⟩
/-- what an error's __init__ gives, its text as it is always written -/
theorem ini_of {q : Str} {st : Stmt} {f : Addr} {fd : FuncData} (F0 : FunD K "__init__" q (defArgs st) (defBody st) (defScope st) [.non] [] f fd)
    (e : ∃ p1 p2 p3 p4 p5 p6 p7, defArgs st = iArgs p1 p2 p3 ∧ defBody st = iBody p4 p5 p6 p7 ∧ defScope st = iScope) : FnOk P w K mg base CX0 1 f fd ["self", "value"] (spXI K) ∧ Binds K fd ["self", "value"] [] := by
  obtain ⟨p1, p2, p3, p4, p5, p6, p7, e1, e2, e3⟩ := e
  have F : FunD K "__init__" q (iArgs p1 p2 p3) (iBody p4 p5 p6 p7) iScope [.non] [] f fd := by
    rw [e1, e2, e3] at F0
    exact F0
  refine ⟨ok_ini F, ?_⟩
  obtain ⟨ds, r, b⟩ := F.binds1 (ps := ["self", "value"]) 2 1 (List.cons_ne_nil _ _) rfl (fun T kV doc pm an cdv ct us its h1 h2 => match us, its, h1, h2 with | [_, _], [_], _, _ => ⟨_, rfl, rfl⟩)
  cases r
  exact b
end
end H5
end
section
set_option Elab.async false
set_option linter.all false
set_option maxRecDepth 100000
set_option maxHeartbeats 4000000
namespace K4
open PySem PySem.Spec PyProof.Rows L2
/-! ### what the written part must say -/
def qA (K : PySem.W.Frag) : Addr := He.ga K "Quarter"
def gloB (K : PySem.W.Frag) (x : Str) : Bool := He.eqO (PySem.W.nsIn K mainGlobals x) (some (some (.ref (He.ga K x))))
def metB (K : PySem.W.Frag) (C : Addr) (m : Str) : Bool := He.eqO (PySem.W.findIn K (.ref C) m) (some (some (.ref (He.ma K C m)))) && (PySem.W.isFn K (.ref (He.ma K C m)) && PySem.W.keepIn K (.ref (He.ma K C m)))
theorem metB_ok {K : PySem.W.Frag} {C : Addr} {m : Str} (h : metB K C m = true) : Meth K C m (He.ma K C m) := by
  obtain ⟨h1, h⟩ := He.ba h
  obtain ⟨h2, h3⟩ := He.ba h
  exact ⟨He.eqO_ok h1, h2, h3⟩
def clsB (K : PySem.W.Frag) (C : Addr) : Bool := PySem.W.plainGet K C Str.empty && (PySem.W.hasDictIn K C && (PySem.W.plainOver K C && He.eqO (PySem.W.findIn K (.ref C) "__setattr__") (some (some (.builtin "object.__setattr__")))))
def mkB (K : PySem.W.Frag) (C : Addr) : Bool := PySem.W.makesIn K C && (metB K C "__init__" && PySem.W.keepIn K (.ref C))
def subB (K : PySem.W.Frag) (C : Addr) (T : String) (b : Bool) : Bool := decide (PySem.W.subIn K (.ref C) (.type T) = some b)
def owB (K : PySem.W.Frag) (C : Addr) : Bool := metB K C "__eq__" && (He.eqO (PySem.W.findIn K (.ref C) "__ne__") (some (some (.builtin "object.__ne__"))) && (subB K C "object" true &&
  (subB K C "NoneType" false && (subB K C "int" false && (subB K C "bool" false && (subB K C "str" false && (subB K C "list" false && (subB K C "tuple" false && subB K C "dict" false))))))))
def oneB (K : PySem.W.Frag) (C : Addr) : Bool := clsB K C && (mkB K C && (owB K C && (He.eqO (PySem.W.findIn K (.ref C) "_streets") (some none) && (He.eqO (PySem.W.findIn K (.ref C) "_gates") (some none) &&
  (He.eqO (PySem.W.findIn K (.ref C) "__class__") (some (some (.builtin "object.__class__"))) && (He.eqO (PySem.W.specialIn K (.builtin "object.__class__") "__get__") (some (some (.builtin "getset_descriptor.__get__"))) &&
  (decide (PySem.W.takesIn K (.builtin "object.__class__") = some true) && (decide (PySem.W.mroIn K C (.type "object") = some true) && (decide (PySem.W.kitOne K (.ref C) (.ref C) = some true) &&
  kinds.all fun T => decide (PySem.W.kitOne K (.type T) (.ref C) = some false) && PySem.W.notFirst K C (.type T))))))))))
theorem oneB_ok {K : PySem.W.Frag} {C : Addr} (h : oneB K C = true) : ClsF K C (He.ma K C "__init__") (He.ma K C "__eq__") := by
  obtain ⟨h1, h⟩ := He.ba h
  obtain ⟨h2, h⟩ := He.ba h
  obtain ⟨h3, h⟩ := He.ba h
  obtain ⟨h4, h⟩ := He.ba h
  obtain ⟨h5, h⟩ := He.ba h
  obtain ⟨h6, h⟩ := He.ba h
  obtain ⟨h7, h⟩ := He.ba h
  obtain ⟨h8, h⟩ := He.ba h
  obtain ⟨h9, h⟩ := He.ba h
  obtain ⟨h10, h11⟩ := He.ba h
  obtain ⟨c1, c⟩ := He.ba h1
  obtain ⟨c2, c⟩ := He.ba c
  obtain ⟨c3, c4⟩ := He.ba c
  obtain ⟨m1, m⟩ := He.ba h2
  obtain ⟨m2, m3⟩ := He.ba m
  have mi := metB_ok m2
  obtain ⟨o1, o⟩ := He.ba h3
  obtain ⟨o2, o⟩ := He.ba o
  obtain ⟨o3, o⟩ := He.ba o
  obtain ⟨o4, o⟩ := He.ba o
  obtain ⟨o5, o⟩ := He.ba o
  obtain ⟨o6, o⟩ := He.ba o
  obtain ⟨o7, o⟩ := He.ba o
  obtain ⟨o8, o⟩ := He.ba o
  obtain ⟨o9, o10⟩ := He.ba o
  have me := metB_ok o1
  refine ⟨⟨c1, c2, c3, He.eqO_ok c4⟩, ⟨m1, mi.at_, mi.fn, m3⟩, ⟨me.at_, me.fn, He.eqO_ok o2, of_decide_eq_true o3, of_decide_eq_true o4, of_decide_eq_true o5, of_decide_eq_true o6, of_decide_eq_true o7, of_decide_eq_true o8, of_decide_eq_true o9, of_decide_eq_true o10⟩,
    He.eqO_ok h4, He.eqO_ok h5, He.eqO_ok h6, He.eqO_ok h7, of_decide_eq_true h8, of_decide_eq_true h9, of_decide_eq_true h10, fun T hT => ?_⟩
  obtain ⟨k1, k2⟩ := He.ba (List.all_eq_true.mp h11 T hT)
  exact ⟨of_decide_eq_true k1, k2⟩
def klzB (K : PySem.W.Frag) : Bool := oneB K (qA K) && (gloB K "Quarter" && (metB K (qA K) "streets" && metB K (qA K) "gates"))
def defs1 : List Str := ["is_whole", "is_count", "is_word", "is_street", "are_streets", "check_streets", "are_gates", "check_gates", "check_quarter", "ends_of", "crossings_of", "street_of", "is_change", "are_changes_by_form", "_altered", "_changed_streets", "fitted", "changed", "changed_by", "_law_purse", "_law_mixed", "_law_draw", "_law_purses"]
def defs2 : List Str := ["_law_one_of", "_law_shuffled", "_law_exact", "_law_word", "_law_words", "_law_width", "_law_length", "_law_pair", "_law_shape", "_law_streets_of", "_law_world", "_law_quarter", "_law_stepped", "_law_change", "_law_drawn_list", "_law_made_lists", "_law_due", "_law_told", "_law_very", "_law_list_right", "_law_bad_changes", "_law_refused_right", "law"]
def defs : List Str := defs1 ++ defs2
def kqB (K : PySem.W.Frag) : Bool := ["list", "tuple", "dict", "bool"].all fun T => decide (PySem.W.kitOne K (.ref (qA K)) (.type T) = some false)
def ers : List Str := ["InvalidQuarter", "InvalidChange", "InvalidChanges"]
def ersB (K : PySem.W.Frag) : Bool := ers.all fun x => gloB K x && H5.erB K x
def eI (K : PySem.W.Frag) : Addr := He.ga K "InvalidQuarter"
def eL (K : PySem.W.Frag) : Addr := He.ga K "InvalidChanges"
def eC (K : PySem.W.Frag) : Addr := He.ga K "InvalidChange"
def eG (K : PySem.W.Frag) : Addr := He.ga K "GateError"
def eS (K : PySem.W.Frag) : Addr := He.ga K "InvalidStreets"
def exB (K : PySem.W.Frag) (a c : Addr) (b : Bool) : Bool := decide (PySem.W.exmOne K (.ref a) (.ref c) = some b)
def kaB (K : PySem.W.Frag) (a b c : Addr) : Bool := decide (PySem.W.kitAny K (.ref a) [.ref b, .ref c] = some false)
def xtB (K : PySem.W.Frag) : Bool := gloB K "GateError" && (gloB K "InvalidStreets" && (exB K (eI K) (eI K) true && (exB K (eL K) (eI K) false && (exB K (eL K) (eL K) true && (exB K (eC K) (eI K) false && (exB K (eC K) (eL K) false && (exB K (eC K) (eC K) true &&
  (kaB K (eI K) (eC K) (eL K) && (kaB K (eL K) (eC K) (eI K) && (kaB K (eC K) (eL K) (eS K) && ([eI K, eL K, eC K].all fun a => decide (PySem.W.kitOne K (.ref a) (.ref (eG K)) = some true))))))))))))
def chk (K : PySem.W.Frag) : Bool := (ersB K && (kqB K && xtB K)) && (klzB K && ((K.lookup sysModules).isSome && ((frees.all fun x => He.eqO (PySem.W.nsIn K mainGlobals x) (some none)) && defs.all fun x => gloB K x)))
/-! ### the head -/
def dM (C m : Str) (q : Str) (st : Stmt) : He.DefD := ⟨(C, some m), m, q, defArgs st, defBody st, defScope st, [], []⟩
def dF (x : Str) (st : Stmt) : He.DefD := ⟨(x, none), x, x, defArgs st, defBody st, defScope st, [], []⟩
def sts : List Stmt := [sWhole, sCount, sIsWord, sIsStreet, sAreStreets, sChkStreets, sAreGates, sChkGates, sChkQuarter, sEndsOf, sCrossings, sStreetOf, sIsChange, sAreChF, sAltered, sChangedS, sFitted, sChanged, sChangedBy, sPurse, sMixed, sDraw, sPurses, sOneOf, sShuffled, sExact, sWord, sWords, sWidth, sLength, sPair, sShape, sStreetsOf, sWorld, sQuarter, sStepped, sChange, sDrawn, sMadeLists, sDue, sTold, sVery, sListRight, sBad, sRefused, sLaw]
def fn : List He.DefD := (defs.zip sts).map (fun p => dF p.1 p.2) ++ [dM "Quarter" "__init__" "Quarter.__init__" sQInit, dM "Quarter" "streets" "Quarter.streets" sQStreets, dM "Quarter" "gates" "Quarter.gates" sQGates, dM "Quarter" "__eq__" "Quarter.__eq__" sQEq] ++ [⟨("InvalidQuarter", some "__init__"), "__init__", "InvalidQuarter.__init__", defArgs (inClass (top 4) 0), defBody (inClass (top 4) 0), defScope (inClass (top 4) 0), [.non], []⟩, ⟨("InvalidChange", some "__init__"), "__init__", "InvalidChange.__init__", defArgs (inClass (top 6) 0), defBody (inClass (top 6) 0), defScope (inClass (top 6) 0), [.non], []⟩, ⟨("InvalidChanges", some "__init__"), "__init__", "InvalidChanges.__init__", defArgs (inClass (top 7) 0), defBody (inClass (top 7) 0), defScope (inClass (top 7) 0), [.non], []⟩]
abbrev Al : Type := Bool × List He.FnW
def obsK (K : PySem.W.Frag) : Al := (chk K && fn.all fun d => d.ok K, fn.map fun d => He.fnW K d.at_)
def valK : Al := (true, fn.map He.DefD.val)
def Says (K : PySem.W.Frag) : Prop := obsK K = valK
def obsN (g : Addr → Option Obj) : Al := obsK (He.frG g (sysModules :: He.asD g 5))
abbrev hk : PySem.W.Hook where
  α := Al
  obs := fun s => obsN s.heap.get?
  val := fun _ => valK
  says := fun _ h => ∃ K : PySem.W.Frag, K.In h ∧ Says K
  of := fun _ _ e => ⟨_, He.frG_in, e⟩
  keeps := fun _ _ _ ⟨K, hK, c⟩ k => ⟨K, PySem.W.Frag.In.keeps hK k, c⟩
def ob (s : PySem.W.SharedT) : Al := obsN (HandSHeadRun.getT s)
theorem ob_eq (s : PySem.W.SharedT) : ob s = hk.obs s.abs := by
  have e : HandSHeadRun.getT s = s.abs.heap.get? := funext (HandSHeadRun.getT_eq s)
  show obsN (HandSHeadRun.getT s) = obsN s.abs.heap.get?
  rw [e]
section
variable {K : PySem.W.Frag}
theorem Says.chk (c : Says K) : chk K = true := (He.ba (show (K4.chk K && fn.all fun d => d.ok K) = true from congrArg (fun z : Al => z.1) c)).1
theorem Says.def_ (c : Says K) (i : Nat) {d : He.DefD} (h : fn[i]? = some d := by rfl) : ∃ fd, FunD K d.name d.qual d.params d.body d.scope (d.dvs K) (d.kws K) (He.fAd K d.at_) fd := by
  have c2 := (He.ba (show (K4.chk K && fn.all fun d => d.ok K) = true from congrArg (fun z : Al => z.1) c)).2
  have e : fn.map (fun d => He.fnW K d.at_) = fn.map He.DefD.val := congrArg (fun z : Al => z.2) c
  have e2 : (fn.map fun d => He.fnW K d.at_)[i]? = (fn.map He.DefD.val)[i]? := by rw [e]
  rw [List.getElem?_map, List.getElem?_map, h] at e2
  exact He.DefD.funD (Option.some.inj e2) (List.all_eq_true.mp c2 d (List.mem_of_getElem? h))
theorem tx_of {h : Heap} {mg : Str → Option Value} (X : K.In h) (G : h.Ns mainGlobals mg) (c : chk K = true) :
    Tx K mg ∧ (∀ x ∈ defs, mg x = some (.ref (He.ga K x))) ∧ Klz K mg (qA K) (He.ma K (qA K) "__init__") (He.ma K (qA K) "__eq__") (He.ma K (qA K) "streets") (He.ma K (qA K) "gates") ∧
    (∀ x ∈ ers, mg x = some (.ref (He.ga K x)) ∧ ExcC K (He.ga K x) ∧ XfC K (He.ga K x) ∧ XvC K (He.ga K x) (He.ma K (He.ga K x) "__init__")) ∧
    (∀ T ∈ (["list", "tuple", "dict", "bool"] : List String), PySem.W.kitOne K (.ref (qA K)) (.type T) = some false) ∧ xtB K = true := by
  obtain ⟨c0, c⟩ := He.ba c
  obtain ⟨e1, c0⟩ := He.ba c0
  obtain ⟨e2, e3⟩ := He.ba c0
  obtain ⟨c1, c⟩ := He.ba c
  obtain ⟨c2, c⟩ := He.ba c
  obtain ⟨c3, c4⟩ := He.ba c
  obtain ⟨k1, k⟩ := He.ba c1
  obtain ⟨k2, k⟩ := He.ba k
  obtain ⟨k3, k4⟩ := He.ba k
  refine ⟨⟨fun x hx => PySem.W.mg_none_of X G (He.eqO_ok (List.all_eq_true.mp c3 x hx))⟩, fun x hx => PySem.W.mg_of X G (He.eqO_ok (List.all_eq_true.mp c4 x hx)), ?_, fun x hx => ?_, fun T hT => ?_, e3⟩
  · exact ⟨oneB_ok k1, PySem.W.mg_of X G (He.eqO_ok k2), metB_ok k3, metB_ok k4⟩
  · obtain ⟨r1, r2⟩ := He.ba (List.all_eq_true.mp e1 x hx)
    exact ⟨PySem.W.mg_of X G (He.eqO_ok r1), H5.erB_ok r2⟩
  · exact of_decide_eq_true (List.all_eq_true.mp e2 T hT)
end
end K4
end
section
set_option Elab.async false
set_option linter.all false
set_option maxRecDepth 100000
set_option maxHeartbeats 4000000
namespace K4
open PySem PySem.Spec PyProof.Rows L2 H3 H4
section
variable {P : Program} {w : World} {K : PySem.W.Frag} {mg : Str → Option Value} {base : Heap}
theorem fz_of {x : Str} {st : Stmt} {ps : List Str} {k : Nat} {sp : Sp} {fd : FuncData} (F : FnP K x st (He.ga K x) fd) (ok : FnOk P w K mg base CX0 k (He.ga K x) fd ps sp) (hm : mg x = some (.ref (He.ga K x)))
    (h : ∀ (kV doc pm : Value) (an : Option Addr) (cdv ct : Value) (us : List Value), us.length = ps.length → bindArgs (PySem.W.fnOf x x (defArgs st) (defBody st) (defScope st) .none kV doc pm an cdv ct) ⟨us, []⟩ = pure (ps.zip us)) : Fz P w K mg base x k ps sp :=
  ⟨_, _, ok, hm, F.kp, F.bindsN h⟩
theorem fzX_of {x : Str} {st : Stmt} {ps : List Str} {k : Nat} {sp : Sp} {fd : FuncData} (F : FnP K x st (He.ga K x) fd) (ok : FnOk P w K mg base (L2.CX P w) k (He.ga K x) fd ps sp) (hm : mg x = some (.ref (He.ga K x)))
    (h : ∀ (kV doc pm : Value) (an : Option Addr) (cdv ct : Value) (us : List Value), us.length = ps.length → bindArgs (PySem.W.fnOf x x (defArgs st) (defBody st) (defScope st) .none kV doc pm an cdv ct) ⟨us, []⟩ = pure (ps.zip us)) : FzX P w K mg base x k ps sp :=
  ⟨_, _, ok, hm, F.kp, F.bindsN h⟩
theorem mz_of {C : Addr} {m q : Str} {st : Stmt} {k : Nat} {sp : Sp} {fd : FuncData} (c : Cls K C) (M : Meth K C m (He.ma K C m)) (F : FnM K m q st (He.ma K C m) fd) (ok : FnOk P w K mg base CX0 k (He.ma K C m) fd ["self"] sp)
    (h : ∀ (kV doc pm : Value) (an : Option Addr) (cdv ct : Value) (us : List Value), us.length = 1 → bindArgs (PySem.W.fnOf m q (defArgs st) (defBody st) (defScope st) .none kV doc pm an cdv ct) ⟨us, []⟩ = pure ((["self"] : List Str).zip us)) : Mz P w K mg base C m k sp :=
  ⟨c, _, _, M, ok, F.bindsN h⟩
theorem env_of (c : Says K) {h : Heap} (X : K.In h) (G : h.Ns mainGlobals mg) : LawE P w K mg base (qA K) := by
  obtain ⟨T, gl, Z, er, kq, xt⟩ := tx_of X G c.chk
  have g : ∀ {x : Str}, x ∈ defs → mg x = some (.ref (He.ga K x)) := fun h => gl _ h
  obtain ⟨f0, F0⟩ := c.def_ 0 (d := dF "is_whole" sWhole)
  obtain ⟨f1, F1⟩ := c.def_ 1 (d := dF "is_count" sCount)
  obtain ⟨f2, F2⟩ := c.def_ 2 (d := dF "is_word" sIsWord)
  obtain ⟨f3, F3⟩ := c.def_ 3 (d := dF "is_street" sIsStreet)
  obtain ⟨f4, F4⟩ := c.def_ 4 (d := dF "are_streets" sAreStreets)
  obtain ⟨f5, F5⟩ := c.def_ 5 (d := dF "check_streets" sChkStreets)
  obtain ⟨f6, F6⟩ := c.def_ 6 (d := dF "are_gates" sAreGates)
  obtain ⟨f7, F7⟩ := c.def_ 7 (d := dF "check_gates" sChkGates)
  obtain ⟨f8, F8⟩ := c.def_ 8 (d := dF "check_quarter" sChkQuarter)
  obtain ⟨f9, F9⟩ := c.def_ 9 (d := dF "ends_of" sEndsOf)
  obtain ⟨f10, F10⟩ := c.def_ 10 (d := dF "crossings_of" sCrossings)
  obtain ⟨f11, F11⟩ := c.def_ 11 (d := dF "street_of" sStreetOf)
  obtain ⟨f12, F12⟩ := c.def_ 12 (d := dF "is_change" sIsChange)
  obtain ⟨f13, F13⟩ := c.def_ 13 (d := dF "are_changes_by_form" sAreChF)
  obtain ⟨f14, F14⟩ := c.def_ 14 (d := dF "_altered" sAltered)
  obtain ⟨f15, F15⟩ := c.def_ 15 (d := dF "_changed_streets" sChangedS)
  obtain ⟨f16, F16⟩ := c.def_ 16 (d := dF "fitted" sFitted)
  obtain ⟨f17, F17⟩ := c.def_ 17 (d := dF "changed" sChanged)
  obtain ⟨f18, F18⟩ := c.def_ 18 (d := dF "changed_by" sChangedBy)
  obtain ⟨f19, F19⟩ := c.def_ 19 (d := dF "_law_purse" sPurse)
  obtain ⟨f20, F20⟩ := c.def_ 20 (d := dF "_law_mixed" sMixed)
  obtain ⟨f21, F21⟩ := c.def_ 21 (d := dF "_law_draw" sDraw)
  obtain ⟨f22, F22⟩ := c.def_ 22 (d := dF "_law_purses" sPurses)
  obtain ⟨f23, F23⟩ := c.def_ 23 (d := dF "_law_one_of" sOneOf)
  obtain ⟨f24, F24⟩ := c.def_ 24 (d := dF "_law_shuffled" sShuffled)
  obtain ⟨f25, F25⟩ := c.def_ 25 (d := dF "_law_exact" sExact)
  obtain ⟨f26, F26⟩ := c.def_ 26 (d := dF "_law_word" sWord)
  obtain ⟨f27, F27⟩ := c.def_ 27 (d := dF "_law_words" sWords)
  obtain ⟨f28, F28⟩ := c.def_ 28 (d := dF "_law_width" sWidth)
  obtain ⟨f29, F29⟩ := c.def_ 29 (d := dF "_law_length" sLength)
  obtain ⟨f30, F30⟩ := c.def_ 30 (d := dF "_law_pair" sPair)
  obtain ⟨f31, F31⟩ := c.def_ 31 (d := dF "_law_shape" sShape)
  obtain ⟨f32, F32⟩ := c.def_ 32 (d := dF "_law_streets_of" sStreetsOf)
  obtain ⟨f33, F33⟩ := c.def_ 33 (d := dF "_law_world" sWorld)
  obtain ⟨f34, F34⟩ := c.def_ 34 (d := dF "_law_quarter" sQuarter)
  obtain ⟨f35, F35⟩ := c.def_ 35 (d := dF "_law_stepped" sStepped)
  obtain ⟨f36, F36⟩ := c.def_ 36 (d := dF "_law_change" sChange)
  obtain ⟨f37, F37⟩ := c.def_ 37 (d := dF "_law_drawn_list" sDrawn)
  obtain ⟨f38, F38⟩ := c.def_ 38 (d := dF "_law_made_lists" sMadeLists)
  obtain ⟨f39, F39⟩ := c.def_ 39 (d := dF "_law_due" sDue)
  obtain ⟨f40, F40⟩ := c.def_ 40 (d := dF "_law_told" sTold)
  obtain ⟨f41, F41⟩ := c.def_ 41 (d := dF "_law_very" sVery)
  obtain ⟨f42, F42⟩ := c.def_ 42 (d := dF "_law_list_right" sListRight)
  obtain ⟨f43, F43⟩ := c.def_ 43 (d := dF "_law_bad_changes" sBad)
  obtain ⟨f44, F44⟩ := c.def_ 44 (d := dF "_law_refused_right" sRefused)
  obtain ⟨m0, M0⟩ := c.def_ 46 (d := dM "Quarter" "__init__" "Quarter.__init__" sQInit)
  obtain ⟨m1, M1⟩ := c.def_ 47 (d := dM "Quarter" "streets" "Quarter.streets" sQStreets)
  obtain ⟨m2, M2⟩ := c.def_ 48 (d := dM "Quarter" "gates" "Quarter.gates" sQGates)
  obtain ⟨m3, M3⟩ := c.def_ 49 (d := dM "Quarter" "__eq__" "Quarter.__eq__" sQEq)
  obtain ⟨x0, X0⟩ := c.def_ 50 (d := ⟨("InvalidQuarter", some "__init__"), "__init__", "InvalidQuarter.__init__", defArgs (inClass (top 4) 0), defBody (inClass (top 4) 0), defScope (inClass (top 4) 0), [.non], []⟩)
  obtain ⟨x1, X1⟩ := c.def_ 51 (d := ⟨("InvalidChange", some "__init__"), "__init__", "InvalidChange.__init__", defArgs (inClass (top 6) 0), defBody (inClass (top 6) 0), defScope (inClass (top 6) 0), [.non], []⟩)
  obtain ⟨x2, X2⟩ := c.def_ 52 (d := ⟨("InvalidChanges", some "__init__"), "__init__", "InvalidChanges.__init__", defArgs (inClass (top 7) 0), defBody (inClass (top 7) 0), defScope (inClass (top 7) 0), [.non], []⟩)
  have F0 : FnP K "is_whole" sWhole (He.ga K "is_whole") f0 := F0
  have F1 : FnP K "is_count" sCount (He.ga K "is_count") f1 := F1
  have F2 : FnP K "is_word" sIsWord (He.ga K "is_word") f2 := F2
  have F3 : FnP K "is_street" sIsStreet (He.ga K "is_street") f3 := F3
  have F4 : FnP K "are_streets" sAreStreets (He.ga K "are_streets") f4 := F4
  have F5 : FnP K "check_streets" sChkStreets (He.ga K "check_streets") f5 := F5
  have F6 : FnP K "are_gates" sAreGates (He.ga K "are_gates") f6 := F6
  have F7 : FnP K "check_gates" sChkGates (He.ga K "check_gates") f7 := F7
  have F8 : FnP K "check_quarter" sChkQuarter (He.ga K "check_quarter") f8 := F8
  have F9 : FnP K "ends_of" sEndsOf (He.ga K "ends_of") f9 := F9
  have F10 : FnP K "crossings_of" sCrossings (He.ga K "crossings_of") f10 := F10
  have F11 : FnP K "street_of" sStreetOf (He.ga K "street_of") f11 := F11
  have F12 : FnP K "is_change" sIsChange (He.ga K "is_change") f12 := F12
  have F13 : FnP K "are_changes_by_form" sAreChF (He.ga K "are_changes_by_form") f13 := F13
  have F14 : FnP K "_altered" sAltered (He.ga K "_altered") f14 := F14
  have F15 : FnP K "_changed_streets" sChangedS (He.ga K "_changed_streets") f15 := F15
  have F16 : FnP K "fitted" sFitted (He.ga K "fitted") f16 := F16
  have F17 : FnP K "changed" sChanged (He.ga K "changed") f17 := F17
  have F18 : FnP K "changed_by" sChangedBy (He.ga K "changed_by") f18 := F18
  have F19 : FnP K "_law_purse" sPurse (He.ga K "_law_purse") f19 := F19
  have F20 : FnP K "_law_mixed" sMixed (He.ga K "_law_mixed") f20 := F20
  have F21 : FnP K "_law_draw" sDraw (He.ga K "_law_draw") f21 := F21
  have F22 : FnP K "_law_purses" sPurses (He.ga K "_law_purses") f22 := F22
  have F23 : FnP K "_law_one_of" sOneOf (He.ga K "_law_one_of") f23 := F23
  have F24 : FnP K "_law_shuffled" sShuffled (He.ga K "_law_shuffled") f24 := F24
  have F25 : FnP K "_law_exact" sExact (He.ga K "_law_exact") f25 := F25
  have F26 : FnP K "_law_word" sWord (He.ga K "_law_word") f26 := F26
  have F27 : FnP K "_law_words" sWords (He.ga K "_law_words") f27 := F27
  have F28 : FnP K "_law_width" sWidth (He.ga K "_law_width") f28 := F28
  have F29 : FnP K "_law_length" sLength (He.ga K "_law_length") f29 := F29
  have F30 : FnP K "_law_pair" sPair (He.ga K "_law_pair") f30 := F30
  have F31 : FnP K "_law_shape" sShape (He.ga K "_law_shape") f31 := F31
  have F32 : FnP K "_law_streets_of" sStreetsOf (He.ga K "_law_streets_of") f32 := F32
  have F33 : FnP K "_law_world" sWorld (He.ga K "_law_world") f33 := F33
  have F34 : FnP K "_law_quarter" sQuarter (He.ga K "_law_quarter") f34 := F34
  have F35 : FnP K "_law_stepped" sStepped (He.ga K "_law_stepped") f35 := F35
  have F36 : FnP K "_law_change" sChange (He.ga K "_law_change") f36 := F36
  have F37 : FnP K "_law_drawn_list" sDrawn (He.ga K "_law_drawn_list") f37 := F37
  have F38 : FnP K "_law_made_lists" sMadeLists (He.ga K "_law_made_lists") f38 := F38
  have F39 : FnP K "_law_due" sDue (He.ga K "_law_due") f39 := F39
  have F40 : FnP K "_law_told" sTold (He.ga K "_law_told") f40 := F40
  have F41 : FnP K "_law_very" sVery (He.ga K "_law_very") f41 := F41
  have F42 : FnP K "_law_list_right" sListRight (He.ga K "_law_list_right") f42 := F42
  have F43 : FnP K "_law_bad_changes" sBad (He.ga K "_law_bad_changes") f43 := F43
  have F44 : FnP K "_law_refused_right" sRefused (He.ga K "_law_refused_right") f44 := F44
  have M0 : FnM K "__init__" "Quarter.__init__" sQInit (He.ma K (qA K) "__init__") m0 := M0
  have M1 : FnM K "streets" "Quarter.streets" sQStreets (He.ma K (qA K) "streets") m1 := M1
  have M2 : FnM K "gates" "Quarter.gates" sQGates (He.ma K (qA K) "gates") m2 := M2
  have M3 : FnM K "__eq__" "Quarter.__eq__" sQEq (He.ma K (qA K) "__eq__") m3 := M3
  have X0 : FunD K "__init__" "InvalidQuarter.__init__" (defArgs (inClass (top 4) 0)) (defBody (inClass (top 4) 0)) (defScope (inClass (top 4) 0)) [.non] [] (He.ma K (He.ga K "InvalidQuarter") "__init__") x0 := X0
  obtain ⟨eg0, ee0, ef0, ev0⟩ := er "InvalidQuarter" (by decide +kernel)
  obtain ⟨io0, ib0⟩ := H5.ini_of (P := P) (w := w) (mg := mg) (base := base) X0 ⟨_, _, _, _, _, _, _, rfl, rfl, rfl⟩
  have XZ0 : Xz P w K mg base "InvalidQuarter" (He.ga K "InvalidQuarter") := ⟨_, _, ⟨eg0, ev0, ef0, ee0⟩, io0, ib0⟩
  have X1 : FunD K "__init__" "InvalidChange.__init__" (defArgs (inClass (top 6) 0)) (defBody (inClass (top 6) 0)) (defScope (inClass (top 6) 0)) [.non] [] (He.ma K (He.ga K "InvalidChange") "__init__") x1 := X1
  obtain ⟨eg1, ee1, ef1, ev1⟩ := er "InvalidChange" (by decide +kernel)
  obtain ⟨io1, ib1⟩ := H5.ini_of (P := P) (w := w) (mg := mg) (base := base) X1 ⟨_, _, _, _, _, _, _, rfl, rfl, rfl⟩
  have XZ1 : Xz P w K mg base "InvalidChange" (He.ga K "InvalidChange") := ⟨_, _, ⟨eg1, ev1, ef1, ee1⟩, io1, ib1⟩
  have X2 : FunD K "__init__" "InvalidChanges.__init__" (defArgs (inClass (top 7) 0)) (defBody (inClass (top 7) 0)) (defScope (inClass (top 7) 0)) [.non] [] (He.ma K (He.ga K "InvalidChanges") "__init__") x2 := X2
  obtain ⟨eg2, ee2, ef2, ev2⟩ := er "InvalidChanges" (by decide +kernel)
  obtain ⟨io2, ib2⟩ := H5.ini_of (P := P) (w := w) (mg := mg) (base := base) X2 ⟨_, _, _, _, _, _, _, rfl, rfl, rfl⟩
  have XZ2 : Xz P w K mg base "InvalidChanges" (He.ga K "InvalidChanges") := ⟨_, _, ⟨eg2, ev2, ef2, ee2⟩, io2, ib2⟩
  have GD : FnOk P w K mg base CX0 2 (He.ga K "_law_draw") f21 ["_law_purse_here", "_law_many"] spDraw := ok_draw F21 F20 (g (by decide +kernel)) T
  have ZD : DrawZ P w K mg base := fz_of F21 (GD) (g (by decide +kernel)) fun _ _ _ _ _ _ us hl => match us, hl with | [_, _], _ => rfl
  have ZPu : Fz P w K mg base "_law_purses" 2 ["_law_script", "_law_few"] (spPurses K) := fz_of F22 (ok_purses F22 F19 (g (by decide +kernel)) T) (g (by decide +kernel)) fun _ _ _ _ _ _ us hl => match us, hl with | [_, _], _ => rfl
  have ZO : OneZ P w K mg base := fz_of F23 (ok_oneOf F23 GD F21 (g (by decide +kernel)) T) (g (by decide +kernel)) fun _ _ _ _ _ _ us hl => match us, hl with | [_, _], _ => rfl
  have ZSh : Fz P w K mg base "_law_shuffled" 3 ["_law_purse_here", "_law_some"] spShuffled := fz_of F24 (ok_shuffled F24 ZD T) (g (by decide +kernel)) fun _ _ _ _ _ _ us hl => match us, hl with | [_, _], _ => rfl
  have bE : Binds K f25 ["_law_one", "_law_other"] [] := F25.bindsN fun _ _ _ _ _ _ us hl => match us, hl with | [_, _], _ => rfl
  have ZE : Fz P w K mg base "_law_exact" 7 ["_law_one", "_law_other"] (spExact 6) := ⟨_, _, ok_exact F25 (g (by decide +kernel)) F25.kp bE T 6, g (by decide +kernel), F25.kp, bE⟩
  have ZW : WordZ P w K mg base := fz_of F26 (ok_word F26 GD F21 (g (by decide +kernel)) T) (g (by decide +kernel)) fun _ _ _ _ _ _ us hl => match us, hl with | [_], _ => rfl
  have ZWs : Fz P w K mg base "_law_words" 4 ["_law_purse_here", "_law_many"] spWords := fz_of F27 (ok_words F27 ZD ZW T) (g (by decide +kernel)) fun _ _ _ _ _ _ us hl => match us, hl with | [_, _], _ => rfl
  have ZWi : WidthZ P w K mg base := fz_of F28 (ok_width F28 ZO) (g (by decide +kernel)) fun _ _ _ _ _ _ us hl => match us, hl with | [_], _ => rfl
  have ZLe : LengthZ P w K mg base := fz_of F29 (ok_length F29 ZO) (g (by decide +kernel)) fun _ _ _ _ _ _ us hl => match us, hl with | [_], _ => rfl
  have ZPa : PairZ P w K mg base := fz_of F30 (ok_pair F30 ZO) (g (by decide +kernel)) fun _ _ _ _ _ _ us hl => match us, hl with | [_, _], _ => rfl
  have ZSp : Fz P w K mg base "_law_shape" 3 ["_law_purse_here", "_law_gates", "_law_inner"] spShape := fz_of F31 (ok_shape F31 ZD T) (g (by decide +kernel)) fun _ _ _ _ _ _ us hl => match us, hl with | [_, _, _], _ => rfl
  have ZSt : Fz P w K mg base "_law_streets_of" 5 ["_law_purse_here", "_law_crossings", "_law_names", "_law_pairs", "_law_many"] spStreetsOf := fz_of F32 (ok_streetsOf F32 ZD ZO ZPa ZWi ZLe T) (g (by decide +kernel)) fun _ _ _ _ _ _ us hl => match us, hl with | [_, _, _, _, _], _ => rfl
  have ZWo : Fz P w K mg base "_law_world" 6 ["_law_purse_here", "_law_gates", "_law_inner", "_law_most"] spWorld := fz_of F33 (ok_world F33 ZD ZWs ZSh ZSp ZSt T) (g (by decide +kernel)) fun _ _ _ _ _ _ us hl => match us, hl with | [_, _, _, _], _ => rfl
  have ZWh : Fz P w K mg base "is_whole" 1 ["value"] spIsWhole := fz_of F0 (ok_isWhole F0 T) (g (by decide +kernel)) fun _ _ _ _ _ _ us hl => match us, hl with | [_], _ => rfl
  have ZC : Fz P w K mg base "is_count" 2 ["value"] spIsCount := fz_of F1 (ok_isCount F1 ZWh T) (g (by decide +kernel)) fun _ _ _ _ _ _ us hl => match us, hl with | [_], _ => rfl
  have ZIw : Fz P w K mg base "is_word" 1 ["value"] spIsWord := fz_of F2 (ok_isWord F2 T) (g (by decide +kernel)) fun _ _ _ _ _ _ us hl => match us, hl with | [_], _ => rfl
  have ZIs : Fz P w K mg base "is_street" 3 ["value"] spIsStreet := fz_of F3 (ok_isStreet F3 ZC ZIw T) (g (by decide +kernel)) fun _ _ _ _ _ _ us hl => match us, hl with | [_], _ => rfl
  have ZAs : Fz P w K mg base "are_streets" 4 ["value"] (spAreStreets K) := fz_of F4 (ok_areStreets F4 ZIs T) (g (by decide +kernel)) fun _ _ _ _ _ _ us hl => match us, hl with | [_], _ => rfl
  have ZCs : Fz P w K mg base "check_streets" 5 ["value"] (spChkStreets K) := fz_of F5 (ok_chkStreets F5 ZAs T) (g (by decide +kernel)) fun _ _ _ _ _ _ us hl => match us, hl with | [_], _ => rfl
  have ZAg : Fz P w K mg base "are_gates" 2 ["value"] spAreGates := fz_of F6 (ok_areGates F6 ZIw T) (g (by decide +kernel)) fun _ _ _ _ _ _ us hl => match us, hl with | [_], _ => rfl
  have ZCg : Fz P w K mg base "check_gates" 3 ["value"] spChkGates := fz_of F7 (ok_chkGates F7 ZAg T) (g (by decide +kernel)) fun _ _ _ _ _ _ us hl => match us, hl with | [_], _ => rfl
  have MQ : MkQ P w K mg base (qA K) := mkQ_of M0 Z.q.mkr Z.mQ (ok_qInit M0 Z.q ZCs ZCg T)
  have QS : Mz P w K mg base (qA K) "streets" 1 (spFld (qA K) "_streets") := mz_of Z.q.cl Z.qs M1 (ok_qStreets M1 Z.q T) fun _ _ _ _ _ _ us hl => match us, hl with | [_], _ => rfl
  have QG : Mz P w K mg base (qA K) "gates" 1 (spFld (qA K) "_gates") := mz_of Z.q.cl Z.qg M2 (ok_qGates M2 Z.q T) fun _ _ _ _ _ _ us hl => match us, hl with | [_], _ => rfl
  have EZ : EqZ P w K mg base (qA K) := ⟨_, _, _, _, _, Z, ok_qEq M3 Z T, FunD.bindsN M3 fun _ _ _ _ _ _ us hl => match us, hl with | [_, _], _ => rfl⟩
  have MS : Ms P w K mg base (qA K) := ⟨QS, QG, MQ⟩
  have kQ : KQ K (qA K) := ⟨kq "list" (by decide), kq "tuple" (by decide), kq "dict" (by decide), kq "bool" (by decide)⟩
  have ZEs : Fz P w K mg base "_law_exact" 7 ["_law_one", "_law_other"] (spSame (qA K) 5) := ⟨_, _, ok_same F25 (g (by decide +kernel)) F25.kp bE Z.q kQ EZ T 5, g (by decide +kernel), F25.kp, bE⟩
  have ZCq : Fz P w K mg base "check_quarter" 1 ["value"] (spIns (qA K)) := fz_of F8 (ok_chkQ F8 Z.q Z.mQ T) (g (by decide +kernel)) fun _ _ _ _ _ _ us hl => match us, hl with | [_], _ => rfl
  have ZEo : Fz P w K mg base "ends_of" 1 ["streets"] spEndsOf := fz_of F9 (ok_endsOf F9 T) (g (by decide +kernel)) fun _ _ _ _ _ _ us hl => match us, hl with | [_], _ => rfl
  have MC : Mc P w K mg base (qA K) := ⟨QS, QG, ZCq, ZEo⟩
  have ZCr : Fz P w K mg base "crossings_of" 2 ["quarter"] (spCross (qA K)) := fz_of F10 (ok_cross F10 MC T) (g (by decide +kernel)) fun _ _ _ _ _ _ us hl => match us, hl with | [_], _ => rfl
  have ZSo : Fz P w K mg base "street_of" 2 ["quarter", "name"] (spStreetOf (qA K)) := fz_of F11 (ok_streetOf F11 MC T) (g (by decide +kernel)) fun _ _ _ _ _ _ us hl => match us, hl with | [_, _], _ => rfl
  have ZWhO : Fz P w K mg base "is_whole" 1 ["value"] spIsWholeO := fz_of F0 (ok_isWholeO F0 T) (g (by decide +kernel)) fun _ _ _ _ _ _ us hl => match us, hl with | [_], _ => rfl
  have ZCO : Fz P w K mg base "is_count" 2 ["value"] spIsCountO := fz_of F1 (ok_isCountO F1 ZWhO T) (g (by decide +kernel)) fun _ _ _ _ _ _ us hl => match us, hl with | [_], _ => rfl
  have ZIwO : Fz P w K mg base "is_word" 1 ["value"] spIsWordO := fz_of F2 (ok_isWordO F2 T) (g (by decide +kernel)) fun _ _ _ _ _ _ us hl => match us, hl with | [_], _ => rfl
  have ZIsO : Fz P w K mg base "is_street" 3 ["value"] spIsStreetO := fz_of F3 (ok_isStreetO F3 ZCO ZIwO T) (g (by decide +kernel)) fun _ _ _ _ _ _ us hl => match us, hl with | [_], _ => rfl
  have ZIcO : Fz P w K mg base "is_change" 4 ["value"] spIsChangeO := fz_of F12 (ok_isChangeO F12 ZCO ZIwO ZIsO T) (g (by decide +kernel)) fun _ _ _ _ _ _ us hl => match us, hl with | [_], _ => rfl
  have ZACh : Fz P w K mg base "are_changes_by_form" 5 ["value"] (spAreCh (qA K)) := fz_of F13 (ok_areCh F13 Z.q kQ.l ZIcO T) (g (by decide +kernel)) fun _ _ _ _ _ _ us hl => match us, hl with | [_], _ => rfl
  have ZCqX : FzX P w K mg base "check_quarter" 3 ["value"] (spChkQ (qA K) (He.ga K "InvalidQuarter")) := fzX_of F8 (ok_chkQX F8 Z.q Z.mQ XZ0 T) (g (by decide +kernel)) fun _ _ _ _ _ _ us hl => match us, hl with | [_], _ => rfl
  have ZAl : Fz P w K mg base "_altered" 1 ["street", "change"] spAlt := fz_of F14 (ok_alt F14) (g (by decide +kernel)) fun _ _ _ _ _ _ us hl => match us, hl with | [_, _], _ => rfl
  have ZCh : Fz P w K mg base "_changed_streets" 2 ["streets", "change"] spChgS := fz_of F15 (ok_chgS F15 ZAl T) (g (by decide +kernel)) fun _ _ _ _ _ _ us hl => match us, hl with | [_, _], _ => rfl
  have ZFi : Fz P w K mg base "fitted" 8 ["quarter", "change"] (spFitted (qA K)) := fz_of F16 (ok_fitted F16 MS ZCh) (g (by decide +kernel)) fun _ _ _ _ _ _ us hl => match us, hl with | [_, _], _ => rfl
  have ZCd : FzX P w K mg base "changed" 9 ["quarter", "change"] (spChanged (qA K) (He.ga K "InvalidQuarter") (He.ga K "InvalidChange")) := fzX_of F17 (ok_changed F17 ZCqX ZIcO ZFi XZ1) (g (by decide +kernel)) fun _ _ _ _ _ _ us hl => match us, hl with | [_, _], _ => rfl
  have ZBy : FzX P w K mg base "changed_by" 10 ["quarter", "changes"] (spChangedBy (qA K) (He.ga K "InvalidQuarter") (He.ga K "InvalidChange") (He.ga K "InvalidChanges")) := fzX_of F18 (ok_changedBy F18 ZCqX ZACh ZCd XZ2) (g (by decide +kernel)) fun _ _ _ _ _ _ us hl => match us, hl with | [_, _], _ => rfl
  have ZLq : Fz P w K mg base "_law_quarter" 8 ["_law_world_here"] (spLQuarter (qA K)) := fz_of F34 (ok_lQuarter F34 MQ T) (g (by decide +kernel)) fun _ _ _ _ _ _ us hl => match us, hl with | [_], _ => rfl
  have ZStp : Fz P w K mg base "_law_stepped" 1 ["_law_streets", "_law_change_here"] spStep := fz_of F35 (ok_step F35 T) (g (by decide +kernel)) fun _ _ _ _ _ _ us hl => match us, hl with | [_, _], _ => rfl
  have ZChg : Fz P w K mg base "_law_change" 5 ["_law_purse_here", "_law_world_here", "_law_streets"] spChange := fz_of F36 (ok_change F36 ZD ZO ZPa ZWi ZLe T) (g (by decide +kernel)) fun _ _ _ _ _ _ us hl => match us, hl with | [_, _, _], _ => rfl
  have ZDl : Fz P w K mg base "_law_drawn_list" 6 ["_law_purse_here", "_law_world_here"] spDrawn := fz_of F37 (ok_drawn F37 ZD ZChg ZStp T) (g (by decide +kernel)) fun _ _ _ _ _ _ us hl => match us, hl with | [_, _], _ => rfl
  have ZMl : Fz P w K mg base "_law_made_lists" 1 ["_law_world_here"] spMade := fz_of F38 (ok_made F38) (g (by decide +kernel)) fun _ _ _ _ _ _ us hl => match us, hl with | [_], _ => rfl
  have ZDu : Fz P w K mg base "_law_due" 2 ["_law_streets", "_law_gates", "_law_changes"] spDue := fz_of F39 (ok_due F39 ZStp T) (g (by decide +kernel)) fun _ _ _ _ _ _ us hl => match us, hl with | [_, _, _], _ => rfl
  obtain ⟨t1, xt⟩ := He.ba xt
  obtain ⟨t2, xt⟩ := He.ba xt
  obtain ⟨t3, xt⟩ := He.ba xt
  obtain ⟨t4, xt⟩ := He.ba xt
  obtain ⟨t5, xt⟩ := He.ba xt
  obtain ⟨t6, xt⟩ := He.ba xt
  obtain ⟨t7, xt⟩ := He.ba xt
  obtain ⟨t8, xt⟩ := He.ba xt
  obtain ⟨t9, xt⟩ := He.ba xt
  obtain ⟨t10, xt⟩ := He.ba xt
  obtain ⟨t11, t12⟩ := He.ba xt
  have XS : Xs K mg (He.ga K "InvalidQuarter") (He.ga K "InvalidChanges") (He.ga K "InvalidChange") (He.ga K "GateError") (He.ga K "InvalidStreets") :=
    ⟨PySem.W.mg_of X G (He.eqO_ok t1), PySem.W.mg_of X G (He.eqO_ok t2), of_decide_eq_true t3, of_decide_eq_true t4, of_decide_eq_true t5, of_decide_eq_true t6, of_decide_eq_true t7, of_decide_eq_true t8, of_decide_eq_true t9, of_decide_eq_true t10, of_decide_eq_true t11,
      of_decide_eq_true (List.all_eq_true.mp t12 (eI K) (by simp)), of_decide_eq_true (List.all_eq_true.mp t12 (eL K) (by simp)), of_decide_eq_true (List.all_eq_true.mp t12 (eC K) (by simp))⟩
  have ZTo : Fz P w K mg base "_law_told" 11 ["_law_way", "_law_quarter_here", "_law_value"] (spTold (qA K)) := fz_of F40 (ok_told F40 ZCd ZBy ZCr MC XZ0 XZ2 XZ1 XS T) (g (by decide +kernel)) fun _ _ _ _ _ _ us hl => match us, hl with | [_, _, _], _ => rfl
  have ZVy : Fz P w K mg base "_law_very" 8 ["_law_told_here", "_law_word_here", "_law_thing"] (spVery (qA K)) := fz_of F41 (ok_very F41 ZEs Z.q kQ T) (g (by decide +kernel)) fun _ _ _ _ _ _ us hl => match us, hl with | [_, _, _], _ => rfl
  have ZLR : Fz P w K mg base "_law_list_right" 12 ["_law_quarter_here", "_law_world_here", "_law_changes"] (spLR (qA K)) := fz_of F42 (ok_listRight F42 ZTo ZDu ZE MC T) (g (by decide +kernel)) fun _ _ _ _ _ _ us hl => match us, hl with | [_, _, _], _ => rfl
  have ZBa : Fz P w K mg base "_law_bad_changes" 1 [] (spBad (qA K)) := fz_of F43 (ok_bad F43 T) (g (by decide +kernel)) fun _ _ _ _ _ _ us hl => match us, hl with | [], _ => rfl
  have kC : FzXK P w K mg base "changed" 9 ["quarter", "change"] ["quarter", "change"] false (spChanged (qA K) (He.ga K "InvalidQuarter") (He.ga K "InvalidChange")) :=
    ⟨_, _, ok_changed F17 ZCqX ZIcO ZFi XZ1, g (by decide +kernel), F17.kp, kbN (n := 0) (ks := ["quarter", "change"]) F17 (fun us ws => us ++ rvs false ws) (fun r1 r2 => r1.append r2) (fun _ _ _ _ _ _ us ws h1 h2 => match us, ws, h1, h2 with | [], [_, _], _, _ => rfl)⟩
  have kB : FzXK P w K mg base "changed_by" 10 ["quarter", "changes"] ["changes", "quarter"] true (spChangedBy (qA K) (He.ga K "InvalidQuarter") (He.ga K "InvalidChange") (He.ga K "InvalidChanges")) :=
    ⟨_, _, ok_changedBy F18 ZCqX ZACh ZCd XZ2, g (by decide +kernel), F18.kp, kbN (n := 0) (ks := ["changes", "quarter"]) F18 (fun us ws => us ++ rvs true ws) (fun r1 r2 => r1.append r2.reverse) (fun _ _ _ _ _ _ us ws h1 h2 => match us, ws, h1, h2 with | [], [_, _], _, _ => rfl)⟩
  have ZRf : Fz P w K mg base "_law_refused_right" 12 ["_law_purse_here", "_law_quarter_here", "_law_world_here"] (spRef (qA K)) := fz_of F44 (ok_ref F44 ⟨ZBa, ZVy, ZTo, ZD, T⟩ ⟨kC, kB, ZBy, ZSo, EZ⟩) (g (by decide +kernel)) fun _ _ _ _ _ _ us hl => match us, hl with | [_, _, _], _ => rfl
  exact ⟨T, ZPu, ZD, ZWo, ZLq, ZDl, ZMl, ZSh, ZLR, ZRf⟩
theorem facts {h : Heap} {f : Addr} (X : K.In h) (G : h.Ns mainGlobals mg) (hfa : mg ("law" : Str) = some (.ref f)) (c : Says K) :
    ∃ fd : FuncData, (∀ (s : Shared) (v : Value), BindsTo s fd ⟨[v], []⟩ [("_law_script", v)]) ∧ ∀ base : Heap, FnOk P w K mg base CX0 13 f fd ["_law_script"] (spLaw K) := by
  obtain ⟨T, gl, Z, _⟩ := tx_of X G c.chk
  obtain ⟨fd, F⟩ := c.def_ 45 (d := dF "law" sLaw)
  have F : FnP K "law" sLaw (He.ga K "law") fd := F
  have e := hfa.symm.trans (gl "law" (by decide +kernel))
  cases e
  have b := FunD.bindsA (ps := ["_law_script"]) F fun _ _ _ _ _ _ us hl => match us, hl with | [_], _ => rfl
  exact ⟨fd, fun s v => b s [v] rfl, fun base => ok_law F (env_of c X G)⟩
end
end K4
end
section
set_option Elab.async false
set_option linter.all false
set_option maxRecDepth 100000
set_option maxHeartbeats 0
namespace K4
open PySem PySem.W PySem.Calls PyProof.Rows
abbrev R : OpenRow := OpenLaw.row PySem.Challenge.rw_gatequarters_k04_whole_changes
def n1 : List PySem.Str := ["GateError", "InvalidStreets", "InvalidGates", "InvalidQuarter", "InvalidName", "InvalidChange", "InvalidChanges", "is_whole", "is_count", "is_word", "is_street", "are_streets", "check_streets", "are_gates", "check_gates", "Quarter", "check_quarter"]
def n2 : List PySem.Str := ["ends_of", "crossings_of", "street_of", "is_change", "are_changes_by_form", "_altered", "_changed_streets", "fitted", "changed", "changed_by", "_law_purse", "_law_mixed", "_law_draw", "_law_purses", "_law_one_of", "_law_shuffled", "_law_exact"]
def n3 : List PySem.Str := ["_law_word", "_law_words", "_law_width", "_law_length", "_law_pair", "_law_shape", "_law_streets_of", "_law_world", "_law_quarter", "_law_stepped", "_law_change", "_law_drawn_list", "_law_made_lists", "_law_due", "_law_told", "_law_very", "_law_list_right", "_law_bad_changes", "_law_refused_right"]
def names : List PySem.Str := n1 ++ n2 ++ n3
abbrev qv : Program := view R.prog [57]
theorem run (w : World) : HandSHeadRun.RunEq R qv hk ob 12000 names w := by
  intro os
  kernel_rfl
end K4
end
section
open PySem PySem.W PySem.Calls PyProof.Rows
set_option Elab.async false
set_option linter.all false
set_option maxRecDepth 100000
set_option maxHeartbeats 0
theorem PySem.Challenge.cw_gatequarters_k04_whole_changes_holds : PySem.Challenge.rw_gatequarters_k04_whole_changes.Holds := by
  w_on; o_law
  refine HandSHeadRun.head_any (r := OpenLaw.row PySem.Challenge.rw_gatequarters_k04_whole_changes) (q := view (OpenLaw.row PySem.Challenge.rw_gatequarters_k04_whole_changes).prog [57]) (H := K4.hk) (ob := K4.ob) (M := 12000) (loose := K4.names) (d := HandSHeadRun.topDef (OpenLaw.row PySem.Challenge.rw_gatequarters_k04_whole_changes).prog 57) (kwd := []) K4.ob_eq
    (by kernel_rfl) (fun s => by kernel_rfl) K4.run (by kernel_rfl) (by kernel_rfl) (by kernel_rfl) (by rfl) (by first | assumption | decide +kernel) (by decide +kernel) ⟨rfl, rfl, rfl, rfl, rfl, by decide +kernel⟩ ?hw ?hc
  case hw => w_witness2
  case hc =>
    refine L2.walk_ofE (l := PySem.Challenge.rw_gatequarters_k04_whole_changes) (n := 63) (k := 13) (CX := L2.CX0) (x := "_law_script") rfl (by decide) (by kernel_rfl) ⟨rfl, by decide, by decide⟩ ?F (fun _ _ _ _ h => h)
    intro w mg fa h Y G hmg0
    obtain ⟨K, KX, c⟩ := Y
    have hmg : mg ("law" : PySem.Str) = some (.ref fa) := by
      have e : (HandSHeadRun.topDef (OpenLaw.row PySem.Challenge.rw_gatequarters_k04_whole_changes).prog 57).name = ("law" : PySem.Str) := by kernel_rfl
      rw [← e]
      exact hmg0
    obtain ⟨fd, hb, hF⟩ := K4.facts (P := (PySem.Challenge.rw_gatequarters_k04_whole_changes).prog) (w := w) KX G hmg c
    exact ⟨K, fd, K4.spLaw K, KX, hb, fun H a ns hl _ hS => ⟨a, ns, rfl, hS, fun _ => rfl⟩, fun base _ _ => hF base⟩
end
