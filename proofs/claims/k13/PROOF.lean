import PyProof.Rows.All
import Wide.All
import OpenK.AllK
import Wide.FinOn
import HandS.ForMost
import HandS.Set
import HandS.SetBool
import HandS.SortRule
import HandS.SetFor
import HandS.SortInts
import HandS.Flow
import HandS.Style
import HandS.More
import HandS.MakeKw
import HandS.MakeKwOnly
import HandS.WideBits
import HandS.Defaults
import HandS.TupAny
import HandS.Codes
import HandS.IsInst
import PyProof.ListStr
import HandS.Conv
import HandS.Walk
import HandS.Zip
import PyProof.InstNe
import HandS.OwnEq
import HandS.Dict
import HandS.Deep
import KE.KStateDown
import HandS.Head0
import HandS.Head1
import HandS.Head2
import HandS.HeadEnd
import HandS.HeadHook1
import HandS.HeadHook2
import HandS.RevTup
import HandS.Rev
import HandS.DictComp
import HandS.DictTup
import PyProof.Rows.TupDisplay
import HandS.TupLe
import HandS.Small
import HandS.TryOnly
import PySem.Challenge.RW_gatequarters_k13_whole_used_and_needed_s
section
set_option Elab.async false
set_option linter.all false
set_option maxRecDepth 100000
set_option maxHeartbeats 4000000
/-! sorted(l) of tuples whose first item is a text, no text twice. -/
namespace SrtX
open PySem PyProof.Rows Srt
open SrtO hiding Str
abbrev ltS (x y : Str) : Bool := decide (x.cps.toList < y.cps.toList)
theorem swo_str : Swo ltS := by
  refine ⟨fun x y h => ?_, fun x y z h1 h2 => ?_⟩
  · have a := of_decide_eq_true h
    exact decide_eq_false (fun b => List.lt_irrefl _ (List.lt_trans a b))
  · have a := List.not_lt.mp (of_decide_eq_false h1)
    have b := List.not_lt.mp (of_decide_eq_false h2)
    exact decide_eq_false (List.not_lt.mpr (List.le_trans a b))
theorem swo_by {α : Type} (k : α → Str) : Swo fun v u => ltS (k v) (k u) := ⟨fun x y => swo_str.asym (k x) (k y), fun x y z => swo_str.tr (k x) (k y) (k z)⟩
section
variable {prog : Program} {w : World} {A : Around} {E : Value → Shared → Prop} {s : Shared}
/-- v is a tuple whose first item is the text x -/
def IsTx (h : Heap) (v : Value) (x : Str) : Prop := ∃ a o t r n, v = .ref a ∧ h.get? a = some o ∧ o.cls = .type "tuple" ∧ o.data = .seq (.str x t :: r).toArray n
theorem IsTx.keeps {h h' : Heap} {v : Value} {x : Str} (p : IsTx h v x) (k : ∀ b o, h.get? b = some o → o.cls = .type "tuple" → h'.get? b = some o) : IsTx h' v x := by
  obtain ⟨a, o, t, r, n, e, ho, hc, hd⟩ := p
  exact ⟨a, o, t, r, n, e, k _ _ ho hc, hc, hd⟩
theorem kat_self {b fin : Bool} {Q : Bool → Shared → Prop} (h : Q fin s) : ∀ (l : List Value) (i : Nat), PySem.W.KatLex prog w A b fin Q (l.zip l) i s
  | [], _ => PySem.W.kat_nil h
  | v :: l, i => PySem.W.kat_cons (SeqAt.EqAt.same v prog w _ _ (PySem.W.kat_yes (kat_self h l (i + 1))))
theorem tx_cmp {vs : List Value} {k : Value → Str} (hp : ∀ v ∈ vs, IsTx s.heap v (k v)) (hu : ∀ v ∈ vs, ∀ u ∈ vs, k v = k u → v = u) : Cmp prog w A s (tuples' true) (fun p => p.1 ∈ vs) (lt2 fun v u => ltS (k v) (k u)) := by
  intro p q hm hm'
  show wpAny (model prog w) A (keyLt' (tuples' true) p.1 q.1) (fun r s' => s' = s ∧ r = ltS (k p.1) (k q.1)) (fun _ _ => False) s
  have h1 := hp _ hm
  have h2 := hp _ hm'
  by_cases e : k p.1 = k q.1
  · have ev := hu _ hm _ hm' e
    rw [← ev]
    obtain ⟨a, o, t, r, n, e1, ho, hc, hd⟩ := h1
    rw [e1]
    refine PySem.W.kat_lt ho hd ho hd (kat_self ⟨rfl, ?_⟩ _ 0)
    rw [decide_eq_false (Nat.lt_irrefl _)]
    exact (decide_eq_false (List.lt_irrefl _)).symm
  · generalize k p.1 = x at h1 e ⊢
    generalize k q.1 = y at h2 e ⊢
    obtain ⟨a, o, t, r, n, e1, ho, hc, hd⟩ := h1
    obtain ⟨a', o', t', r', n', e2, ho', hc', hd'⟩ := h2
    rw [e1, e2]
    refine PySem.W.kat_lt ho hd ho' hd' ?_
    show PySem.W.KatLex prog w A true _ _ ((Value.str x t, Value.str y t') :: r.zip r') 0 s
    refine PySem.W.kat_cons (SeqAt.EqAt.str_str x t y t' prog w _ _ ?_)
    refine PySem.W.kat_go (fun e3 => absurd (by simpa using e3) e) (fun e3 => ?_)
    exact PySem.W.kat_no (oneLt_str ⟨rfl, rfl⟩)
theorem firstsX_of {h : Heap} : ∀ {vs : List Value}, (∀ v ∈ vs, ∃ x, IsTx h v x) → ∃ fs : List Value, PySem.W.KatTups h vs fs ∧ fs.length = vs.length ∧ ∀ f ∈ fs, ∃ x t, f = Value.str x t
  | [], _ => ⟨[], PySem.W.KatTups.nil, rfl, fun _ hm => by simp at hm⟩
  | v :: vs, hp => by
    obtain ⟨fs, h1, h2, h3⟩ := firstsX_of (vs := vs) fun v' hm => hp v' (List.mem_cons_of_mem _ hm)
    obtain ⟨x, a, o, t, r, n, e, ho, hc, hd⟩ := hp v (List.mem_cons_self ..)
    subst e
    refine ⟨.str x t :: fs, PySem.W.KatTups.cons ho hc hd rfl h1, by rw [List.length_cons, List.length_cons, h2], fun f hm => ?_⟩
    rcases List.mem_cons.mp hm with rfl | hm
    · exact ⟨x, t, rfl⟩
    · exact h3 f hm
theorem tx_sortableO {a : Addr} {vs : List Value} {k : Value → Str} (h0 : 0 < vs.length) (hp : ∀ v ∈ vs, IsTx s.heap v (k v)) (hu : ∀ v ∈ vs, ∀ u ∈ vs, k v = k u → v = u) (ha : ∀ o, s.heap.get? a = some o → o.cls ≠ .type "tuple") : SortableO prog w A s a vs fun v u => ltS (k v) (k u) := by
  intro h' keep
  have hp' : ∀ v ∈ vs, IsTx h' v (k v) := fun v hm => (hp v hm).keeps fun b o e c => keep b o (fun z => by subst z; exact ha o e c) e
  obtain ⟨fs, h1, h2, h3⟩ := firstsX_of fun v hm => ⟨_, hp' v hm⟩
  refine ⟨tuples' true, fun Q E hq => ?_, tx_cmp hp' hu⟩
  refine PySem.W.kat_kind (T := .type "str") h1 (by omega) (fun f hm => ?_) (by rfl) ?_
  · obtain ⟨x, t, rfl⟩ := h3 f hm
    exact PySem.W.Looks.now
  · have e : (Value.type "str" != Value.type "tuple") = true := by first | decide +kernel | rfl | decide
    rw [e]
    exact hq
theorem sorted_txO {l : Addr} {vs : List Value} {k : Value → Str} {Q : Value → Shared → Prop} (hl : s.heap.IsList l vs.toArray) (hz : vs.length ≤ sizeLine) (hp : ∀ v ∈ vs, IsTx s.heap v (k v)) (hu : ∀ v ∈ vs, ∀ u ∈ vs, k v = k u → v = u)
    (h : ∀ (h' : Heap) (d : Addr) (out : List Value), Srtd (fun v u => ltS (k v) (k u)) out → Stb (fun v u => ltS (k v) (k u)) out vs → (∀ b o, s.heap.get? b = some o → h'.get? b = some o) → s.heap.objs.size ≤ d → (∃ n, h'.get? d = some (seqObj "list" out.toArray n)) → Q (.ref d) { s with heap := h' }) :
    wpAny (model prog w) A (call (.builtin "sorted") [.ref l]) Q E s := by
  refine sorted_ord (swo_by k) hl hz (fun h2 h₁ a ha kk => ?_) fun out hs hb => ?_
  · refine tx_sortableO (s := { s with heap := h₁ }) (by omega) (fun v hm => (hp v hm).keeps fun b o e _ => (kk b o e).2) hu fun o e => ?_
    have e' : some o = some (seqObj "list" vs.toArray 0) := e.symm.trans ha
    cases e'
    intro c
    exact absurd (Value.type.inj c) (by decide)
  · exact h _ _ out hs hb (fun b o e => sortedAll_old e) (Nat.le_succ _) (sortedAll_at s.heap vs out.toArray)
end
end SrtX
namespace L2
open PySem PySem.Spec PyProof.Rows
/-- sorted(xs), xs a list of tuples with a text first, no such text twice: a new list, ascending by these texts -/
def rSortedTx (K : PySem.W.Frag) : List V → Hp → VK → Prop := fun vs H Q => ∃ (a : Addr) (xs : List V) (k : V → Str), vs = [V.ref a] ∧ SqL K H a xs ∧ (∀ x ∈ xs, ∃ t r, x = V.ref t ∧ SqT K H t (V.str (k x) :: r)) ∧ (∀ x ∈ xs, ∀ y ∈ xs, k x = k y → x = y) ∧
  ∀ ys p, ys.Perm xs → ys.Pairwise (fun x y => SrtX.ltS (k y) (k x) = false) → H p = none → Q (.ref p) (upd H p (.lst ys))
section
variable {X : Cx}
theorem cr_sortedTx : CallR X (.builtin "sorted") (rSortedTx X.K) := by
  intro pins s σ H vs us Q I r h
  obtain ⟨a, xs, k, rfl, hs, hx, hu, q⟩ := h
  obtain ⟨its, rv, hl, hz⟩ := I.list hs
  obtain ⟨u, rfl, ru⟩ := vals1 r
  obtain rfl : u = Value.ref a := ru
  obtain ⟨e1, e2⟩ := refs_back rv fun x m => by
    obtain ⟨t, _, e, _⟩ := hx x m
    exact ⟨t, e⟩
  refine SrtX.sorted_txO (k := fun u => k (backV u)) hl.isList (by rw [← rv.length]; exact hz) (fun v hv => ?_) (fun v hv u hu2 e => ?_) fun h' d out h1 h2 kp hd hn => ?_
  · obtain ⟨t, rfl⟩ := e2 v hv
    have hm : V.ref t ∈ xs := by rw [e1]; exact List.mem_map.mpr ⟨_, hv, rfl⟩
    obtain ⟨t', r', e, ht⟩ := hx _ hm
    cases e
    obtain ⟨its2, r2, ⟨o, ho, hc, n, hd⟩, _⟩ := I.tuple ht
    cases r2 with
    | cons h1 h2 =>
      obtain ⟨tk, rfl⟩ := h1
      exact ⟨t, o, tk, _, n, rfl, ho, hc, hd⟩
  · obtain ⟨t, rfl⟩ := e2 v hv
    obtain ⟨t', rfl⟩ := e2 u hu2
    have hm : V.ref t ∈ xs := by rw [e1]; exact List.mem_map.mpr ⟨_, hv, rfl⟩
    have hm' : V.ref t' ∈ xs := by rw [e1]; exact List.mem_map.mpr ⟨_, hu2, rfl⟩
    cases hu _ hm _ hm' e
    rfl
  · have h3 : ∀ u ∈ out, ∃ a, u = Value.ref a := fun u hu => e2 u (h2.perm.mem_iff.mp hu)
    obtain ⟨n, hn⟩ := hn
    have hb : SrtO.Stb (fun x y => SrtX.ltS (k x) (k y)) (out.map backV) xs := by
      rw [e1]
      exact SrtO.Stb.map (SrtX.swo_by k) backV h2
    refine ⟨.ref d, upd H d (.lst (out.map backV)), I.laid (t' := s.toks) kp hd ⟨?_, out, n, vals_back h3, hn⟩, rfl, q _ d hb.perm (SrtO.srtd_map h1) (I.hok.fresh hd)⟩
    rw [hb.len]
    exact hz
end
end L2
end
section
set_option Elab.async false
set_option linter.all false
set_option maxRecDepth 100000
set_option maxHeartbeats 4000000
/-! Sets of texts, told by the list of their members (up to order). -/
namespace TxSet
open PySem PySem.Spec PyProof.Rows L2
def keyT (e : Int × Value) : Str := match e.2 with
  | .str k _ => k
  | _ => ⟨#[]⟩
def GoodT (w : World) (e : Int × Value) : Prop := ∃ k t, e = (hashStr w k, Value.str k t)
/-- at a stands a set whose members are L, none twice, in some order -/
def SetT (w : World) (h : Heap) (a : Addr) (L : List Str) : Prop := ∃ o es ep t, h.get? a = some o ∧ o.ExactSet ∧ o.data = .set es ep t ∧ (∀ e ∈ es.toList, GoodT w e) ∧ (es.toList.map keyT).Perm L ∧ L.Nodup ∧
  es.size < scanBound ∧ t.fits es.size = true ∧ Ris t.place.toList ∧ (w.params.followText "set-order" = true ∨ t.led = true)
section
variable {P : Program} {w : World} {h h' : Heap} {a : Addr} {L L' : List Str}
theorem SetT.at (R : SetT w h a L) (k : ∀ o, h.get? a = some o → h'.get? a = some o) : SetT w h' a L := by
  obtain ⟨o, es, ep, t, ho, r⟩ := R
  exact ⟨o, es, ep, t, k o ho, r⟩
theorem SetT.perm (R : SetT w h a L) (p : L.Perm L') : SetT w h a L' := by
  obtain ⟨o, es, ep, t, ho, hx, hd, g, m, nd, r⟩ := R
  exact ⟨o, es, ep, t, ho, hx, hd, g, m.trans p, p.nodup_iff.mp nd, r⟩
theorem elems_good {l : List (Int × Value)} (g : ∀ e ∈ l, GoodT w e) : ElemsOf (strKind P w) l := fun e he => by
  obtain ⟨k, t, rfl⟩ := g e he
  exact ⟨⟨k, strKind_is P w k t, rfl⟩, rfl⟩
theorem is_key {e : Int × Value} (g : GoodT w e) (k : Str) : (strKind P w).is k e.2 = true ↔ keyT e = k := by
  obtain ⟨c, t, rfl⟩ := g
  refine ⟨fun q => ?_, fun q => by rw [← q]; exact strKind_is P w c t⟩
  have q' : Value.isStrOf k (Value.str c t) = true := q
  obtain ⟨u, e⟩ := Value.isStrOf_shape q'
  exact (Value.str.inj e).1
theorem found_iff {l : List (Int × Value)} (g : ∀ e ∈ l, GoodT w e) (k : Str) : (∃ e ∈ l, (strKind P w).is k e.2 = true) ↔ k ∈ l.map keyT := by
  rw [List.mem_map]
  exact ⟨fun ⟨e, he, q⟩ => ⟨e, he, (is_key (g e he) k).1 q⟩, fun ⟨e, he, q⟩ => ⟨e, he, (is_key (g e he) k).2 q⟩⟩
theorem SetT.size_eq (R : SetT w h a L) : ∃ o es ep t, h.get? a = some o ∧ o.ExactSet ∧ o.data = .set es ep t ∧ es.size = L.length ∧ t.fits es.size = true := by
  obtain ⟨o, es, ep, t, ho, hx, hd, g, m, nd, hb, hf, _⟩ := R
  exact ⟨o, es, ep, t, ho, hx, hd, by rw [← Array.length_toList, ← m.length_eq, List.length_map], hf⟩
end
section
variable {P : Program} {w : World} {A : Around} {E : Value → Shared → Prop} {s : Shared} {a : Addr} {L : List Str}
theorem put_at {h : Heap} {o : Obj} {es es' : Array (Int × Value)} {ep : Nat} {t t' : SetTable} (ho : h.get? a = some o) (hd : o.data = .set es ep t) : (h.update a (Obj.putSet es' t')).get? a = some { o with data := .set es' (ep + 1) t' } := by
  have e := putSet_of es' t' hd
  have q := Heap.get?_update_self (Obj.putSet es' t') ho (by rw [e]; rfl)
  rw [e] at q
  exact q
/-- what a set's add does behind the search: the table is stored, laid anew where it is too full -/
theorem store_then {g : Bool → Sem Unit} (hg : ∀ (b : Bool) (s₁ : Shared) (Q' : Unit → Shared → Prop), Q' () s₁ → wpAny (model P w) A (g b) Q' E s₁) {o : Obj} {es es1 : Array (Int × Value)} {ep : Nat} {t t2 : SetTable} {wd : Bool} {L' : List Str} {R : Option Bool → Shared → Prop}
    (ho : s.heap.get? a = some o) (hex : o.ExactSet) (hd : o.data = .set es ep t) (hs : (∀ e ∈ es1.toList, GoodT w e) ∧ (es1.toList.map keyT).Perm L' ∧ L'.Nodup ∧ es1.size < scanBound)
    (ht : t2.fits es1.size = true ∧ Ris t2.place.toList ∧ (w.params.followText "set-order" = true ∨ t2.led = true)) (hR : ∀ h', Heap.SameBut a s.heap h' → SetT w h' a L' → R (some true) { s with heap := h' }) :
    wpAny (model P w) A (do
        storeSet a es1 t2
        if (!wd && t2.tooFull) = true then do
            g (relayAll t2 es1 (SetTable.grown es1.size)).2.2
            storeSet a (relayAll t2 es1 (SetTable.grown es1.size)).1 (relayAll t2 es1 (SetTable.grown es1.size)).2.1
            pure (some true)
          else pure (some true)) R E s := by
  obtain ⟨g1, m1, nd, b1⟩ := hs
  obtain ⟨f1, r1, l1⟩ := ht
  refine wpAny_bind (wpAny_storeSet_of ho hd ?_ (fits_of_scanBound b1))
  have o1 := put_at (es' := es1) (t' := t2) ho hd
  have k1 := Heap.SameBut.update s.heap a (Obj.putSet es1 t2)
  split
  · have p3 := relayAll_perm t2 es1 (SetTable.grown es1.size)
    have f3 := relayAll_fits t2 es1 (SetTable.grown es1.size)
    have r3 := relayAll_ris t2 es1 (SetTable.grown es1.size)
    have l3 := relayAll_led t2 es1 (SetTable.grown es1.size)
    generalize relayAll t2 es1 (SetTable.grown es1.size) = Z at p3 f3 r3 l3 ⊢
    have b3 : Z.1.size < scanBound := by rw [← Array.length_toList, p3.length_eq, Array.length_toList]; exact b1
    refine wpAny_bind (hg _ _ _ (wpAny_bind (wpAny_storeSet_of o1 rfl ?_ (fits_of_scanBound b3))))
    exact wpAny_pure (hR _ (k1.trans (Heap.SameBut.update _ a _)) ⟨_, Z.1, _, Z.2.1, put_at (es' := Z.1) (t' := Z.2.1) o1 rfl, hex, rfl, fun e he => g1 e (p3.mem_iff.mp he), (p3.map keyT).trans m1, nd, b3, f3, r3, l1.imp id fun z => l3.trans z⟩)
  · exact wpAny_pure (hR _ k1 ⟨_, es1, _, t2, o1, hex, rfl, g1, m1, nd, b1, f1, r1, l1⟩)
theorem add_hashed {k : Str} {tk : Tok} {Q : Bool → Shared → Prop} (R : SetT w s.heap a L) (room : L.length + 1 < scanBound)
    (hQ : ∀ h' b, Heap.SameBut a s.heap h' → SetT w h' a (if k ∈ L then L else k :: L) → Q b { s with heap := h' }) : wpAny (model P w) A (setAddHashed a (.str k tk) ((strKind P w).hash k)) Q E s := by
  have R0 := R
  obtain ⟨o, es, ep, t, ho, hex, hd, g, m, nd, hb, hf, hr, hl⟩ := R
  have hel : ElemsOf (strKind P w) es.toList := elems_good g
  have hsc : (Value.str k tk).scannable = true := rfl
  unfold setAddHashed setAddHashedIn
  refine wpAny_holding (wpAny_bind (wpAny_setState_of ho hd hf ?_))
  dsimp only
  rw [byScan_of hsc hb hel]
  simp only [↓reduceIte]
  unfold setAddByScan
  refine wpAny_bind ?_
  refine wpAny_bind (wpAny_rule ?_)
  refine wpAny_bind (wpAny_setScan_of (strKind_is P w k tk) ho hd hf hel ?_)
  cases hfi : List.findIdx? (fun e => (strKind P w).is k e.2) es.toList with
  | some j =>
    dsimp only
    obtain ⟨hj, pj, _⟩ := List.findIdx?_eq_some_iff_getElem.mp hfi
    have hk : k ∈ L := m.mem_iff.mp ((found_iff g k).1 ⟨_, List.getElem_mem hj, pj⟩)
    refine wpAny_pure (wpAny_pure (hQ s.heap _ (Heap.SameBut.refl a s.heap) ?_))
    rw [if_pos hk]
    exact R0
  | none =>
    dsimp only
    have hk : k ∉ L := fun z => by
      obtain ⟨e, he, q⟩ := (found_iff (P := P) g k).2 (m.mem_iff.mpr z)
      exact absurd q (by rw [List.findIdx?_eq_none_iff.mp hfi e he]; exact Bool.false_ne_true)
    rw [if_neg hk] at hQ
    have give : ∀ (b : Bool) {s₁ : Shared} {Q' : Unit → Shared → Prop}, Q' () s₁ → wpAny (model P w) A (match b with | true => rule "set.scan.the-table-gave-way" | false => pure ()) Q' E s₁ := fun b s₁ Q' q => match b with
      | true => wpAny_rule q
      | false => wpAny_pure q
    have p1 := layNew_perm t es ((strKind P w).hash k) (.str k tk)
    have f1 := layNew_fits t es ((strKind P w).hash k) (.str k tk)
    have r1 := layNew_ris t es ((strKind P w).hash k) (.str k tk) hr
    have l1 := layNew_led t es ((strKind P w).hash k) (.str k tk)
    generalize layNew t es ((strKind P w).hash k) (.str k tk) = Z at p1 f1 r1 l1 ⊢
    obtain ⟨es1, t1, wd, gv⟩ := Z
    dsimp only at p1 f1 r1 l1 ⊢
    rw [Array.toList_push] at p1
    have hs : (∀ e ∈ es1.toList, GoodT w e) ∧ (es1.toList.map keyT).Perm (k :: L) ∧ (k :: L).Nodup ∧ es1.size < scanBound := by
      refine ⟨fun e he => ?_, ?_, List.nodup_cons.mpr ⟨hk, nd⟩, ?_⟩
      · rcases List.mem_append.mp (p1.mem_iff.mp he) with z | z
        · exact g e z
        · exact ⟨k, tk, List.mem_singleton.mp z⟩
      · refine (p1.map keyT).trans ?_
        rw [List.map_append]
        exact (List.perm_append_singleton _ _).trans (m.cons _)
      · rw [← Array.length_toList, p1.length_eq, List.length_append, ← List.length_map (f := keyT), m.length_eq]
        exact room
    have ld : w.params.followText "set-order" = true ∨ t1.led = true := hl.imp id fun z => by rw [l1]; exact z
    refine wpAny_bind (give _ ?_)
    split
    · refine wpAny_bind ?_
      rw [hashByValue_scannable 8 hsc]
      refine wpAny_pure (store_then (fun b s₁ Q' q => give b q) ho hex hd hs ⟨?_, ?_, ?_⟩ fun h' sb r => ?_)
      · first | (split <;> first | exact f1 | exact SetTable.fits_plain_off f1) | exact f1
      · first | (split <;> exact r1) | exact r1
      · first | (split <;> exact ld) | exact ld
      · dsimp only
        exact wpAny_pure (hQ h' _ sb r)
    · refine wpAny_bind (wpAny_pure ?_)
      simp only [↓reduceIte]
      refine store_then (fun b s₁ Q' q => give b q) ho hex hd hs ⟨f1, r1, ld⟩ fun h' sb r => ?_
      dsimp only
      exact wpAny_pure (hQ h' _ sb r)
/-- a.add(k) -/
theorem add_ok {k : Str} {tk : Tok} {Q : Value → Shared → Prop} (R : SetT w s.heap a L) (room : L.length + 1 < scanBound)
    (hQ : ∀ h', Heap.SameBut a s.heap h' → SetT w h' a (if k ∈ L then L else k :: L) → Q .none { s with heap := h', toks := s.toks + 1 }) : wpAny (model P w) A (call (.builtin "set.add") [.ref a, .str k tk]) Q E s := by
  have hT : s.TypeIs (.ref a) "set" := by
    obtain ⟨o, es, ep, t, ho, hex, _⟩ := R
    exact ⟨o, ho, hex.1⟩
  refine wpAny_call_entry F.slot_set_add hT F.entry_set_add ?_ (F.args_set_add_2 _ _)
  unfold Builtin.«set.add» Builtin.Frozenset.oneOther
  simp only [List.isEmpty_nil, bind_assoc]
  unfold Builtin.Frozenset.addrOf setAdd
  refine wpAny_bind (wpAny_pure ?_)
  try dsimp only
  refine wpAny_bind (wpAny_pure ?_)
  try dsimp only
  refine wpAny_bind (wpAny_holding (wpAny_bind ((strKind P w).pyHash (strKind_is P w k tk) ?_)))
  refine add_hashed (s := { s with toks := s.toks + 1 }) R room fun h' b sb r => ?_
  show wpAny _ _ (ret Value.none) _ _ _
  exact wpAny_pure ⟨_, rfl, hQ h' sb r⟩
theorem fresh_set {h : Heap} (w : World) : SetT w (h.push { cls := .type "set", dict := none, data := .set #[] 0 (.fresh 0 0 (!w.params.followText "set-order")) }) h.objs.size [] := by
  refine ⟨_, #[], 0, _, Heap.get?_push_size _ rfl, ⟨rfl, rfl, rfl⟩, rfl, fun e he => by simp at he, List.Perm.refl _, List.nodup_nil, by decide, by rfl, List.Pairwise.nil, ?_⟩
  cases e : w.params.followText "set-order" with
  | true => exact Or.inl rfl
  | false => exact Or.inr rfl
end
end TxSet
end
section
set_option Elab.async false
set_option linter.all false
set_option maxRecDepth 100000
set_option maxHeartbeats 4000000
namespace TxSet
open PySem PySem.Spec PyProof.Rows L2
/-- one member more -/
def addL (L : List Str) (k : Str) : List Str := if k ∈ L then L else k :: L
theorem addL_mem {L : List Str} {k j : Str} : j ∈ addL L k ↔ j ∈ L ∨ j = k := by
  unfold addL
  split
  · rename_i h
    exact ⟨Or.inl, fun z => z.elim id fun e => by rw [e]; exact h⟩
  · rw [List.mem_cons]
    exact Or.comm
theorem addL_len (L : List Str) (k : Str) : (addL L k).length ≤ L.length + 1 := by
  unfold addL
  split <;> simp
theorem fold_mem {j : Str} : ∀ {ks L : List Str}, j ∈ ks.foldl addL L ↔ j ∈ L ∨ j ∈ ks
  | [], L => by simp
  | k :: ks, L => by
    rw [List.foldl_cons, fold_mem, addL_mem, List.mem_cons, or_assoc]
theorem fold_fresh : ∀ {ks L : List Str}, (ks ++ L).Nodup → (ks.foldl addL L).length = ks.length + L.length
  | [], L, _ => by simp
  | k :: ks, L, h => by
    rw [List.cons_append, List.nodup_cons] at h
    have hk : k ∉ L := fun z => h.1 (List.mem_append_right _ z)
    have e : addL L k = k :: L := if_neg hk
    rw [List.foldl_cons, e, fold_fresh]
    · simp only [List.length_cons]
      omega
    · refine (List.perm_middle.nodup_iff).mpr ?_
      exact List.nodup_cons.mpr h
section
variable {P : Program} {w : World} {A : Around} {E : Value → Shared → Prop} {s : Shared} {a : Addr} {L : List Str}
/-- set.update's own loop over texts -/
theorem update_txt {I S : Addr} {fp wr : List Addr} {G : Array GenState → Array GenState → Prop} {n : Nat} {Pv : Nat → Value → Prop} {St : Nat → Shared → Prop} {R : Result → Shared → Prop} {ks : List Str}
    (W : WalksS P w A.in1 I fp wr G n Pv St) (hSf : S ∉ fp) (hn : n = ks.length) (hb : n + 1 < scanBound) (hval : ∀ i v, Pv i v → ∃ k t, ks[i]? = some k ∧ v = .str k t) :
    ∀ (m i : Nat) (L : List Str) (s : Shared), n - i = m → i ≤ n → L.length ≤ i → St i s → SetT w s.heap S L → (∀ s', Moved (S :: wr) G s s' → SetT w s'.heap S ((ks.drop i).foldl addL L) → R (.ok (.ret .none)) s') →
      codeAny (model P w) A (.builtin "set.update.loop" ⟨[.ref S, .ref I], []⟩) R s := by
  have nw : S ∉ wr := fun h => hSf (W.sub _ h)
  have up : ∀ b ∈ wr, b ∈ S :: wr := fun b hb => List.mem_cons_of_mem _ hb
  intro m
  induction m with
  | zero =>
    intro i L s hm hi hl hst hS hR
    have ei : i = n := by omega
    refine codeAny_builtin F.entry_set_update_loop ?_
    rw [Around.under_plainId F.plain_set_update_loop _]
    show wpAny _ A.in1 (pyNext (.ref I) >>= _) _ _ s
    rw [ei] at hst hR
    refine wpAny_bind (W.done s _ _ hst fun s' mv => ?_)
    show wpAny _ A.in1 (ret Value.none) _ _ s'
    refine wpAny_pure (hR s' (mv.mono up) ?_)
    rw [List.drop_of_length_le (by omega)]
    exact hS.at fun o e => mv.heap S o nw e
  | succ m ih =>
    intro i L s hm hi hl hst hS hR
    have lt : i < n := by omega
    refine codeAny_builtin F.entry_set_update_loop ?_
    rw [Around.under_plainId F.plain_set_update_loop _]
    show wpAny _ A.in1 (pyNext (.ref I) >>= _) _ _ s
    refine wpAny_bind (W.item i s _ _ lt hst fun v s' hP hst' mv => ?_)
    obtain ⟨k, t, hk, rfl⟩ := hval i v hP
    have hS' : SetT w s'.heap S L := hS.at fun o e => mv.heap S o nw e
    show wpAny _ A.in1 (holding [Value.str k t] (setAdd S (.str k t)) >>= _) _ _ s'
    unfold setAdd
    refine wpAny_bind (wpAny_holding (wpAny_holding (wpAny_bind ((strKind P w).pyHash (strKind_is P w k t) ?_))))
    refine add_hashed (s := { s' with toks := s'.toks + 1 }) hS' (by omega) fun h' b sb h2 => ?_
    have e : ks.drop i = k :: ks.drop (i + 1) := by
      obtain ⟨h1, h3⟩ := List.getElem?_eq_some_iff.mp hk
      rw [← h3]
      exact List.drop_eq_getElem_cons h1
    rw [e, List.foldl_cons] at hR
    have oth : ∀ b o, b ≠ S → s'.heap.get? b = some o → h'.get? b = some o := fun b o hb e => (sb.2 b hb).trans e
    refine wpAny_pure ⟨plainId_quiet F.plain_set_update_loop _, ih (i + 1) (addL L k) _ (by omega) lt (by have := addL_len L k; omega) (W.frame _ s' _ _ hst' (Nat.le_succ _) fun b hb o e => oth b o (fun z => hSf (by rw [← z]; exact hb)) e) h2 fun s2 m2 z => hR s2 ?_ z⟩
    exact Moved.trans W.gtrans ((mv.mono up).then_heap (Nat.le_succ _) fun b o hb e => oth b o (fun z => hb (by rw [z]; exact List.mem_cons_self)) e) m2
abbrev freshO (w : World) : Obj := { cls := .type "set", dict := none, data := .set #[] 0 (.fresh 0 0 (!w.params.followText "set-order")) }
/-- set(xs), a list of texts -/
theorem call_set_txt {l : Addr} {items : Array Value} {ks : List Str} {Q : Value → Shared → Prop} (hh : A.handled = none) (hl : s.heap.IsList l items) (hz : items.size = ks.length) (hit : ∀ (i : Nat) (v : Value), items[i]? = some v → ∃ k t, ks[i]? = some k ∧ v = Value.str k t) (hb : ks.length + 1 < scanBound)
    (h : ∀ (h' : Heap) (tk : Nat), SetT w h' s.heap.objs.size (ks.foldl addL []) → (∀ b o, s.heap.get? b = some o → h'.get? b = some o) → Q (.ref s.heap.objs.size) { s with heap := h', toks := tk }) : wpAny (model P w) A (call (.type "set") [.ref l]) Q E s := by
  obtain ⟨c, tl, hmro⟩ := F.called_set.mro
  have hmade := F.called_set.made
  have hsub := F.called_set.sub
  refine wpAny_call (codeAny_of_tree ?_)
  show wpAny _ _ (callAny (.type "set") _) _ _ _
  refine wpAny_pure ⟨Code.quiet_builtin _ (by decide +kernel), codeAny_builtin F.entry_type_call ?_⟩
  rw [Around.under_plain (weight_type_call_type "set" [.ref l] []) rfl]
  have h1 := F.called_set.notType
  have h2 := F.called_set.canCreate
  have hct := F.typeCall_set_1 (.ref l)
  repeat (any_goals (first | assumption | wp_step))
  refine codeAny_mono (code_set_led1 (.ref l) (E := E) (Q₁ := fun obj s₁ => obj = .ref s.heap.objs.size ∧ s₁ = { s with heap := s.heap.push (freshO w) }) ⟨rfl, rfl⟩) fun r s₁ hr => ?_
  rcases r with e | (obj | _ | _ | _) <;> first | exact hr | exact hr.elim | skip
  obtain ⟨rfl, rfl⟩ := hr
  have hS : (s.heap.push (freshO w)).get? s.heap.objs.size = some (freshO w) := Heap.get?_push_size _ rfl
  have hT : Shared.TypeIs { s with heap := s.heap.push (freshO w) } (.ref s.heap.objs.size) "set" := ⟨_, hS, rfl⟩
  have hli := F.called_set.init.lookup
  have hbi := F.called_set.init.bind (.ref s.heap.objs.size)
  repeat (any_goals (first | assumption | wp_step))
  refine codeAny_mono (codeAny_call_builtin (R := wants (fun r s₂ => r = .none ∧ ∃ h' tk, s₂ = { s with heap := h', toks := tk } ∧ SetT w h' s.heap.objs.size (ks.foldl addL []) ∧ (∀ b o, s.heap.get? b = some o → h'.get? b = some o)) E) F.called_set.init.plain F.entry_set_init (check_set_init_1 hT ?_)) fun r₂ s₂ hr₂ => ?_
  · obtain ⟨ol, hol, hcl, nl, hdl⟩ := hl
    obtain ⟨ocls, odict, odata, oslots⟩ := ol
    simp only at hcl hdl
    subst hcl hdl
    have hol' : (s.heap.push (freshO w)).get? l = some { cls := .type "list", dict := odict, data := .seq items nl, slots := oslots } := Heap.get?_push_of_some _ hol
    have hsls := F.sub_list_set
    have hslf := F.sub_list_frozenset
    have hne : (Value.type "list" == Value.type "dict") = false := by decide
    have hl1 : (s.heap.push (freshO w)).IsList l items := ⟨_, hol', rfl, nl, rfl⟩
    unfold Builtin.«set.__init__» noKeywords Builtin.Frozenset.updateFrom
    generalize hPI : pyIter = PI
    wp_walk
    subst hPI
    refine wpAny_pyIter_list hl1 (wpAny_bind (wpAny_runValue ?_))
    have hh3 : A.in1.in1.in1.handled = none := by simp [hh]
    have hz1 : (s.heap.push (freshO w)).objs.size = s.heap.objs.size + 1 := Heap.size_push ..
    have ll : l < s.heap.objs.size := Heap.lt_size hol
    have hneI : l ≠ (s.heap.push (freshO w)).objs.size := fun z => Nat.ne_of_lt (Nat.lt_succ_of_lt ll) (z.trans hz1)
    have hSf : s.heap.objs.size ∉ [(s.heap.push (freshO w)).objs.size, l] := fun z => by
      rcases List.mem_cons.mp z with z | z
      · exact Nat.ne_of_lt (Nat.lt_succ_self _) (z.trans hz1)
      · exact Nat.ne_of_gt ll (List.mem_singleton.mp z)
    refine update_txt ((Walks.list hh3 _ l hneI items).toS) hSf hz (by omega) hit (items.size - 0) 0 [] _ (by omega) (Nat.zero_le _) (Nat.le_refl _) ⟨⟨_, Heap.get?_push_size _ rfl, rfl, rfl⟩, (hl1.push _)⟩ ?hS0 ?hR
    case hS0 => exact (fresh_set w).at fun o e => Heap.get?_push_of_some _ e
    case hR =>
      intro s' mv z
      obtain ⟨h', g2, d', tk', os'⟩ := s'
      obtain rfl : g2 = s.gens := mv.gens
      obtain rfl : d' = s.drawn := mv.drawn
      obtain rfl : os' = s.os := mv.os
      show wpAny _ _ _ _ _ _
      refine wpAny_pure ?_
      show wpAny _ _ (ret Value.none) _ _ _
      refine wpAny_pure ⟨rfl, h', tk', rfl, z, fun b o e => ?_⟩
      have lb := Heap.lt_size e
      refine mv.heap b o (fun z => ?_) (Heap.get?_push_of_some _ (Heap.get?_push_of_some _ e))
      rcases List.mem_cons.mp z with z | z
      · exact Nat.ne_of_lt lb z
      · exact Nat.ne_of_lt (Nat.lt_succ_of_lt lb) ((List.mem_singleton.mp z).trans hz1)
  · rcases r₂ with e | (r | _ | _ | _) <;> first | exact hr₂ | exact hr₂.elim | skip
    obtain ⟨rfl, h', tk, rfl, z, k⟩ := hr₂
    repeat (any_goals (first | assumption | wp_step))
    exact h _ _ z k
end
end TxSet
namespace SrtX
open PySem PyProof.Rows Srt
open SrtO hiding Str
section
variable {prog : Program} {w : World} {A : Around} {E : Value → Shared → Prop} {s : Shared}
abbrev tx (v : Value) : Str := TxSet.keyT (0, v)
theorem txt_cmp {vs : List Value} (hI : ∀ v ∈ vs, ∃ k t, v = Value.str k t) : Cmp prog w A s oneType' (fun p => p.1 ∈ vs) (lt2 fun v u => ltS (tx v) (tx u)) := by
  intro p q hm hm'
  obtain ⟨a, t, e⟩ := hI _ hm
  obtain ⟨b, u, e'⟩ := hI _ hm'
  show wpAny (model prog w) A (keyLt' oneType' p.1 q.1) (fun r s' => s' = s ∧ r = ltS (tx p.1) (tx q.1)) (fun _ _ => False) s
  rw [e, e', keyLt'_oneType]
  exact oneLt_str ⟨rfl, rfl⟩
theorem strs_of : ∀ {vs : List Value}, (∀ v ∈ vs, ∃ k t, v = Value.str k t) → StrsAre vs (vs.map tx)
  | [], _ => .nil
  | v :: vs, h => by
    obtain ⟨k, t, e⟩ := h v List.mem_cons_self
    subst e
    exact .cons k t (strs_of fun u hu => h u (List.mem_cons_of_mem _ hu))
theorem txt_sortable {a : Addr} {vs : List Value} (hI : ∀ v ∈ vs, ∃ k t, v = Value.str k t) (h2 : 2 ≤ vs.length) : SortableO prog w A s a vs fun v u => ltS (tx v) (tx u) := by
  intro h' _
  refine ⟨oneType', fun Q E hq => ?_, txt_cmp hI⟩
  match vs, hI, h2 with
  | v1 :: v2 :: rest, hI, _ =>
    rw [keyKind_strs (strs_of hI)]
    exact wpAny_pure hq
  | [], _, h => exact absurd h (by decide)
  | [v], _, h => exact absurd h (by simp)
end
end SrtX
end
section
set_option Elab.async false
set_option linter.all false
set_option maxRecDepth 100000
set_option maxHeartbeats 4000000
namespace TxSet
open PySem PySem.Spec PyProof.Rows L2
theorem fits_scan {n : Nat} (h : n < scanBound) : n ≤ sizeLine := fits_of_scanBound h
end TxSet
namespace SrtX
open PySem PyProof.Rows Srt
open SrtO hiding Str
/-- ascending texts -/
abbrev Asc (l : List Str) : Prop := l.Pairwise fun x y => ltS y x = false
section
variable {P : Program} {w : World} {A : Around} {E : Value → Shared → Prop} {s : Shared} {a : Addr} {L : List Str}
/-- sorted(s) of a set of texts -/
theorem sorted_set_txt {Q : Value → Shared → Prop} (R : TxSet.SetT w s.heap a L) (hh : A.handled = none)
    (hQ : ∀ s' p (out : List Value) (c : Nat), (∀ b o, s.heap.get? b = some o → s'.heap.get? b = some o) → s'.gens = s.gens → s'.os = s.os → s.heap.objs.size ≤ p → s'.heap.get? p = some (seqObj "list" out.toArray c) →
      (∀ v ∈ out, ∃ k t, v = Value.str k t) → (out.map tx).Perm L → Asc (out.map tx) → Q (.ref p) s') : wpAny (model P w) A (call (.builtin "sorted") [.ref a]) Q E s := by
  obtain ⟨o, es, ep, t, ho, hex, hd, g, m, nd, hb, hf, hr, hl⟩ := R
  refine Calls.call_function_entry kind_sorted plain_sorted entry_sorted (args_sorted1 _) ?_
  unfold Builtin.«sorted»
  refine wpAny_bind (m := checkCount "sorted" 1 1 _) (wpAny_pure (wpAny_bind (L2.collect_set (A := A.in1) hh ⟨o, ho, hex.1, hd⟩ hf hb hr hl fun s1 vs k1 hz g1 o1 pm => ?_)))
  have hlen : vs.length ≤ sizeLine := by
    rw [pm.length_eq, List.length_map, Array.length_toList]
    exact TxSet.fits_scan hb
  have hI : ∀ v ∈ vs, ∃ k t, v = Value.str k t := fun v hv => by
    obtain ⟨e, he, q⟩ := List.mem_map.mp (pm.mem_iff.mp hv)
    obtain ⟨k, t, rfl⟩ := g e he
    exact ⟨k, t, q.symm⟩
  have pk : (vs.map tx).Perm L := by
    have q := pm.map tx
    rw [List.map_map] at q
    exact q.trans m
  refine wpAny_bind (wpAny_newList ?_ hlen)
  have hoL : (s1.heap.push (seqObj "list" vs.toArray 0)).get? s1.heap.objs.size = some (seqObj "list" vs.toArray 0) := Heap.get?_push_size _ rfl
  refine wpAny_bind (wpAny_holding (wpAny_call_entry slot_list_sort ⟨_, hoL, rfl⟩ entry_list_sort (list_sort_ord (swo_by tx) hoL hlen (fun h2 => txt_sortable hI h2) fun out hs hbt => ⟨_, rfl, ?_⟩) (args_list_sort _)))
  obtain ⟨c, hc⟩ := sortedHeap_at (vs := vs) (out := out.toArray) hoL
  refine wpAny_pure ⟨_, rfl, hQ _ s1.heap.objs.size out c (fun b u e => ?_) g1 o1 hz hc (fun v hv => hI v (hbt.perm.mem_iff.mp hv)) ((hbt.perm.map tx).trans pk) (SrtO.srtd_map hs)⟩
  have q := k1 b u e
  have lt := Heap.lt_size q
  show (sortedHeap (s1.heap.push (seqObj "list" vs.toArray 0)) s1.heap.objs.size vs out.toArray).get? b = some u
  rw [sortedHeap_old (Nat.ne_of_lt lt) (by rw [size_push']; exact Nat.lt_succ_of_lt lt)]
  exact Heap.get?_push_of_some _ q
end
end SrtX
namespace L2
open PySem PySem.Spec PyProof.Rows
/-- the set at a has the members L -/
def SetX (w : World) (a : Addr) (L : List Str) : HO := .ext fun h => TxSet.SetT w h a L
theorem setX_new {w : World} {P : Program} {H : Hp} {h : Heap} {a : Addr} {L : List Str} (R : TxSet.SetT w h a L) : ObjOk P w H h a (SetX w a L) := by
  have ⟨o, _, _, _, ho, _⟩ := R
  exact ⟨R, ⟨o, ho⟩, fun h1 h2 p k => TxSet.SetT.at p k⟩
section
variable {X : Cx}
theorem setX_get {pins : List (Addr × Obj)} {σ : St} {H : Hp} {s : Shared} {a : Addr} {L : List Str} (I : Inv X pins σ H s) (ha : H a = some (SetX X.w a L)) : TxSet.SetT X.w s.heap a L := (I.hok a _ ha).1
/-- set(xs), a list of texts -/
def rSetX (K : PySem.W.Frag) (w : World) : List V → Hp → VK → Prop := fun vs H Q => ∃ (a : Addr) (ks : List Str), vs = [.ref a] ∧ SqL K H a (ks.map V.str) ∧ ks.length + 1 < scanBound ∧ ∀ p, H p = none → Q (.ref p) (upd H p (SetX w p (ks.foldl TxSet.addL [])))
theorem cr_setX (hc : X.calm = true) : CallR X (.type "set") (rSetX X.K X.w) := by
  intro pins s σ H vs us Q I r h
  obtain ⟨a, ks, rfl, hs, hb, q⟩ := h
  obtain ⟨its, rv, hl, hz⟩ := I.list hs
  rw [Vals.ref1 r]
  refine TxSet.call_set_txt (ks := ks) (I.ok.hd hc) hl.isList (by rw [List.size_toArray, ← rv.length, List.length_map]) (fun i v e => ?_) hb fun h' tk z k => ?_
  · rw [List.getElem?_toArray] at e
    cases e2 : ks[i]? with
    | none =>
      have e3 := rv.none_of (i := i) (by rw [List.getElem?_map, e2]; rfl)
      rw [e] at e3
      cases e3
    | some k =>
      obtain ⟨u, hu, ru⟩ := rv.get (i := i) (x := V.str k) (by rw [List.getElem?_map, e2]; rfl)
      rw [e] at hu
      cases hu
      obtain ⟨t, e⟩ := ru
      exact ⟨k, t, rfl, e⟩
  · exact ⟨.ref _, upd H s.heap.objs.size (SetX X.w s.heap.objs.size (ks.foldl TxSet.addL [])), I.laid (t' := tk) k (Nat.le_refl _) (setX_new z), rfl, q _ (I.hok.fresh (Nat.le_refl _))⟩
/-- len(s) -/
def rLenX (w : World) : List V → Hp → VK → Prop := fun vs H Q => ∃ a L, vs = [.ref a] ∧ H a = some (SetX w a L) ∧ L.length < scanBound ∧ Q (.int (L.length : Nat)) H
theorem cr_lenX : CallR X (.builtin "len") (rLenX X.w) := by
  intro pins s σ H vs us Q I r h
  obtain ⟨a, L, rfl, ha, hb, q⟩ := h
  rw [Vals.ref1 r]
  obtain ⟨o, es, ep, t, ho, hex, hd, hn, hf⟩ := (setX_get I ha).size_eq
  refine call_len_set ho hex hd hf (by rw [hn]; unfold scanBound at hb; omega) ⟨.int (L.length : Nat), H, I.tok _, ⟨_, by rw [hn]⟩, q⟩
/-- sorted(s) -/
def rSortedX (w : World) : List V → Hp → VK → Prop := fun vs H Q => ∃ (a : Addr) (L : List Str), vs = [.ref a] ∧ H a = some (SetX w a L) ∧ L.length ≤ sizeLine ∧ ∀ (ys : List Str) (p : Addr), ys.Perm L → SrtX.Asc ys → H p = none → Q (.ref p) (upd H p (.lst (ys.map V.str)))
theorem cr_sortedX (hc : X.calm = true) : CallR X (.builtin "sorted") (rSortedX X.w) := by
  intro pins s σ H vs us Q I r h
  obtain ⟨a, L, rfl, ha, hb, q⟩ := h
  rw [Vals.ref1 r]
  refine SrtX.sorted_set_txt (setX_get I ha) (I.ok.hd hc) fun s' p out c k g o hp hg hI hm hs => ?_
  have hn : H p = none := I.hok.fresh hp
  have vals : ∀ l : List Value, (∀ v ∈ l, ∃ k t, v = Value.str k t) → Vals ((l.map SrtX.tx).map V.str) l := fun l => by
    induction l with
    | nil => exact fun _ => .nil
    | cons v l ih =>
      intro h
      obtain ⟨k, t, e⟩ := h v List.mem_cons_self
      subst e
      exact .cons ⟨t, rfl⟩ (ih fun u hu => h u (List.mem_cons_of_mem _ hu))
  have hlen : ((out.map SrtX.tx).map V.str).length ≤ sizeLine := by
    rw [List.length_map, hm.length_eq]
    exact hb
  have J : Inv X pins σ (upd H p (.lst ((out.map SrtX.tx).map V.str))) { s with heap := s'.heap, gens := s'.gens, drawn := s'.drawn, toks := s'.toks } :=
    I.call (ch := []) (Un.laid k hp hn) (I.hok.laid k hp ⟨hlen, out, c, vals out hI, hg⟩) (by rw [g]; exact I.bare) (fun _ z => nomatch z)
  have e : s' = { s with heap := s'.heap, gens := s'.gens, drawn := s'.drawn, toks := s'.toks } := by
    cases s'
    cases s
    cases o
    rfl
  rw [e]
  exact ⟨.ref p, _, J, rfl, q _ p hm hs hn⟩
end
end L2
end
section
set_option Elab.async false
set_option linter.all false
set_option maxRecDepth 100000
set_option maxHeartbeats 4000000
namespace L2
open PySem PySem.Spec PyProof.Rows PpSet
section
variable {X : Cx} {pins : List (Addr × Obj)} {σ : St} {H : Hp} {s : Shared}
theorem setX_add {E : Value → Shared → Prop} {D : Addr} {L : List Str} {y : Str} {tk : Tok} {Q : Value → Shared → Prop} (I : Inv X pins σ H s) (hD : H D = some (SetX X.w D L)) (room : L.length + 1 < scanBound)
    (h : ∀ s', Inv X pins σ (upd H D (SetX X.w D (TxSet.addL L y))) s' → Q .none s') : wpAny (model X.prog X.w) X.A (call (.builtin "set.add") [.ref D, .str y tk]) Q E s := by
  refine TxSet.add_ok (setX_get I hD) room fun h' sb new => ?_
  have he : ∃ u, h'.get? D = some u := by
    obtain ⟨o, _, _, _, ho, _⟩ := new
    exact ⟨o, ho⟩
  exact h _ (I.write (e := D) (t' := s.toks + 1) (by rw [hD]; trivial) (.inl rfl) (fun b u hb hu => (sb.2 b hb).trans hu) he (setX_new new))
/-- one turn of {elt for tg in ..}: the item is taken, the element put in -/
def tPut (w : World) (te : TE) (D : Addr) (N : Hp → Prop) : St → Hp → Prop := fun σ H => te σ H fun y H4 => ∃ (k : Str) (L : List Str), y = .str k ∧ H4 D = some (SetX w D L) ∧ L.length + 1 < scanBound ∧ N (upd H4 D (SetX w D (TxSet.addL L k)))
/-- {elt for tg in iter if ..}, elt a text -/
def tScX (w : World) (wi : TI) (g : TG) (tt : TT) (te : TE) (vs : List Nat) : TE := fun σ H Q => wi σ H fun J H1 => ∀ D, H1 D = none → ∃ W : Nat → Nat → Hp → Prop, (∃ m, W 0 m (upd H1 D (SetX w D []))) ∧ ∀ i m H, W i m H →
  (J.stop i H ∧ Q (.ref D) H) ∨ (J.go i H ∧ ∃ N : Hp → Prop, (∀ H', N H' → ∃ m', m' < m ∧ W (i + 1) m' H') ∧ ∀ x H', J.yld i H x H' → g x (wipe σ vs) H' fun σ2 H2 => wipe σ2 vs = wipe σ vs ∧ tt σ2 H2 fun b H3 => if b = true then tPut w te D N σ2 H3 else N H3)
variable {elt tg iter : Expr} {ifs : List Expr} {scope : Scope} {own : List (PySem.Str × Nat)} {pos pos' : Pos} {wi : TI} {g : TG} {tt : TT} {te : TE}
theorem scX_core {Q : VK} {use : Option (Value → Sem Unit)} {Qf : Value → Shared → Prop} (hc : X.calm = true) (hN : X.N.Nodup) (I : Inv X pins σ H s) (hi : PI X tg iter wi) (ok : BlkOk X.N X.env.scope scope own)
    (hg : ∀ (s : Shared) (H : Hp) (C : Addr) (cl : List (PySem.Str × Addr)) (fp : List Addr), PG (X.blk s H scope (compEnvC scope cl C X.env) fp) tg g) (ht : ∀ (s : Shared) (H : Hp) (C : Addr) (cl : List (PySem.Str × Addr)) (fp : List Addr), PTs (X.blk s H scope (compEnvC scope cl C X.env) fp) ifs tt)
    (he : ∀ (s : Shared) (H : Hp) (C : Addr) (cl : List (PySem.Str × Addr)) (fp : List Addr), PE (X.blk s H scope (compEnvC scope cl C X.env) fp) elt te) (hs : ∀ x, foldedSetIterable iter X.env x = pure x) (h : tScX X.w wi g tt te (own.map (·.2)) σ H Q)
    (hR : ∀ D C s' m H', Inv X pins σ H' s' → Q (.ref D) H' → s'.heap.Ns C m → FpOk X pins H' C → compPost (model X.prog X.w) X.A X.xe use Qf (.ref D) C (.ok .next) s') :
    wpAny (model X.prog X.w) X.A (comprehension (.SetComp elt [⟨tg, iter, ifs, 0⟩] scope pos) scope X.env pos' (newSet (.type "set")) false (eval iter X.env) use) Qf X.xe s := by
  refine wpAny_comprehension_free (use := use) rfl hs (closure_ok fun y hy e => ?_) ok.kind (fun y hy e => by rw [ok.uniq y hy, e]) (thn (hi.run pins s σ H _ I h) fun xv s1 hx => thn hx fun itv s2 h2 => ?_)
  · rcases ok.free y hy e with k | k
    · exact I.ok.has _ (.inl k)
    · exact I.ok.has _ (.inr k)
  obtain ⟨it, fp, tn, J, H2, e, I2, T, st2, f2, q⟩ := h2
  subst e
  refine newSet_ok (newEnv_comp ?_)
  generalize hD : s2.heap.objs.size = D
  have nD : H2 D = none := I2.hok.fresh (Nat.le_of_eq hD)
  obtain ⟨W, ⟨m0, w0⟩, turn⟩ := q D nD
  generalize hs3 : ({ s2 with heap := s2.heap.push (TxSet.freshO X.w) } : Shared) = s3
  have h3 : s3.heap = s2.heap.push (TxSet.freshO X.w) := by rw [← hs3]
  have I3 : Inv X pins σ (upd H2 D (SetX X.w D [])) s3 := by
    rw [← hs3]
    refine I2.laid (t' := s2.toks) (fun b o e => Heap.get?_push_of_some _ e) (Nat.le_of_eq hD) ?_
    rw [← hD]
    exact setX_new (TxSet.fresh_set X.w)
  have f3 : ∀ b ∈ fp, FpOk X pins (upd H2 D (SetX X.w D [])) b ∧ b < s3.heap.objs.size := fun b hb => by
    obtain ⟨o, e, _⟩ := T.obj _ _ st2 b hb
    have lt := Heap.lt_size e
    have ne : b ≠ D := by rw [← hD]; exact Nat.ne_of_lt lt
    exact ⟨⟨by rw [upd_ne ne]; exact (f2 b hb).1, (f2 b hb).2⟩, by rw [h3, Heap.size_push]; exact Nat.lt_succ_of_lt lt⟩
  have n3 : ∀ b ∈ fp, (upd H2 D (SetX X.w D [])) b = none := fun b hb => (f3 b hb).1.1
  have st3 : tn 0 s3.heap := T.keep _ _ _ st2 fun b _ o e => by rw [h3]; exact Heap.get?_push_of_some _ e
  have I4 := block_start I3 ok hN f3
  show codeAny _ _ (.compStart (.SetComp elt [⟨tg, iter, ifs, 0⟩] scope pos) 0 (.ref it) (.ref D) (compEnvC scope (cellsFrom (s3.heap.objs.size + 1) scope.names (cloFrom X.env.cells scope.names [])) s3.heap.objs.size X.env)) (compPost (model X.prog X.w) X.A X.xe use Qf (.ref D) s3.heap.objs.size) { s3 with heap := pushCells (s3.heap.push { cls := .type "dict", data := .dict #[] }) scope.names }
  have pg := hg s3 (upd H2 D (SetX X.w D [])) s3.heap.objs.size (cellsFrom (s3.heap.objs.size + 1) scope.names (cloFrom X.env.cells scope.names [])) fp
  have pt := ht s3 (upd H2 D (SetX X.w D [])) s3.heap.objs.size (cellsFrom (s3.heap.objs.size + 1) scope.names (cloFrom X.env.cells scope.names [])) fp
  have pe := he s3 (upd H2 D (SetX X.w D [])) s3.heap.objs.size (cellsFrom (s3.heap.objs.size + 1) scope.names (cloFrom X.env.cells scope.names [])) fp
  generalize hce : compEnvC scope (cellsFrom (s3.heap.objs.size + 1) scope.names (cloFrom X.env.cells scope.names [])) s3.heap.objs.size X.env = ce at I4 pg pt pe ⊢
  have cL : ce.locals = s3.heap.objs.size := by subst hce; rfl
  generalize hH3 : upd H2 D (SetX X.w D []) = H3 at I3 I4 pg pt pe w0 n3 f3
  generalize hs4 : ({ s3 with heap := pushCells (s3.heap.push { cls := .type "dict", data := .dict #[] }) scope.names } : Shared) = s4 at I4 ⊢
  have st4 : tn 0 s4.heap := T.keep _ _ _ st3 fun b _ o e => by rw [← hs4]; exact pushCells_keeps _ _ _ _ (Heap.get?_push_of_some _ e)
  have own_fp : ∀ {σ' : St} {H' : Hp} {s' : Shared}, Inv (X.blk s3 H3 scope ce fp) [] σ' H' s' → (∀ b ∈ fp, H' b = none) → ∀ b ∈ fp, FpOk (X.blk s3 H3 scope ce fp) [] H' b := fun {σ' H' s'} J' hn b hb =>
    ⟨hn b hb, (J'.ok.exf b hb).1, J'.ok.exfs b hb, .inl hb, fun x c e => (J'.ok.exf b hb).2 x c e, fun p hp => absurd (show p ∈ ([] : List (Addr × Obj)) ++ [] from hp) (by simp)⟩
  refine codeAny_compStart_set ?loop (T.self X.A 0 _ _ _ st4 ?loop)
  refine compLoopS_any (fun n s' => ∃ i H', Inv (X.blk s3 H3 scope ce fp) [] (wipe σ (own.map (·.2))) H' s' ∧ tn i s'.heap ∧ (∀ b ∈ fp, H' b = none) ∧ W i n H') ?_ m0 ⟨0, H3, I4, st4, n3, w0⟩
  rintro n s5 ⟨i, H5, I5, st5, n5, w5⟩
  rcases turn i n H5 w5 with ⟨stop, qq⟩ | ⟨go, N, hN', step⟩
  · refine thnF (T.done (X.blk s3 H3 scope ce fp) rfl rfl rfl hc i [] s5 _ H5 (fun _ _ => False) I5 (own_fp I5 n5) st5 stop) fun r s6 ⟨hr, I6⟩ => ?_
    subst hr
    have I7 : Inv X pins σ H5 s6 := I3.call' (ch := fp) I6.os I6.base I6.hok I6.bare fun b hb => ⟨(f3 b hb).1.2.2.2.1, (f3 b hb).1.2.1, (f3 b hb).1.2.2.2.2.1, (f3 b hb).1.2.2.2.2.2⟩
    have nC : H5 s3.heap.objs.size = none := by
      have z : H5 ce.locals = none := I6.free
      rw [cL] at z
      exact z
    obtain ⟨m, hn, _⟩ := I6.loc
    have hn : s6.heap.Ns ce.locals m := hn
    rw [cL] at hn
    exact hR D s3.heap.objs.size s6 m H5 I7 qq hn (I3.fpOk (Nat.le_refl _) nC)
  · refine thnF (T.item (X.blk s3 H3 scope ce fp) rfl rfl rfl hc i [] s5 _ H5 (fun _ _ => False) I5 (own_fp I5 n5) st5 go) fun r s6 ⟨u, hr, h6⟩ => ?_
    subst hr
    refine thnF h6 fun _ s7 ⟨x, H7, I7, r7, y7, st7, n7⟩ => ?_
    refine thnF (pg.run _ s7 _ H7 x u _ (I7.pinned (own_fp I7 n7) (T.obj _ _ st7)) r7 (step x H7 y7)) fun _ s8 ⟨σ8, H8, I8, hw8, q8⟩ => ?_
    refine thnF (pt.run _ s8 σ8 H8 _ I8 q8) fun b s9 ⟨H9, I9, q9⟩ => ?_
    have fin : ∀ {s' : Shared} {H' : Hp}, Inv (X.blk s3 H3 scope ce fp) ([] ++ pinsAt fp s7.heap) σ8 H' s' → N H' → ∃ m, m < n ∧ ∃ i H', Inv (X.blk s3 H3 scope ce fp) [] (wipe σ (own.map (·.2))) H' s' ∧ tn i s'.heap ∧ (∀ b ∈ fp, H' b = none) ∧ W i m H' := fun {s' H'} J' nx => by
      obtain ⟨m', hm, w'⟩ := hN' H' nx
      have pin : ∀ b ∈ fp, ∀ o, s7.heap.get? b = some o → s'.heap.get? b = some o ∧ H' b = none := fun b hb o e =>
        let z := J'.pin (b, o) (List.mem_append_right _ (List.mem_append_right _ (mem_pinsAt hb e)))
        ⟨z.1, z.2.1⟩
      refine ⟨m', hm, i + 1, H', (J'.unpinned (pins := [])).weak (by rw [← hw8, wipe_length]) (fun j v e => ?_), T.keep _ _ _ st7 fun b hb o e => (pin b hb o e).1, fun b hb => ?_, w'⟩
      · rw [← hw8] at e
        exact (wipe_some e).1
      · obtain ⟨o, e, _⟩ := T.obj _ _ st7 b hb
        exact (pin b hb o e).2
    cases b with
    | false =>
      simp only [Bool.false_eq_true, if_false] at q9 ⊢
      exact fin I9 q9
    | true =>
      simp only [if_true] at q9 ⊢
      refine thnF (pe.run _ s9 σ8 H9 _ I9 q9) fun z s10 ⟨yv, H10, I10, r10, kb, L0, ey, hD10, hz10, nx⟩ => ?_
      subst ey
      obtain ⟨tk, e⟩ := (show ∃ t, z = Value.str kb t from r10)
      subst e
      exact setX_add (X := X.blk s3 H3 scope ce fp) I10 hD10 hz10 fun s11 I11 => fin I11 nx
theorem pe_scX (hc : X.calm = true) (hN : X.N.Nodup) (hi : PI X tg iter wi) (ok : BlkOk X.N X.env.scope scope own)
    (hg : ∀ (s : Shared) (H : Hp) (C : Addr) (cl : List (PySem.Str × Addr)) (fp : List Addr), PG (X.blk s H scope (compEnvC scope cl C X.env) fp) tg g) (ht : ∀ (s : Shared) (H : Hp) (C : Addr) (cl : List (PySem.Str × Addr)) (fp : List Addr), PTs (X.blk s H scope (compEnvC scope cl C X.env) fp) ifs tt)
    (he : ∀ (s : Shared) (H : Hp) (C : Addr) (cl : List (PySem.Str × Addr)) (fp : List Addr), PE (X.blk s H scope (compEnvC scope cl C X.env) fp) elt te) (hs : ∀ x, foldedSetIterable iter X.env x = pure x := by intro _; rfl) :
    PE X (.SetComp elt [⟨tg, iter, ifs, 0⟩] scope pos) (tScX X.w wi g tt te (own.map (·.2))) := by
  refine ⟨fun pins s σ H Q I h => ?_⟩
  rw [eval_SetComp]
  refine scX_core hc hN I hi ok hg ht he hs h fun D C s' m H' I' q hn f => ⟨m, hn, fun h'' sb => ?_⟩
  obtain ⟨f0, f1, f2, f3, f4, f5⟩ := f
  exact ⟨.ref D, H', I'.turned (t' := s'.toks) (fun b o hb e => (sb.2 b hb).trans e) f0 f1 f3 f4 f5, rfl, q⟩
end
/-- over a list that stays -/
theorem scX_list {w : World} {K : PySem.W.Frag} {a : Addr} {xs : List V} {g : TG} {tt : TT} {te : TE} {vs : List Nat} {σ : St} {H1 : Hp} {D : Addr} {Qd : Hp → Prop} (Pv : Nat → Hp → Prop) (h0 : Pv 0 (upd H1 D (SetX w D []))) (hl : ∀ i H, i ≤ xs.length → Pv i H → SqL K H a xs)
    (hs : ∀ i x H, xs[i]? = some x → Pv i H → g x (wipe σ vs) H fun σ2 H2 => wipe σ2 vs = wipe σ vs ∧ tt σ2 H2 fun b H3 => if b = true then tPut w te D (Pv (i + 1)) σ2 H3 else Pv (i + 1) H3) (hd : ∀ H, Pv xs.length H → Qd H) :
    ∃ W : Nat → Nat → Hp → Prop, (∃ m, W 0 m (upd H1 D (SetX w D []))) ∧ ∀ i m H, W i m H →
      ((Itl K a).stop i H ∧ Qd H) ∨ ((Itl K a).go i H ∧ ∃ N : Hp → Prop, (∀ H', N H' → ∃ m', m' < m ∧ W (i + 1) m' H') ∧ ∀ x H', (Itl K a).yld i H x H' → g x (wipe σ vs) H' fun σ2 H2 => wipe σ2 vs = wipe σ vs ∧ tt σ2 H2 fun b H3 => if b = true then tPut w te D N σ2 H3 else N H3) := by
  refine ⟨fun i m H => m = xs.length - i ∧ i ≤ xs.length ∧ Pv i H, ⟨_, rfl, Nat.zero_le _, h0⟩, ?_⟩
  rintro i m H ⟨rfl, hi, p⟩
  have q := hl i H hi p
  rcases Nat.lt_or_ge i xs.length with lt | ge
  · refine .inr ⟨⟨xs, xs[i], q, by simp [lt]⟩, Pv (i + 1), fun H' p' => ⟨xs.length - (i + 1), by omega, rfl, lt, p'⟩, fun x H' y => ?_⟩
    obtain ⟨e, y⟩ := y
    subst e
    exact hs i x _ (y xs q) p
  · have e : i = xs.length := by omega
    subst e
    exact .inl ⟨⟨xs, q, Nat.le_refl _⟩, hd H p⟩
end L2
end
section
set_option Elab.async false
set_option linter.all false
set_option maxRecDepth 100000
set_option maxHeartbeats 4000000
namespace K13
open PySem PySem.Spec PyProof.Rows L2
/-! ### the text by places -/
def top (i : Nat) : Stmt := PySem.Challenge.pw_gatequarters_k13_whole_used_and_needed_s.main.body.getD i (.Pass ⟨0, 0, 0, 0⟩)
abbrev sCount : Stmt := top 10
abbrev sWhole : Stmt := top 9
abbrev sAreStreets : Stmt := top 18
abbrev sAreGates : Stmt := top 20
abbrev sIsWord : Stmt := top 16
abbrev sIsStreet : Stmt := top 17
abbrev sChkStreets : Stmt := top 19
abbrev sChkGates : Stmt := top 21
abbrev sChkQuarter : Stmt := top 24
abbrev sChkTown : Stmt := top 25
abbrev sEndsOf : Stmt := top 26
abbrev sCrossings : Stmt := top 27
abbrev sStreetOf : Stmt := top 28
abbrev sPlacesOf : Stmt := top 29
abbrev sAskedOf : Stmt := top 30
abbrev sTurned : Stmt := top 12
abbrev sShortest : Stmt := top 13
abbrev sBetter : Stmt := top 14
abbrev sPlace_ : Stmt := top 32
abbrev sSide : Stmt := top 33
abbrev sNetStreets : Stmt := top 34
abbrev sChkPlaces : Stmt := top 35
abbrev sAskedNet : Stmt := top 36
abbrev sBestWay : Stmt := top 39
abbrev sWayLength : Stmt := top 40
abbrev sUsed_ : Stmt := top 41
abbrev sNeeded_ : Stmt := top 42
abbrev sPlace : Stmt := top 61
abbrev sInner : Stmt := top 62
abbrev sNet : Stmt := top 63
abbrev sPlaces : Stmt := top 64
abbrev sAsked : Stmt := top 65
abbrev sShutW : Stmt := top 66
abbrev sFar : Stmt := top 67
abbrev sWays : Stmt := top 68
abbrev sDrawnNet : Stmt := top 69
abbrev sTown : Stmt := top 70
abbrev sPairs : Stmt := top 71
abbrev sEndsL : Stmt := top 72
abbrev sUnspoilt : Stmt := top 73
abbrev sRowsOf : Stmt := top 74
abbrev sWayLen : Stmt := top 75
abbrev sUsed : Stmt := top 76
abbrev sShutOne : Stmt := top 77
abbrev sPairR : Stmt := top 78
abbrev sRight : Stmt := top 79
abbrev sPurse : Stmt := top 44
abbrev sMixed : Stmt := top 45
abbrev sDraw : Stmt := top 46
abbrev sPurses : Stmt := top 47
abbrev sOneOf : Stmt := top 48
abbrev sShuffled : Stmt := top 49
abbrev sExact : Stmt := top 50
abbrev sWord : Stmt := top 51
abbrev sWords : Stmt := top 52
abbrev sWidth : Stmt := top 53
abbrev sLength : Stmt := top 54
abbrev sPair : Stmt := top 55
abbrev sShape : Stmt := top 56
abbrev sStreetsOf : Stmt := top 57
abbrev sWorld : Stmt := top 58
abbrev sQuarter : Stmt := top 59
abbrev sTownWorld : Stmt := top 60
abbrev sLaw : Stmt := top 80
def frees : List Str := ["sum", "int", "max", "min", "len", "range", "isinstance", "list", "dict", "tuple", "all", "bool", "str", "set", "sorted", "zip", "reversed", "any"]
abbrev FnP (K : PySem.W.Frag) (x : Str) (st : Stmt) (f : Addr) (fd : FuncData) : Prop := FunD K x x (defArgs st) (defBody st) (defScope st) [] [] f fd
/-- what the head has told of names -/
structure Tx (K : PySem.W.Frag) (mg : Str → Option Value) : Prop where
  fr : ∀ x ∈ frees, mg x = none
/-- a def of the text that keeps a promise, as it is called -/
def Fz (P : Program) (w : World) (K : PySem.W.Frag) (mg : Str → Option Value) (base : Heap) (x : Str) (k : Nat) (ps : List Str) (sp : Sp) : Prop :=
  ∃ (g : Addr) (fd : FuncData), FnOk P w K mg base CX0 k g fd ps sp ∧ mg x = some (.ref g) ∧ PySem.W.keepIn K (.ref g) = true ∧ Binds K fd ps []
theorem Fz.mono {P : Program} {w : World} {K : PySem.W.Frag} {mg : Str → Option Value} {base : Heap} {x : Str} {j k : Nat} {ps : List Str} {sp : Sp} (Z : Fz P w K mg base x j ps sp) (h : j ≤ k) : Fz P w K mg base x k ps sp := by
  obtain ⟨g, fd, F, r⟩ := Z
  exact ⟨g, fd, F.mono h, r⟩
section
variable {X : Cx} {x : Str} {k : Nat} {ps : List Str} {sp : Sp} {p pos : Pos} {e : Expr} {es : List Expr} {t : TA}
theorem pe_fz (Z : Fz X.prog X.w X.K X.mg X.base x k ps sp) (hr : Room k X.A) (hg : Gl X x) (ha : PA X (e :: es) t) (hdb : (x == ("__debug__" : Str)) = false := by decide)
    (he : starEach (e :: es) X.env = (false, eval e X.env) :: starEach es X.env := by rfl) (hpl : (backTo pos (starEach es X.env)).any (·.1) = false := by rfl) : PE X (.Call (.Name x p) (e :: es) [] pos) (tCall sp [] E0 t) := by
  obtain ⟨g, fd, F, hm, hk, hb⟩ := Z
  exact pe_call F hr hg hm hk hb .nil pass0 ha hdb he hpl
theorem pe_fz0 (Z : Fz X.prog X.w X.K X.mg X.base x k ps sp) (hr : Room k X.A) (hg : Gl X x) (hdb : (x == ("__debug__" : Str)) = false := by decide) : PE X (.Call (.Name x p) [] [] pos) (tCall sp [] E0 tNil) := by
  obtain ⟨g, fd, F, hm, hk, hb⟩ := Z
  exact pe_call0 F hr hg hm hk hb .nil pass0 hdb
end
/-- a statement that is never reached -/
theorem ps_never {X : Cx} {st : Stmt} : PS X st (fun _ _ _ => False) := ⟨fun _ _ _ _ _ _ h => h.elim⟩
end K13
end
section
set_option Elab.async false
set_option linter.all false
set_option maxRecDepth 100000
set_option maxHeartbeats 4000000
namespace K13
open PySem PySem.Spec PyProof.Rows L2
/-! ### numbers -/
section
variable {X : Cx}
theorem op_powB : OpR X (binaryOp .Pow) (rI (fun i j => 0 ≤ j ∧ (Builtin.Int.intBits i : Int) * j ≤ 2 ^ 27) fun i j => .int (i ^ j.toNat)) := opI fun _ _ _ _ _ _ _ hc q => pow_int hc.1 hc.2 q
end
/-- a purse of at most n draws -/
def PuOk (n : Int) (xs : List V) : Prop := ∃ a s t k : Int, xs = [.int a, .int s, .int t, .int k] ∧ 0 ≤ a ∧ 0 ≤ s ∧ s < 2147483629 ∧ 0 ≤ t ∧ t ≤ n ∧ 0 ≤ k ∧ k ≤ 3
theorem PuOk.mono {n m : Int} {xs : List V} (h : PuOk n xs) (l : n ≤ m) : PuOk m xs := by
  obtain ⟨a, s, t, k, e, h1, h2, h3, h4, h5, h6, h7⟩ := h
  exact ⟨a, s, t, k, e, h1, h2, h3, h4, by omega, h6, h7⟩
theorem bits_small {m : Int} (h0 : 0 ≤ m) (h1 : m < 128) : ((Builtin.Int.intBits m : Nat) : Int) / 28 = 0 := by
  obtain ⟨n, rfl⟩ := Int.eq_ofNat_of_zero_le h0
  have hn : n < 128 := by omega
  have key : ∀ n : Fin 128, ((Builtin.Int.intBits ((n.val : Nat) : Int) : Nat) : Int) / 28 = 0 := by decide +kernel
  exact key ⟨n, hn⟩
section
variable {P : Program} {w : World} {K : PySem.W.Frag} {mg : Str → Option Value} {base : Heap}
/-! ### _law_mixed -/
def spMixed : Sp := fun vs H Q _ => ∃ s t k : Int, vs = [.int s, .int t, .int k] ∧ 0 ≤ s ∧ s < 2147483648 ∧ 0 ≤ t ∧ t ≤ 1000000 ∧ 0 ≤ k ∧ k ≤ 3 ∧ ∀ r : Int, Q (.int r) H
theorem scMixed : FnScope ["_law_seed", "_law_turn", "_law_at", "_law_mixed_here"] ["_law_seed", "_law_turn", "_law_at"] (defScope sMixed) := ⟨rfl, rfl, rfl, by decide +kernel, rfl, by decide +kernel, by decide +kernel⟩
theorem ok_mixed {f : Addr} {fd : FuncData} (F : FnP K "_law_mixed" sMixed f fd) (T : Tx K mg) : FnOk P w K mg base CX0 1 f fd ["_law_seed", "_law_turn", "_law_at"] spMixed := by
  refine F.ok scMixed (fun vs H Q E h => ?_) (fun cdv A outer s H vs Q E hr h => ?_)
  · obtain ⟨_, _, _, rfl, _⟩ := h
    rfl
  · obtain ⟨s, t, k, rfl, s0, s1, t0, t1, k0, k1, q⟩ := h
    have gI := T.fr "int" (by decide +kernel)
    refine ⟨_, PSs.nox (pss_cons (ps_set (i := 3) scMixed.nd rfl (Or.inl rfl) (pe_op op_add (pe_op op_mul (pv 0) pe_int) (pe_op op_mul (pe_op op_mul pe_int (pv 1)) (pv 1))))
      (pss_cons (ps_set (i := 3) scMixed.nd rfl (Or.inl rfl) (pe_op op_mod (pe_callTy call_int1 (by rfl) gI (by decide +kernel) (pa_cons (pe_op op_add (pe_op op_add (pv 3) (pe_op op_mul pe_int (pv 2))) (pv 1)) pa_nil)) pe_int))
      (pss_cons (ps_set (i := 3) scMixed.nd rfl (Or.inl rfl) (pe_op op_mod (pe_callTy call_int1 (by rfl) gI (by decide +kernel) (pa_cons (pe_op op_add (pe_op op_mul (pv 3) (pv 3)) pe_int) pa_nil)) pe_int))
      (pss_one (ps_ret (pe_op op_mod (pe_callTy call_int1 (by rfl) gI (by decide +kernel) (pa_cons (pe_op op_mul (pv 3) pe_int) pa_nil)) pe_int)))))), ?_⟩
    have e0 : ∀ {a b : Int}, 0 < b → 0 ≤ a % b ∧ a % b < b := fun h => ⟨Int.emod_nonneg _ (by omega), Int.emod_lt_of_pos _ h⟩
    refine ⟨_, rfl, _, _, rfl, rfl, Or.inr ⟨by decide, by decide⟩, _, rfl, _, _, rfl, rfl, Or.inl ⟨by decide, by decide⟩, _, rfl, _, _, rfl, rfl, Or.inr ⟨by omega, by omega⟩, _, _, rfl, rfl, ?_⟩
    refine ⟨_, rfl, _, rfl, _, _, rfl, rfl, Or.inl ⟨by decide, by decide⟩, _, _, rfl, rfl, _, rfl, _, _, rfl, rfl, Or.inl ⟨_, rfl, _, _, rfl, rfl, (by show (0 : Int) < _; decide), ?_⟩⟩
    generalize hx : (s * 69069 + 104729 * t * t + 7919 * k + t) % 2147483647 = x
    have bx := @e0 (s * 69069 + 104729 * t * t + 7919 * k + t) 2147483647 (by decide)
    rw [hx] at bx
    refine ⟨_, rfl, _, rfl, _, _, rfl, rfl, Or.inl ⟨by omega, by omega⟩, _, _, rfl, rfl, Or.inl ⟨_, rfl, _, _, rfl, rfl, (by show (0 : Int) < _; decide), ?_⟩⟩
    generalize hy : (x * x + 40503) % 2147483629 = y
    have b_y := @e0 (x * x + 40503) 2147483629 (by decide)
    rw [hy] at b_y
    exact ⟨_, rfl, _, _, rfl, rfl, Or.inl ⟨by omega, by omega⟩, Or.inl ⟨_, rfl, _, _, rfl, rfl, (by show (0 : Int) < _; decide), q _⟩⟩

/-! ### _law_draw -/
def spDraw : Sp := fun vs H Q _ => ∃ (p : Addr) (m n : Int) (xs : List V), vs = [.ref p, .int m] ∧ H p = some (.lst xs) ∧ PuOk n xs ∧ n ≤ 900000 ∧ 0 < m ∧ m < 128 ∧
  ∀ (r : Int) (ys : List V), 0 ≤ r → r < m → PuOk (n + 1) ys → Q (.int r) (upd H p (.lst ys))
theorem scDraw : FnScope ["_law_purse_here", "_law_many", "_law_drawn", "_law_found", "_law_piece"] ["_law_purse_here", "_law_many"] (defScope sDraw) := ⟨rfl, rfl, rfl, by decide +kernel, rfl, by decide +kernel, by decide +kernel⟩
theorem ok_draw {f g : Addr} {fd fdM : FuncData} (F : FnP K "_law_draw" sDraw f fd) (FM : FnP K "_law_mixed" sMixed g fdM) (hgM : mg "_law_mixed" = some (.ref g)) (T : Tx K mg) :
    FnOk P w K mg base CX0 2 f fd ["_law_purse_here", "_law_many"] spDraw := by
  have GM : FnOk P w K mg base CX0 1 g fdM ["_law_seed", "_law_turn", "_law_at"] spMixed := ok_mixed FM T
  have bM : Binds K fdM ["_law_seed", "_law_turn", "_law_at"] [] := FM.bindsN fun _ _ _ _ _ _ us hl => match us, hl with | [_, _, _], _ => rfl
  refine F.ok scDraw (fun vs H Q E h => ?_) (fun cdv A outer s H vs Q E hr h => ?_)
  · obtain ⟨_, _, _, _, rfl, _⟩ := h
    rfl
  · obtain ⟨p, m, n, xs, rfl, hp, ⟨a, sd, t, k, rfl, a0, s0, s1, t0, t1, k0, k1⟩, hn, m0, m1, q⟩ := h
    have gI := T.fr "int" (by decide +kernel)
    have gR := T.fr "range" (by decide +kernel)
    refine ⟨_, PSs.nox (pss_cons (ps_if (pt_cmpR op_gt (pe_ix ix_list (pv 0) pe_int (fun _ _ => rfl)) pe_int (nomark _))
        (pss_cons (ps_set (i := 2) scDraw.nd rfl (Or.inl rfl) (pe_op op_mod (pe_callTy call_int1 (by rfl) gI (by decide +kernel) (pa_cons (pe_ix ix_list (pv 0) pe_int (fun _ _ => rfl)) pa_nil)) (pv 1)))
        (pss_cons (ps_asg (pe_op op_fdiv (pe_ix ix_list (pv 0) pe_int (fun _ _ => rfl)) (pv 1)) (pg_sub (pv 0) pe_int set_list))
        (pss_one (ps_ret (pv 2))))) pss_nil)
      (pss_cons (ps_set (i := 3) scDraw.nd rfl (Or.inl rfl) pe_int)
      (pss_cons (ps_for PassesOwn.never rfl (pi_range1 rfl gR (pa_cons (pe_op op_add pe_int (pe_op op_fdiv (pe_bits (pv 1)) pe_int)) pa_nil)) (pg_name (i := 4) scDraw.nd rfl (Or.inl rfl))
        (pss_cons (ps_asg (pe_op op_add (pe_ix ix_list (pv 0) pe_int (fun _ _ => rfl)) pe_int) (pg_sub (pv 0) pe_int set_list))
        (pss_one (ps_set (i := 3) scDraw.nd rfl (Or.inl rfl) (pe_op op_add (pe_op op_mul (pv 3) pe_int)
          (pe_call GM hr rfl hgM FM.kp bM .nil pass0 (pa_cons (pe_ix ix_list (pv 0) pe_int (fun _ _ => rfl)) (pa_cons (pe_ix ix_list (pv 0) pe_int (fun _ _ => rfl)) (pa_cons (pe_ix ix_list (pv 0) pe_int (fun _ _ => rfl)) pa_nil)))))))))
      (pss_one (ps_ret (pe_op op_mod (pe_callTy call_int1 (by rfl) gI (by decide +kernel) (pa_cons (pv 3) pa_nil)) (pv 1))))))), ?_⟩
    have hS : SqL K H p [.int a, .int sd, .int t, .int k] := SqL.of hp
    refine ⟨_, rfl, p, _, 0, _, rfl, rfl, hS, rfl, _, _, rfl, rfl, _, rfl, ?_⟩
    refine ite2 (fun hc => ?_) (fun _ => ?_)
    · refine ⟨_, rfl, p, _, 0, _, rfl, rfl, hS, rfl, Or.inl ⟨_, rfl, _, rfl, _, _, rfl, rfl, m0, ?_⟩⟩
      refine ⟨_, rfl, p, _, 0, _, rfl, rfl, hS, rfl, _, rfl, _, _, rfl, rfl, ⟨m0, by omega⟩, _, rfl, p, _, 0, 0, rfl, rfl, hp, rfl, _, rfl, ?_⟩
      exact q _ _ (Int.emod_nonneg _ (by omega)) (Int.emod_lt_of_pos _ m0) ⟨a / m, sd, t, k, rfl, Int.ediv_nonneg a0 (by omega), s0, s1, t0, by omega, k0, k1⟩
    · refine ⟨_, rfl, _, rfl, _, _, rfl, rfl, ⟨by decide, by decide⟩, _, _, rfl, rfl, 1, ?_, by decide, by decide, ?_⟩
      · rw [bits_small (by omega) m1]
        rfl
      · refine for_range (n := 1) (fun i σ H' => (i = 0 ∧ H' = H ∧ σ = [some (.ref p), some (.int m), none, some (.int 0), none]) ∨ (i = 1 ∧ ∃ r : Int, H' = upd H p (.lst [.int a, .int sd, .int (t + 1), .int k]) ∧ ∃ z, σ = [some (.ref p), some (.int m), none, some (.int r), z]))
          (Or.inl ⟨rfl, rfl, rfl⟩) ?_ ?_
        · rintro i σ H' hi (⟨rfl, rfl, rfl⟩ | ⟨rfl, _⟩)
          · have h2 : upd H' p (.lst [.int a, .int sd, .int (t + 1), .int k]) p = some (.lst [.int a, .int sd, .int (t + 1), .int k]) := upd_same
            have hS2 : SqL K (upd H' p (.lst [.int a, .int sd, .int (t + 1), .int k])) p [.int a, .int sd, .int (t + 1), .int k] := SqL.of h2
            refine ⟨_, rfl, p, _, 2, _, rfl, rfl, hS, rfl, _, _, rfl, rfl, _, rfl, p, _, 2, 2, rfl, rfl, hp, rfl, ?_⟩
            refine ⟨_, rfl, _, _, rfl, rfl, Or.inl ⟨by decide, by decide⟩, _, rfl, p, _, 1, _, rfl, rfl, hS2, rfl, _, rfl, p, _, 2, _, rfl, rfl, hS2, rfl, _, rfl, p, _, 3, _, rfl, rfl, hS2, rfl, ?_⟩
            refine ⟨sd, t + 1, k, rfl, s0, by omega, by omega, by omega, k0, k1, fun r => ⟨_, _, rfl, rfl, ?_⟩⟩
            exact Or.inr ⟨rfl, _, rfl, _, rfl⟩
          · omega
        · rintro σ H' (⟨e, _⟩ | ⟨_, r, rfl, z, rfl⟩)
          · cases e
          · refine ⟨_, rfl, Or.inl ⟨_, rfl, _, rfl, _, _, rfl, rfl, m0, ?_⟩⟩
            exact q _ _ (Int.emod_nonneg _ (by omega)) (Int.emod_lt_of_pos _ m0) ⟨a, sd, t + 1, k, rfl, a0, s0, s1, by omega, by omega, k0, k1⟩
end
end K13
end
section
set_option Elab.async false
set_option linter.all false
set_option maxRecDepth 100000
set_option maxHeartbeats 4000000
namespace K13
open PySem PySem.Spec PyProof.Rows L2
/-! ### texts -/
def one (c : Nat) : Str := ⟨#[c]⟩
theorem str_join_codes : ∀ cs : List Nat, (Str.join (Str.ofString "") (cs.map one)).cps.toList = cs
  | [] => rfl
  | [c] => rfl
  | c :: d :: r => by
    have ih := str_join_codes (d :: r)
    show (((one c).cps ++ (Str.ofString "").cps) ++ (Str.join (Str.ofString "") ((d :: r).map one)).cps).toList = _
    rw [Array.toList_append, Array.toList_append, ih]
    rfl
theorem join_codes (cs : List Nat) : (Txt.join (Str.ofString "") (cs.map one)).cps.toList = cs := by
  have e : Txt.join (Str.ofString "") (cs.map one) = Str.join (Str.ofString "") (cs.map one) := StrLaws.glued_eq_join _ _
  rw [e]
  exact str_join_codes cs
theorem str_length (z : Str) : z.length = z.cps.toList.length := by
  show z.cps.size = z.cps.toList.length
  simp
/-- a word: at most eight small letters -/
def Wd (z : Str) : Prop := 1 ≤ z.cps.toList.length ∧ z.cps.toList.length ≤ 8 ∧ ∀ c ∈ z.cps.toList, 97 ≤ c ∧ c ≤ 122
def abc : Str := "abcdefghijklmnopqrstuvwxyz"
theorem abc_at {r : Int} (h0 : 0 ≤ r) (h1 : r < 26) : abc.cps[r.toNat]? = some (97 + r.toNat) := by
  obtain ⟨n, rfl⟩ := Int.eq_ofNat_of_zero_le h0
  have hn : n < 26 := by omega
  have key : ∀ n : Fin 26, abc.cps[((n.val : Nat) : Int).toNat]? = some (97 + ((n.val : Nat) : Int).toNat) := by decide +kernel
  exact key ⟨n, hn⟩
theorem ones_len : ∀ cs : List Nat, ((cs.map one).map (·.length)).sum = cs.length
  | [] => rfl
  | c :: cs => by
    have ih := ones_len cs
    simp only [List.map_cons, List.sum_cons, List.length_cons, ih]
    show 1 + _ = _
    omega
/-- all that is tracked beside p stays -/
def But (p : Addr) (H H' : Hp) : Prop := ∀ b o, b ≠ p → H b = some o → H' b = some o
section
variable {P : Program} {w : World} {K : PySem.W.Frag} {mg : Str → Option Value} {base : Heap}
/-! ### _law_one_of -/
def spOneOf : Sp := fun vs H Q _ => ∃ (p l : Addr) (n : Int) (xs zs : List V), vs = [.ref p, .ref l] ∧ H p = some (.lst xs) ∧ PuOk n xs ∧ n ≤ 900000 ∧ H l = some (.lst zs) ∧ p ≠ l ∧ 0 < zs.length ∧ zs.length < 128 ∧
  ∀ (j : Nat) (z : V) (ys : List V), zs[j]? = some z → PuOk (n + 1) ys → Q z (upd H p (.lst ys))
theorem scOneOf : FnScope ["_law_purse_here", "_law_some"] ["_law_purse_here", "_law_some"] (defScope sOneOf) := ⟨rfl, rfl, rfl, by decide +kernel, rfl, by decide +kernel, by decide +kernel⟩
theorem ok_oneOf {f g : Addr} {fd fdD : FuncData} (F : FnP K "_law_one_of" sOneOf f fd) (GD : FnOk P w K mg base CX0 2 g fdD ["_law_purse_here", "_law_many"] spDraw) (FD : FnP K "_law_draw" sDraw g fdD) (hgD : mg "_law_draw" = some (.ref g)) (T : Tx K mg) :
    FnOk P w K mg base CX0 3 f fd ["_law_purse_here", "_law_some"] spOneOf := by
  have bD : Binds K fdD ["_law_purse_here", "_law_many"] [] := FD.bindsN fun _ _ _ _ _ _ us hl => match us, hl with | [_, _], _ => rfl
  refine F.ok scOneOf (fun vs H Q E h => ?_) (fun cdv A outer s H vs Q E hr h => ?_)
  · obtain ⟨_, _, _, _, _, rfl, _⟩ := h
    rfl
  · obtain ⟨p, l, n, xs, zs, rfl, hp, hx, hn, hl, npl, l0, l1, q⟩ := h
    have gL := T.fr "len" (by decide +kernel)
    refine ⟨_, PSs.nox (pss_one (ps_ret (pe_ix ix_list (pv 1) (pe_call GD hr rfl hgD FD.kp bD .nil pass0 (pa_cons (pv 0) (pa_cons (pe_callB call_len_seq (by rfl) gL PySem.boot_len (pa_cons (pv 1) pa_nil)) pa_nil))) (fun _ _ => rfl)))), ?_⟩
    refine ⟨_, rfl, _, rfl, _, rfl, l, _, rfl, Or.inl (SqL.of hl), p, _, n, xs, rfl, hp, hx, hn, by omega, by omega, fun r ys r0 r1 hy => ?_⟩
    obtain ⟨j, rfl⟩ := Int.eq_ofNat_of_zero_le r0
    have hj : j < zs.length := by omega
    have e : zs[j]? = some zs[j] := List.getElem?_eq_getElem hj
    exact ⟨l, zs, (j : Nat), zs[j], rfl, rfl, SqL.of (by rw [upd_ne (Ne.symm npl)]; exact hl), atI_nat e, q j _ ys e hy⟩
/-! ### _law_word -/
def spWord : Sp := fun vs H Q _ => ∃ (p : Addr) (n : Int) (xs : List V), vs = [.ref p] ∧ H p = some (.lst xs) ∧ PuOk n xs ∧ n ≤ 800000 ∧
  ∀ (z : Str) (ys : List V) (H' : Hp), Wd z → PuOk (n + 10) ys → But p H H' → H' p = some (.lst ys) → Q (.str z) H'
theorem scWord : FnScope ["_law_purse_here", "_law_size", "_law_turn"] ["_law_purse_here"] (defScope sWord) := ⟨rfl, rfl, rfl, by decide +kernel, rfl, by decide +kernel, by decide +kernel⟩
theorem ok_word {f g : Addr} {fd fdD : FuncData} (F : FnP K "_law_word" sWord f fd) (GD : FnOk P w K mg base CX0 2 g fdD ["_law_purse_here", "_law_many"] spDraw) (FD : FnP K "_law_draw" sDraw g fdD) (hgD : mg "_law_draw" = some (.ref g)) (T : Tx K mg) :
    FnOk P w K mg base CX0 3 f fd ["_law_purse_here"] spWord := by
  have bD : Binds K fdD ["_law_purse_here", "_law_many"] [] := FD.bindsN fun _ _ _ _ _ _ us hl => match us, hl with | [_, _], _ => rfl
  refine F.ok scWord (fun vs H Q E h => ?_) (fun cdv A outer s H vs Q E hr h => ?_)
  · obtain ⟨_, _, _, rfl, _⟩ := h
    rfl
  · obtain ⟨p, n, xs, rfl, hp, hx, hn, q⟩ := h
    have gR := T.fr "range" (by decide +kernel)
    refine ⟨_, PSs.nox (pss_cons (ps_set (i := 1) scWord.nd rfl (Or.inl rfl) (pe_op op_add pe_int (pe_call GD hr rfl hgD FD.kp bD .nil pass0 (pa_cons (pv 0) (pa_cons
        (pe_ifExp (pt_cmpR op_eq (pe_call GD hr rfl hgD FD.kp bD .nil pass0 (pa_cons (pv 0) (pa_cons pe_int pa_nil))) pe_int (nomark _)) pe_int pe_int) pa_nil)))))
      (pss_one (ps_ret (pe_join pe_str (pe_lc (own := [("_law_turn", 2)]) (g := gName 2) (tt := tYes) rfl scWord.nd (pi_range1 rfl gR (pa_cons (pv 1) pa_nil)) (blkOk_by (own := [("_law_turn", 2)]) (N := ["_law_purse_here", "_law_size", "_law_turn"]) (sc := defScope sWord) (by decide +kernel))
        (fun _ _ _ _ _ => pg_name (i := 2) scWord.nd rfl (Or.inl rfl)) (fun _ _ _ _ _ => pts_nil)
        (fun _ _ _ _ _ => pe_item_str pe_str (pe_call GD hr rfl hgD FD.kp bD .nil pass0 (pa_cons (pv 0) (pa_cons pe_int pa_nil))) (fun _ _ => rfl))))))), ?_⟩
    refine ⟨_, rfl, _, rfl, p, 3, n, xs, rfl, hp, hx, by omega, by decide, by decide, fun r1 ys1 a1 b1 hy1 => ⟨rfl, _, rfl, ?_⟩⟩
    refine ite2 (fun _ => ?_) (fun _ => ?_)
    all_goals
      refine ⟨p, _, n + 1, ys1, rfl, upd_same, hy1, by omega, by decide, by decide, fun r2 ys2 a2 b2 hy2 => ?_⟩
      refine ⟨_, _, rfl, rfl, ⟨_, rfl⟩, _, rfl, _, rfl, by omega, by omega, fun D hD => ?_⟩
      have hp2 : upd (upd H p (.lst ys1)) p (.lst ys2) p = some (.lst ys2) := upd_same
      have npD : p ≠ D := ne_of_none hp2 hD
      refine lc_range (lo := 0) (n := (1 + r2).toNat) (fun i H' => ∃ (xs' : List V) (cs : List Nat), H' p = some (.lst xs') ∧ PuOk (n + 2 + (i : Nat)) xs' ∧ cs.length = i ∧ (∀ c ∈ cs, 97 ≤ c ∧ c ≤ 122) ∧ H' D = some (.lst ((cs.map one).map V.str)) ∧ But p H H')
        ⟨ys2, [], by rw [upd_ne npD]; exact hp2, hy2.mono (by omega), rfl, fun c z => absurd z (by simp), upd_same, fun b o nb e => ?_⟩ ?_ ?_
      · have e2 : upd (upd H p (.lst ys1)) p (.lst ys2) b = some o := by rw [upd_ne nb, upd_ne nb]; exact e
        rw [upd_ne (ne_of_none e2 hD)]
        exact e2
      · rintro i H' hi ⟨xs', cs, h1, h2, h3, h4, h5, h6⟩
        refine ⟨rfl, _, rfl, p, 26, n + 2 + (i : Nat), xs', rfl, h1, h2, by omega, by decide, by decide, fun r ys r0 r3 hy => ?_⟩
        have hl : (abc.length : Int) = 26 := by decide +kernel
        refine ⟨abc, r, 97 + r.toNat, rfl, rfl, r0, by omega, by omega, abc_at r0 r3, (cs.map one).map V.str, by rw [upd_ne (Ne.symm npD)]; exact h5, ?_, ys, cs ++ [97 + r.toNat], ?_, hy.mono (by push_cast; omega), by simp [h3], ?_, ?_, ?_⟩
        · rw [List.length_map, List.length_map, h3, sizeLine_eq]
          omega
        · rw [upd_ne npD]
          exact upd_same
        · intro c hc
          rcases List.mem_append.mp hc with z | z
          · exact h4 c z
          · have e := List.mem_singleton.mp z
            omega
        · rw [upd_same, List.map_append, List.map_append]
          rfl
        · intro b o nb e
          have e2 := h6 b o nb e
          have nD : b ≠ D := fun z => by
            have e3 : upd (upd H p (.lst ys1)) p (.lst ys2) b = some o := by rw [upd_ne nb, upd_ne nb]; exact e
            rw [z, hD] at e3
            cases e3
          rw [upd_ne nD, upd_ne nb]
          exact e2
      · rintro H' ⟨xs', cs, h1, h2, h3, h4, h5, h6⟩
        have e := join_codes cs
        refine ⟨_, D, cs.map one, rfl, rfl, Or.inl (SqL.of h5), ?_, q _ xs' H' ⟨?_, ?_, ?_⟩ (h2.mono (by omega)) h6 h1⟩
        · rw [ones_len, List.length_map, h3]
          have : (Str.ofString "").length = 0 := by decide +kernel
          rw [this]
          omega
        · rw [e, h3]
          omega
        · rw [e, h3]
          omega
        · rw [e]
          exact h4
end
end K13
end
section
set_option Elab.async false
set_option linter.all false
set_option maxRecDepth 100000
set_option maxHeartbeats 4000000
namespace K13
open PySem PySem.Spec PyProof.Rows L2
section
variable {P : Program} {w : World} {K : PySem.W.Frag} {mg : Str → Option Value} {base : Heap}
theorem cut_ints (ns : List Int) (i j : Int) : cutV (ns.map V.int) (some i) (some j) = ((ns.drop (HT.sIx ns.length 0 (some i))).take (HT.sIx ns.length ns.length (some j) - HT.sIx ns.length 0 (some i))).map V.int := by
  unfold cutV
  rw [List.length_map, List.map_take, List.map_drop]
/-! ### _law_purse -/
def spPurse (K : PySem.W.Frag) : Sp := fun vs H Q _ => ∃ (a : Addr) (k : Int) (ns : List Int), vs = [.ref a, .int k] ∧ SqL K H a (ns.map V.int) ∧ 0 ≤ k ∧ k ≤ 3 ∧
  ∀ (r : Addr) (xs : List V) (H' : Hp), PuOk 0 xs → Same H H' → H r = none → H' r = some (.lst xs) → Q (.ref r) H'
theorem scPurse : FnScope ["_law_script", "_law_at", "_law_seed"] ["_law_script", "_law_at"] (defScope sPurse) := ⟨rfl, rfl, rfl, by decide +kernel, rfl, by decide +kernel, by decide +kernel⟩
theorem ok_purse {f : Addr} {fd : FuncData} (F : FnP K "_law_purse" sPurse f fd) (T : Tx K mg) : FnOk P w K mg base CX0 1 f fd ["_law_script", "_law_at"] (spPurse K) := by
  refine F.ok scPurse (fun vs H Q E h => ?_) (fun cdv A outer s H vs Q E hr h => ?_)
  · obtain ⟨_, _, _, rfl, _⟩ := h
    rfl
  · obtain ⟨a, k, ns, rfl, hS, k0, k1, q⟩ := h
    have gI := T.fr "int" (by decide +kernel)
    have gM := T.fr "max" (by decide +kernel)
    have gS := T.fr "sum" (by decide +kernel)
    refine ⟨_, PSs.nox (pss_cons (ps_set (i := 2) scPurse.nd rfl (Or.inl rfl) (pe_callB (cr_sum rfl) (by rfl) gS (by decide +kernel) (pa_cons (pe_slice sl_list (pv 0) (po_some (pv 1)) (po_some (pe_op op_add (pv 1) pe_int))) pa_nil)))
      (pss_one (ps_ret (pe_lst (pa_cons (pe_op op_mod (pe_callTy call_int1 (by rfl) gI (by decide +kernel) (pa_cons (pe_callB (call_max2 rfl) (by rfl) gM (by decide +kernel) (pa_cons (pe_op op_sub (pv 2) (pe_op op_pow pe_int pe_int)) (pa_cons pe_int pa_nil))) pa_nil)) (pe_op op_powB (pe_op op_pow pe_int pe_int) pe_int))
        (pa_cons (pe_op op_mod (pe_callTy call_int1 (by rfl) gI (by decide +kernel) (pa_cons (pv 2) pa_nil)) pe_int) (pa_cons pe_int (pa_cons (pv 1) pa_nil)))))))), ?_⟩
    refine ⟨_, rfl, _, rfl, _, rfl, _, rfl, _, _, rfl, rfl, _, rfl, a, _, rfl, hS, fun b hb => ?_⟩
    refine ⟨b, _, rfl, SqL.of (by rw [upd_same, cut_ints]), ?_⟩
    refine ⟨_, rfl, _, _, rfl, rfl, ⟨by decide, by decide, by decide +kernel⟩, _, _, rfl, rfl, _, _, rfl, Or.inl ⟨_, rfl, _, _, rfl, rfl, ⟨by decide, by decide, by decide +kernel⟩, _, _, rfl, rfl, ⟨by decide, by decide +kernel⟩, ?_⟩⟩
    refine ⟨_, _, rfl, rfl, (by show (0 : Int) < (10 ^ Int.toNat 60) ^ Int.toNat 8; decide +kernel), _, rfl, Or.inl ⟨_, rfl, _, _, rfl, rfl, (by show (0 : Int) < _; decide), _, rfl, (by show 4 ≤ sizeLine; decide +kernel), fun r hr => ?_⟩⟩
    refine q r _ _ ⟨_, _, _, _, rfl, Int.emod_nonneg _ (by decide +kernel), Int.emod_nonneg _ (by decide), Int.emod_lt_of_pos _ (by decide), by decide, by decide, k0, k1⟩ (fun c o e => ?_) ?_ upd_same
    · have e2 : upd H b (.lst (cutV (ns.map V.int) (some k) (some (k + 1)))) c = some o := by rw [upd_ne (ne_of_none e hb)]; exact e
      rw [upd_ne (ne_of_none e2 hr)]
      exact e2
    · have nrb : r ≠ b := fun z => by
        rw [z, upd_same] at hr
        cases hr
      rw [upd_ne nrb] at hr
      exact hr
/-! ### _law_purses -/
/-- purses at ps, new since H, the list of them at D -/
def PsAt (H H' : Hp) (D : Addr) (ps : List Addr) : Prop := Same H H' ∧ H' D = some (.lst (ps.map V.ref)) ∧ ps.Nodup ∧ ∀ p ∈ ps, H p = none ∧ p ≠ D ∧ ∃ xs, H' p = some (.lst xs) ∧ PuOk 0 xs
def spPurses (K : PySem.W.Frag) : Sp := fun vs H Q _ => ∃ (a : Addr) (ns : List Int), vs = [.ref a, .int 2] ∧ SqL K H a (ns.map V.int) ∧
  ∀ (D : Addr) (ps : List Addr) (H' : Hp), ps.length ≤ 2 → H D = none → PsAt H H' D ps → Q (.ref D) H'
theorem scPurses : FnScope ["_law_script", "_law_few", "_law_at"] ["_law_script", "_law_few"] (defScope sPurses) := ⟨rfl, rfl, rfl, by decide +kernel, rfl, by decide +kernel, by decide +kernel⟩
theorem ok_purses {f g : Addr} {fd fdP : FuncData} (F : FnP K "_law_purses" sPurses f fd) (FP : FnP K "_law_purse" sPurse g fdP) (hgP : mg "_law_purse" = some (.ref g)) (T : Tx K mg) : FnOk P w K mg base CX0 2 f fd ["_law_script", "_law_few"] (spPurses K) := by
  have GP : FnOk P w K mg base CX0 1 g fdP ["_law_script", "_law_at"] (spPurse K) := ok_purse FP T
  have bP : Binds K fdP ["_law_script", "_law_at"] [] := FP.bindsN fun _ _ _ _ _ _ us hl => match us, hl with | [_, _], _ => rfl
  refine F.ok scPurses (fun vs H Q E h => ?_) (fun cdv A outer s H vs Q E hr h => ?_)
  · obtain ⟨_, _, rfl, _⟩ := h
    rfl
  · obtain ⟨a, ns, rfl, hS, q⟩ := h
    have gR := T.fr "range" (by decide +kernel)
    have gMa := T.fr "max" (by decide +kernel)
    have gMi := T.fr "min" (by decide +kernel)
    have gL := T.fr "len" (by decide +kernel)
    refine ⟨_, PSs.nox (pss_one (ps_ret (pe_lc (own := [("_law_at", 2)]) (g := gName 2) (tt := tYes) rfl scPurses.nd
        (pi_range1 rfl gR (pa_cons (pe_callB (call_max2 rfl) (by rfl) gMa (by decide +kernel) (pa_cons pe_int (pa_cons (pe_callB (call_min2 rfl) (by rfl) gMi (by decide +kernel) (pa_cons (pv 1) (pa_cons (pe_callB call_len_seq (by rfl) gL PySem.boot_len (pa_cons (pv 0) pa_nil)) pa_nil))) pa_nil))) pa_nil))
        (blkOk_by (own := [("_law_at", 2)]) (N := ["_law_script", "_law_few", "_law_at"]) (sc := defScope sPurses) (by decide +kernel))
        (fun _ _ _ _ _ => pg_name (i := 2) scPurses.nd rfl (Or.inl rfl)) (fun _ _ _ _ _ => pts_nil)
        (fun _ _ _ _ _ => pe_call GP hr rfl hgP FP.kp bP .nil pass0 (pa_cons (pv 0) (pa_cons (pv 2) pa_nil)))))), ?_⟩
    have hm : ∀ z : Int, 0 ≤ z → (1 : Int) ≤ (if (if z < 2 then z else 2) > 1 then (if z < 2 then z else 2) else 1) ∧ (if (if z < 2 then z else 2) > 1 then (if z < 2 then z else 2) else 1) ≤ 2 := fun z hz => by
      by_cases h1 : z < 2
      · rw [if_pos h1]
        by_cases h2 : z > 1
        · rw [if_pos h2]; omega
        · rw [if_neg h2]; omega
      · rw [if_neg h1, if_pos (by decide)]; omega
    have hm2 := hm ((ns.map V.int).length : Nat) (by omega)
    refine ⟨_, rfl, _, rfl, a, _, rfl, Or.inl hS, _, _, rfl, _, _, rfl, _, rfl, by omega, by omega, fun D hD => ?_⟩
    generalize hn : (if (if (((ns.map V.int).length : Nat) : Int) < 2 then (((ns.map V.int).length : Nat) : Int) else 2) > 1 then (if (((ns.map V.int).length : Nat) : Int) < 2 then (((ns.map V.int).length : Nat) : Int) else 2) else 1) = n at hm2 ⊢
    refine lc_range (lo := 0) (n := n.toNat) (fun i H' => ∃ ps : List Addr, ps.length = i ∧ PsAt H H' D ps) ⟨[], rfl, fun b o e => ?_, upd_same, List.nodup_nil, fun p z => absurd z (by simp)⟩ ?_ ?_
    · rw [upd_ne (ne_of_none e hD)]
      exact e
    · rintro i H' hi ⟨ps, hl, s0, hd, nd, hp⟩
      refine ⟨rfl, _, rfl, _, rfl, a, _, ns, rfl, s0.seq hS, by omega, by omega, fun r xs H2 hx s1 hr2 h2 => ?_⟩
      have nrD : r ≠ D := fun z => by
        rw [z, hd] at hr2
        cases hr2
      have hr0 : H r = none := s0.free hr2
      refine ⟨ps.map V.ref, s1 _ _ hd, by rw [List.length_map, hl, sizeLine_eq]; omega, ps ++ [r], by simp [hl], fun b o e => ?_, ?_, ?_, ?_⟩
      · rw [upd_ne (ne_of_none e hD)]
        exact s1 _ _ (s0 _ _ e)
      · rw [upd_same, List.map_append]
        rfl
      · refine List.nodup_append.mpr ⟨nd, by simp, fun b hb c hc => ?_⟩
        have e : c = r := List.mem_singleton.mp hc
        rw [e]
        intro z
        obtain ⟨_, _, xs', e2, _⟩ := hp b hb
        rw [z, hr2] at e2
        cases e2
      · intro p hpm
        rcases List.mem_append.mp hpm with z | z
        · obtain ⟨e1, e2, xs', e3, e4⟩ := hp p z
          exact ⟨e1, e2, xs', by rw [upd_ne e2]; exact s1 _ _ e3, e4⟩
        · have e : p = r := List.mem_singleton.mp z
          rw [e]
          exact ⟨hr0, nrD, xs, by rw [upd_ne nrD]; exact h2, hx⟩
    · rintro H' ⟨ps, hl, h⟩
      exact q D ps H' (by omega) hD h
end
end K13
end
section
set_option Elab.async false
set_option linter.all false
set_option maxRecDepth 100000
set_option maxHeartbeats 4000000
namespace K13
open PySem PySem.Spec PyProof.Rows L2
abbrev DrawZ (P : Program) (w : World) (K : PySem.W.Frag) (mg : Str → Option Value) (base : Heap) : Prop := Fz P w K mg base "_law_draw" 2 ["_law_purse_here", "_law_many"] spDraw
theorem same_upd {H : Hp} {a : Addr} {o : HO} (h : H a = none) : Same H (upd H a o) := fun b u e => by
  rw [upd_ne (ne_of_none e h)]
  exact e
theorem same_trans {A B C : Hp} (x : Same A B) (y : Same B C) : Same A C := fun b u e => y b u (x b u e)
theorem ifF {c : Prop} [Decidable c] {p q : Prop} (h : ¬ c) (hq : q) : if c then p else q := by
  rw [if_neg h]
  exact hq
theorem ifT {c : Prop} [Decidable c] {p q : Prop} (h : c) (hp : p) : if c then p else q := by
  rw [if_pos h]
  exact hp
theorem but_new {p D : Addr} {H : Hp} {o : HO} (n : H D = none) : But p H (upd H D o) := fun b u _ e => by
  rw [upd_ne (ne_of_none e n)]
  exact e
theorem but_self {p : Addr} {H : Hp} {o : HO} : But p H (upd H p o) := fun b u nb e => by
  rw [upd_ne nb]
  exact e
theorem But.trans {p : Addr} {A B C : Hp} (x : But p A B) (y : But p B C) : But p A C := fun b u nb e => y b u nb (x b u nb e)
theorem Same.but {p : Addr} {A B : Hp} (x : Same A B) : But p A B := fun b u _ e => x b u e
theorem But.free {p b : Addr} {A B : Hp} (x : But p A B) (n : B b = none) (nb : b ≠ p) : A b = none := by
  cases e : A b with
  | none => rfl
  | some u =>
    rw [x b u nb e] at n
    cases n
/-- the purse at p, n draws at most -/
def Pu (H : Hp) (p : Addr) (n : Int) : Prop := ∃ xs, H p = some (.lst xs) ∧ PuOk n xs
theorem Pu.mono {H : Hp} {p : Addr} {n m : Int} (h : Pu H p n) (l : n ≤ m) : Pu H p m := by
  obtain ⟨xs, h1, h2⟩ := h
  exact ⟨xs, h1, h2.mono l⟩
theorem Pu.upd {H : Hp} {p q : Addr} {n : Int} {o : HO} (h : Pu H p n) (ne : p ≠ q) : Pu (upd H q o) p n := by
  obtain ⟨xs, h1, h2⟩ := h
  exact ⟨xs, by rw [upd_ne ne]; exact h1, h2⟩
section
variable {P : Program} {w : World} {K : PySem.W.Frag} {mg : Str → Option Value} {base : Heap}
/-! ### _law_shuffled -/
def spShuffled : Sp := fun vs H Q _ => ∃ (p l : Addr) (n : Int) (zs : List V), vs = [.ref p, .ref l] ∧ Pu H p n ∧ n ≤ 800000 ∧ H l = some (.lst zs) ∧ l ≠ p ∧ zs.length ≤ 120 ∧
  ∀ (D : Addr) (us : List V) (H' : Hp), us.Perm zs → Pu H' p (n + (zs.length : Nat)) → But p H H' → H D = none → H' D = some (.lst us) → Q (.ref D) H'
theorem scShuffled : FnScope ["_law_purse_here", "_law_some", "_law_found", "_law_item"] ["_law_purse_here", "_law_some"] (defScope sShuffled) := ⟨rfl, rfl, rfl, by decide +kernel, rfl, by decide +kernel, by decide +kernel⟩
theorem ok_shuffled {f : Addr} {fd : FuncData} (F : FnP K "_law_shuffled" sShuffled f fd) (G : DrawZ P w K mg base) (T : Tx K mg) : FnOk P w K mg base CX0 3 f fd ["_law_purse_here", "_law_some"] spShuffled := by
  refine F.ok scShuffled (fun vs H Q E h => ?_) (fun cdv A outer s H vs Q E hr h => ?_)
  · obtain ⟨_, _, _, _, rfl, _⟩ := h
    rfl
  · obtain ⟨p, l, n, zs, rfl, ⟨xs, hp, hx⟩, hn, hl, nlp, hz, q⟩ := h
    have gL := T.fr "len" (by decide +kernel)
    refine ⟨_, PSs.nox (pss_cons (ps_set (i := 2) scShuffled.nd rfl (Or.inl rfl) (pe_lst pa_nil))
      (pss_cons (ps_for PassesOwn.never rfl (pi_list (pv 1)) (pg_name (i := 3) scShuffled.nd rfl (Or.inl rfl))
        (pss_one (ps_expr (pe_bm PySem.F.plainAttrs_list PySem.F.slot_list_insert PySem.F.type_list_insert mt_insert (pv 2)
          (pa_cons (pe_fz G hr (by rfl) (pa_cons (pv 0) (pa_cons (pe_op op_add (pe_callB call_len_seq (by rfl) gL PySem.boot_len (pa_cons (pv 2) pa_nil)) pe_int) pa_nil))) (pa_cons (pv 3) pa_nil))))))
      (pss_one (ps_ret (pv 2))))), ?_⟩
    refine ⟨Nat.zero_le _, fun D nD => ?_⟩
    have npD : p ≠ D := ne_of_none hp nD
    have nlD : l ≠ D := ne_of_none hl nD
    refine ⟨_, rfl, l, rfl, ⟨_, SqL.of (by rw [upd_ne nlD]; exact hl)⟩, ?_⟩
    refine for_list (K := K) (a := l) (xs := zs) (fun i σ H' => (∃ o3, σ = [some (.ref p), some (.ref l), some (.ref D), o3]) ∧ Pu H' p (n + (i : Nat)) ∧ But p H H' ∧ ∃ us, H' D = some (.lst us) ∧ us.Perm (zs.take i))
      ⟨⟨_, rfl⟩, ⟨xs, by rw [upd_ne npD]; exact hp, hx.mono (by omega)⟩, but_new nD, [], upd_same, List.Perm.refl _⟩ (fun i σ H' _ h => SqL.of (h.2.2.1 l _ nlp hl)) ?_ ?_
    · rintro i x σ H' hi ⟨⟨o3, rfl⟩, ⟨xs1, hp1, hx1⟩, bu, us, hD, pu⟩
      have lt : i < zs.length := (List.getElem?_eq_some_iff.mp hi).1
      have ul : us.length = i := by rw [pu.length_eq, List.length_take]; omega
      refine ⟨_, rfl, Or.inl ⟨rfl, _, SqL.of hD⟩, _, rfl, _, rfl, D, us, rfl, Or.inl (SqL.of hD), _, _, rfl, rfl, ?_⟩
      refine ⟨p, _, n + (i : Nat), xs1, rfl, hp1, hx1, by omega, by omega, by omega, fun r ys r0 r1 hy => ?_⟩
      refine ⟨_, rfl, D, us, r, x, rfl, rfl, by rw [upd_ne (Ne.symm npD)]; exact hD, by rw [ul, sizeLine_eq]; omega, r0, by omega, ?_⟩
      refine ⟨⟨_, rfl⟩, ⟨ys, by rw [upd_ne npD]; exact upd_same, hy.mono (by push_cast; omega)⟩, fun b o nb e => ?_, _, upd_same, ?_⟩
      · have nbD : b ≠ D := ne_of_none e nD
        rw [upd_ne nbD, upd_ne nb]
        exact bu b o nb e
      · have e : zs.take (i + 1) = zs.take i ++ [x] := by
          rw [List.take_add_one, hi]
          rfl
        rw [e]
        have p1 : (us.take r.toNat ++ [x] ++ us.drop r.toNat).Perm (us ++ [x]) := by
          have h1 : (us.take r.toNat ++ [x] ++ us.drop r.toNat).Perm (x :: (us.take r.toNat ++ us.drop r.toNat)) := by
            rw [List.append_assoc]
            exact List.perm_middle
          rw [List.take_append_drop] at h1
          exact h1.trans (List.perm_append_singleton x us).symm
        exact p1.trans (pu.append_right [x])
    · rintro σ H' ⟨⟨o3, rfl⟩, hp2, bu, us, hD, pu⟩
      rw [List.take_length] at pu
      exact ⟨_, rfl, q D us H' pu hp2 bu nD hD⟩
end
end K13
end
section
set_option Elab.async false
set_option linter.all false
set_option maxRecDepth 100000
set_option maxHeartbeats 4000000
namespace K13
open PySem PySem.Spec PyProof.Rows L2
abbrev OneZ (P : Program) (w : World) (K : PySem.W.Frag) (mg : Str → Option Value) (base : Heap) : Prop := Fz P w K mg base "_law_one_of" 3 ["_law_purse_here", "_law_some"] spOneOf
section
variable {P : Program} {w : World} {K : PySem.W.Frag} {mg : Str → Option Value} {base : Heap}
/-! ### _law_width, _law_length -/
def spSmall : Sp := fun vs H Q _ => ∃ (p : Addr) (n : Int), vs = [.ref p] ∧ Pu H p n ∧ n ≤ 800000 ∧ ∀ (r : Int) (H' : Hp), 0 ≤ r → r ≤ 9 → Pu H' p (n + 1) → But p H H' → Q (.int r) H'
theorem scWidth : FnScope ["_law_purse_here"] ["_law_purse_here"] (defScope sWidth) := ⟨rfl, rfl, rfl, by decide +kernel, rfl, by decide +kernel, by decide +kernel⟩
theorem scLength : FnScope ["_law_purse_here"] ["_law_purse_here"] (defScope sLength) := ⟨rfl, rfl, rfl, by decide +kernel, rfl, by decide +kernel, by decide +kernel⟩
theorem small_pick {p : Addr} {n : Int} {H : Hp} {Q : VK} {zs : List Int} (hl : zs.length = 8) (hz : ∀ z ∈ zs, 0 ≤ z ∧ z ≤ 9) (hp : Pu H p n) (hn : n ≤ 800000) (q : ∀ (r : Int) (H' : Hp), 0 ≤ r → r ≤ 9 → Pu H' p (n + 1) → But p H H' → Q (.int r) H')
    {D : Addr} (nD : H D = none) : spOneOf [.ref p, .ref D] (upd H D (.lst (zs.map V.int))) Q E0 := by
  obtain ⟨xs, h1, h2⟩ := hp
  have npD : p ≠ D := ne_of_none h1 nD
  refine ⟨p, D, n, xs, zs.map V.int, rfl, by rw [upd_ne npD]; exact h1, h2, by omega, upd_same, npD, by rw [List.length_map, hl]; decide, by rw [List.length_map, hl]; decide, fun j z ys e hy => ?_⟩
  rw [List.getElem?_map] at e
  cases e2 : zs[j]? with
  | none =>
    rw [e2] at e
    cases e
  | some i =>
    rw [e2] at e
    cases e
    have b := hz i (List.mem_of_getElem? e2)
    exact q i _ b.1 b.2 ⟨ys, upd_same, hy⟩ ((but_new nD).trans but_self)
theorem ok_width {f : Addr} {fd : FuncData} (F : FnP K "_law_width" sWidth f fd) (G : OneZ P w K mg base) : FnOk P w K mg base CX0 4 f fd ["_law_purse_here"] spSmall := by
  refine F.ok scWidth (fun vs H Q E h => ?_) (fun cdv A outer s H vs Q E hr h => ?_)
  · obtain ⟨_, _, rfl, _⟩ := h
    rfl
  · obtain ⟨p, n, rfl, hp, hn, q⟩ := h
    refine ⟨_, PSs.nox (pss_one (ps_ret (pe_fz G hr (by rfl) (pa_cons (pv 0) (pa_cons (pe_lst (pa_cons pe_int (pa_cons pe_int (pa_cons pe_int (pa_cons pe_int (pa_cons pe_int (pa_cons pe_int (pa_cons pe_int (pa_cons pe_int pa_nil))))))))) pa_nil))))), ?_⟩
    exact ⟨_, rfl, (by show 8 ≤ sizeLine; decide +kernel), fun D nD => small_pick (zs := [0, 1, 1, 1, 2, 2, 3, 9]) rfl (by decide) hp hn q nD⟩
theorem ok_length {f : Addr} {fd : FuncData} (F : FnP K "_law_length" sLength f fd) (G : OneZ P w K mg base) : FnOk P w K mg base CX0 4 f fd ["_law_purse_here"] spSmall := by
  refine F.ok scLength (fun vs H Q E h => ?_) (fun cdv A outer s H vs Q E hr h => ?_)
  · obtain ⟨_, _, rfl, _⟩ := h
    rfl
  · obtain ⟨p, n, rfl, hp, hn, q⟩ := h
    refine ⟨_, PSs.nox (pss_one (ps_ret (pe_fz G hr (by rfl) (pa_cons (pv 0) (pa_cons (pe_lst (pa_cons pe_int (pa_cons pe_int (pa_cons pe_int (pa_cons pe_int (pa_cons pe_int (pa_cons pe_int (pa_cons pe_int (pa_cons pe_int pa_nil))))))))) pa_nil))))), ?_⟩
    exact ⟨_, rfl, (by show 8 ≤ sizeLine; decide +kernel), fun D nD => small_pick (zs := [0, 1, 1, 2, 2, 3, 5, 9]) rfl (by decide) hp hn q nD⟩
/-! ### _law_pair -/
def spPair : Sp := fun vs H Q _ => ∃ (p l : Addr) (n : Int) (ws : List Str), vs = [.ref p, .ref l] ∧ Pu H p n ∧ n ≤ 800000 ∧ H l = some (.lst (ws.map V.str)) ∧ l ≠ p ∧ ws.Nodup ∧ 2 ≤ ws.length ∧ ws.length ≤ 100 ∧
  ∀ (t : Addr) (a b : Str) (H' : Hp), a ∈ ws → b ∈ ws → a ≠ b → Pu H' p (n + 2) → But p H H' → H t = none → H' t = some (.tup [.str a, .str b]) → Q (.ref t) H'
theorem scPair : FnScope ["_law_purse_here", "_law_crossings", "_law_start", "_law_other"] ["_law_purse_here", "_law_crossings"] (defScope sPair) := ⟨rfl, rfl, rfl, by decide +kernel, rfl, by decide +kernel, by decide +kernel⟩
theorem ok_pair {f : Addr} {fd : FuncData} (F : FnP K "_law_pair" sPair f fd) (G : OneZ P w K mg base) : FnOk P w K mg base CX0 4 f fd ["_law_purse_here", "_law_crossings"] spPair := by
  refine F.ok scPair (fun vs H Q E h => ?_) (fun cdv A outer s H vs Q E hr h => ?_)
  · obtain ⟨_, _, _, _, rfl, _⟩ := h
    rfl
  · obtain ⟨p, l, n, ws, rfl, ⟨xs, hp, hx⟩, hn, hl, nlp, nd, h2, h100, q⟩ := h
    refine ⟨_, PSs.nox (pss_cons (ps_set (i := 2) scPair.nd rfl (Or.inr rfl) (pe_fz G hr (by rfl) (pa_cons (pv 0) (pa_cons (pv 1) pa_nil))))
      (pss_one (ps_ret (pe_tup (pa_cons (pv 2) (pa_cons (pe_fz G hr (by rfl) (pa_cons (pv 0) (pa_cons
        (pe_lc (own := [("_law_other", 3)]) (g := gName 3) (tt := _) rfl scPair.nd (pi_list (pv 1)) (blkOk_by (own := [("_law_other", 3)]) (N := ["_law_purse_here", "_law_crossings", "_law_start", "_law_other"]) (sc := defScope sPair) (by decide +kernel))
          (fun _ _ _ _ _ => pg_name (i := 3) scPair.nd rfl (Or.inl rfl)) (fun _ _ _ _ _ => pts_one (pt_cmpR op_ne (pv 3) (pv 2) (nomark _))) (fun _ _ _ _ _ => pv 3)) pa_nil))) pa_nil)))))), ?_⟩
    refine ⟨_, rfl, _, rfl, p, l, n, xs, ws.map V.str, rfl, hp, hx, by omega, hl, Ne.symm nlp, by rw [List.length_map]; omega, by rw [List.length_map]; omega, fun j z ys e hy => ?_⟩
    rw [List.getElem?_map] at e
    cases e2 : ws[j]? with
    | none =>
      rw [e2] at e
      cases e
    | some a =>
      rw [e2] at e
      cases e
      have ha : a ∈ ws := List.mem_of_getElem? e2
      have hp1 : upd H p (.lst ys) p = some (.lst ys) := upd_same
      have hl1 : upd H p (.lst ys) l = some (.lst (ws.map V.str)) := by rw [upd_ne nlp]; exact hl
      refine ⟨_, rfl, _, rfl, _, rfl, l, rfl, ⟨_, SqL.of hl1⟩, fun D nD => ?_⟩
      have npD : p ≠ D := ne_of_none hp1 nD
      have nlD : l ≠ D := ne_of_none hl1 nD
      refine lc_list (K := K) (a := l) (xs := ws.map V.str) (fun i H' => (∀ b, b ≠ D → H' b = upd H p (.lst ys) b) ∧ H' D = some (.lst (((ws.take i).filter fun x => decide (x ≠ a)).map V.str)))
        ⟨fun b nb => upd_ne nb, upd_same⟩ (fun i H' _ h => SqL.of (by rw [h.1 l nlD]; exact hl1)) ?_ ?_
      · rintro i x H' hi ⟨k1, k2⟩
        rw [List.getElem?_map] at hi
        cases e3 : ws[i]? with
        | none =>
          rw [e3] at hi
          cases hi
        | some c =>
          rw [e3] at hi
          cases hi
          have et : ws.take (i + 1) = ws.take i ++ [c] := by
            rw [List.take_add_one, e3]
            rfl
          have lt : i < ws.length := (List.getElem?_eq_some_iff.mp e3).1
          have ll : ((ws.take i).filter fun x => decide (x ≠ a)).length ≤ i := Nat.le_trans (List.length_filter_le _ _) (by rw [List.length_take]; omega)
          refine ⟨rfl, _, rfl, _, rfl, rfl, _, rfl, ?_⟩
          by_cases hc : c = a
          · subst hc
            refine ifF (by simp) ⟨k1, ?_⟩
            rw [et, List.filter_append]
            simp [k2]
          · refine ifT (by simpa using hc) ⟨_, rfl, _, k2, by rw [List.length_map, sizeLine_eq]; omega, fun b nb => by rw [upd_ne nb]; exact k1 b nb, ?_⟩
            rw [upd_same, et, List.filter_append]
            simp [hc]
      · rintro H' ⟨k1, k2⟩
        rw [List.length_map, List.take_length] at k2
        have hp2 : H' p = some (.lst ys) := by rw [k1 p npD]; exact hp1
        have lpos : 0 < (ws.filter fun x => decide (x ≠ a)).length := by
          rw [List.length_pos_iff_exists_mem]
          have : ∃ b ∈ ws, b ≠ a := by
            match ws, h2, nd with
            | u :: v :: r, _, nd =>
              by_cases hu : u = a
              · refine ⟨v, by simp, fun hv => ?_⟩
                rw [hu, hv] at nd
                simp at nd
              · exact ⟨u, by simp, hu⟩
          obtain ⟨b, hb, nb⟩ := this
          exact ⟨b, List.mem_filter.mpr ⟨hb, by simpa using nb⟩⟩
        have lle : (ws.filter fun x => decide (x ≠ a)).length ≤ 100 := Nat.le_trans (List.length_filter_le _ _) h100
        refine ⟨p, D, n + 1, ys, _, rfl, hp2, hy, by omega, k2, npD, by rw [List.length_map]; exact lpos, by rw [List.length_map]; omega, fun j2 z2 ys2 e3 hy2 => ?_⟩
        rw [List.getElem?_map] at e3
        cases e4 : (ws.filter fun x => decide (x ≠ a))[j2]? with
        | none =>
          rw [e4] at e3
          cases e3
        | some b =>
          rw [e4] at e3
          cases e3
          have hb := List.mem_filter.mp (List.mem_of_getElem? e4)
          refine ⟨(by show 2 ≤ sizeLine; decide +kernel), fun t nt => ?_⟩
          have bu : But p H (upd H' p (.lst ys2)) := fun c o nc e => by
            have nD2 : c ≠ D := ne_of_none (show upd H p (.lst ys) c = some o by rw [upd_ne nc]; exact e) nD
            rw [upd_ne nc, k1 c nD2, upd_ne nc]
            exact e
          have ntp : t ≠ p := fun z => by
            rw [z, upd_same] at nt
            cases nt
          exact q t a b _ ha hb.1 (fun z => by simpa [z] using hb.2) ⟨ys2, by rw [upd_ne (Ne.symm ntp)]; exact upd_same, hy2.mono (by omega)⟩ (bu.trans (but_new nt)) (bu.free nt ntp) upd_same
end
end K13
end
section
set_option Elab.async false
set_option linter.all false
set_option maxRecDepth 100000
set_option maxHeartbeats 4000000
namespace L2
open PySem PySem.Spec PyProof.Rows
/-- list(text): its signs -/
def rListTxt : List V → Hp → VK → Prop := fun vs H Q => ∃ z : Str, vs = [.str z] ∧ z.cps.size ≤ sizeLine ∧ ∀ p, H p = none → Q (.ref p) (upd H p (.lst (z.cps.toList.map fun c => V.str ⟨#[c]⟩)))
theorem call_list_txt {X : Cx} (hc : X.calm = true) : CallR X (.type "list") rListTxt := by
  intro pins s σ H vs us Q I r h
  obtain ⟨z, rfl, hz, q⟩ := h
  obtain ⟨u, rfl, t, rfl⟩ := vals1 r
  refine call_list_str (I.ok.hd hc) z t (hn := hz) fun h' tk acc' c' hk hS hacc => ?_
  refine ⟨.ref s.heap.objs.size, upd H s.heap.objs.size (.lst (z.cps.toList.map fun c => V.str ⟨#[c]⟩)), I.laid hk (Nat.le_refl _) (show ObjOk X.prog X.w _ _ _ (.lst _) from ⟨?_, acc'.toList, c', ?_, ?_⟩), rfl, q _ (I.hok.fresh (Nat.le_refl _))⟩
  · rw [List.length_map, Array.length_toList]
    exact hz
  · refine vals_of_at (by rw [List.length_map, Array.length_toList, Array.length_toList, hacc.1]) fun j x w h1 h2 => ?_
    obtain ⟨c, t', hc', rfl⟩ := hacc.2 j w (by rw [← Array.getElem?_toList]; exact h2)
    rw [List.getElem?_map, Array.getElem?_toList, hc'] at h1
    cases h1
    exact ⟨t', rfl⟩
  · rw [Array.toArray_toList]
    exact hS
end L2
namespace K13
open PySem PySem.Spec PyProof.Rows L2
theorem inV_str (x : Str) (ws : List Str) : inV (.str x) (ws.map V.str) = decide (x ∈ ws) := by
  unfold inV
  induction ws with
  | nil => rfl
  | cons y ws ih =>
    rw [List.map_cons, List.any_cons, ih]
    show ((y == x) || decide (x ∈ ws)) = decide (x ∈ y :: ws)
    by_cases h : y = x
    · subst h
      simp
    · have h' : ¬ x = y := fun e => h e.symm
      simp [h, h']
theorem flat_strs (ws : List Str) : (ws.map V.str).all flatV = true := by
  rw [List.all_eq_true]
  intro v hv
  obtain ⟨x, _, rfl⟩ := List.mem_map.mp hv
  rfl
theorem len_le_of_sub {α : Type} [DecidableEq α] : ∀ (l m : List α), l.Nodup → (∀ x ∈ l, x ∈ m) → l.length ≤ m.length
  | [], _, _, _ => Nat.zero_le _
  | x :: l, m, nd, h => by
    obtain ⟨h1, h2⟩ := List.nodup_cons.mp nd
    have hx : x ∈ m := h x List.mem_cons_self
    have ih := len_le_of_sub l (m.erase x) h2 fun y hy => (List.mem_erase_of_ne (fun e => h1 (by rw [← e]; exact hy))).mpr (h y (List.mem_cons_of_mem _ hy))
    rw [List.length_erase_of_mem hx] at ih
    have : 0 < m.length := List.length_pos_of_mem hx
    simp only [List.length_cons]
    omega
def letters : List Str := abc.cps.toList.map one
theorem letters_nodup : letters.Nodup := by decide +kernel
theorem letters_len : letters.length = 26 := by decide +kernel
theorem letters_wd : ∀ x ∈ letters, Wd x := by
  have key : (letters.all fun x => decide (1 ≤ x.cps.toList.length ∧ x.cps.toList.length ≤ 8) && x.cps.toList.all fun c => decide (97 ≤ c ∧ c ≤ 122)) = true := by decide +kernel
  intro x hx
  have k := List.all_eq_true.mp key x hx
  rw [Bool.and_eq_true] at k
  have k1 := of_decide_eq_true k.1
  exact ⟨k1.1, k1.2, fun c hc => of_decide_eq_true (List.all_eq_true.mp k.2 c hc)⟩
theorem free_letter {ws : List Str} (h : ws.length < 26) : ∃ x r, (letters.filter fun x => decide (x ∉ ws)) = x :: r ∧ Wd x ∧ x ∉ ws := by
  cases e : letters.filter fun x => decide (x ∉ ws) with
  | nil =>
    have k := len_le_of_sub letters ws letters_nodup fun x hx => by
      by_cases hw : x ∈ ws
      · exact hw
      · have : x ∈ letters.filter fun x => decide (x ∉ ws) := List.mem_filter.mpr ⟨hx, decide_eq_true hw⟩
        rw [e] at this
        cases this
    rw [letters_len] at k
    omega
  | cons x r =>
    have hx : x ∈ letters.filter fun x => decide (x ∉ ws) := by rw [e]; exact List.mem_cons_self
    have q := List.mem_filter.mp hx
    exact ⟨x, r, rfl, letters_wd x q.1, of_decide_eq_true q.2⟩
theorem wd_mix {z : Str} {r : Int} {c : Nat} (hz : Wd z) (r0 : 0 ≤ r) (r1 : r < (z.length : Int)) (hc : 97 ≤ c ∧ c ≤ 122) : Wd ((cutS z none (some r) ++ one c) ++ cutS z (some (r + 1)) none) := by
  obtain ⟨k, rfl⟩ := Int.eq_ofNat_of_zero_le r0
  have hl := str_length z
  have lk : k < z.cps.toList.length := by omega
  have e1 : (cutS z none (some (k : Int))).cps.toList = z.cps.toList.take k := by
    show (((z.cps.toList.drop (HT.sIx z.length 0 none)).take (HT.sIx z.length z.length (some (k : Int)) - HT.sIx z.length 0 none)).toArray).toList = _
    rw [HT.sIx_none, HT.sIx_nat, List.drop_zero, Nat.sub_zero, Nat.min_eq_left (by omega)]
  have e2 : (cutS z (some ((k : Int) + 1)) none).cps.toList = z.cps.toList.drop (k + 1) := by
    show (((z.cps.toList.drop (HT.sIx z.length 0 (some ((k : Int) + 1)))).take (HT.sIx z.length z.length none - HT.sIx z.length 0 (some ((k : Int) + 1)))).toArray).toList = _
    have e3 : ((k : Int) + 1) = ((k + 1 : Nat) : Int) := by omega
    rw [e3, HT.sIx_none, HT.sIx_nat, Nat.min_eq_left (by omega)]
    exact List.take_of_length_le (by rw [List.length_drop]; omega)
  have e4 : ((cutS z none (some (k : Int)) ++ one c) ++ cutS z (some ((k : Int) + 1)) none).cps.toList = (z.cps.toList.take k ++ [c]) ++ z.cps.toList.drop (k + 1) := by
    show (((cutS z none (some (k : Int))).cps ++ (one c).cps) ++ (cutS z (some ((k : Int) + 1)) none).cps).toList = _
    rw [Array.toList_append, Array.toList_append, e1, e2]
    rfl
  have ll : ((z.cps.toList.take k ++ [c]) ++ z.cps.toList.drop (k + 1)).length = z.cps.toList.length := by
    simp only [List.length_append, List.length_take, List.length_drop, List.length_cons, List.length_nil]
    omega
  refine ⟨by rw [e4, ll]; exact hz.1, by rw [e4, ll]; exact hz.2.1, fun x hx => ?_⟩
  rw [e4] at hx
  rcases List.mem_append.mp hx with h | h
  · rcases List.mem_append.mp h with h | h
    · exact hz.2.2 x (List.mem_of_mem_take h)
    · rw [List.mem_singleton.mp h]
      exact hc
  · exact hz.2.2 x (List.mem_of_mem_drop h)
end K13
end
section
set_option Elab.async false
set_option linter.all false
set_option maxRecDepth 100000
set_option maxHeartbeats 8000000
namespace K13
open PySem PySem.Spec PyProof.Rows L2
abbrev WordZ (P : Program) (w : World) (K : PySem.W.Frag) (mg : Str → Option Value) (base : Heap) : Prop := Fz P w K mg base "_law_word" 3 ["_law_purse_here"] spWord
/-- a list of n unlike words -/
def Ws (H : Hp) (D : Addr) (ws : List Str) : Prop := H D = some (.lst (ws.map V.str))
def spWords : Sp := fun vs H Q _ => ∃ (p : Addr) (m n : Int), vs = [.ref p, .int m] ∧ Pu H p n ∧ n ≤ 700000 ∧ 0 ≤ m ∧ m ≤ 25 ∧
  ∀ (D : Addr) (ws : List Str) (H' : Hp), (ws.length : Int) = m → ws.Nodup → (∀ x ∈ ws, Wd x) → Pu H' p (n + 12 + 11 * m) → But p H H' → H D = none → Ws H' D ws → Q (.ref D) H'
abbrev NW : List Str := ["_law_purse_here", "_law_many", "_law_base", "_law_near", "_law_spot", "_law_found", "_law_turn", "_law_word_here", "_law_letter"]
theorem scWords : FnScope NW ["_law_purse_here", "_law_many"] (defScope sWords) := ⟨rfl, rfl, rfl, by decide +kernel, rfl, by decide +kernel, by decide +kernel⟩
/-- at the head of a turn -/
def WT (p D : Addr) (m n r : Int) (z : Str) (b : Bool) (H : Hp) (i : Nat) : L2.St → Hp → Prop := fun σ H' => (∃ o6 o7 o8, σ = [some (.ref p), some (.int m), some (.str z), some (.bl b), some (.int r), some (.ref D), o6, o7, o8]) ∧
  Pu H' p (n + 12 + 11 * (i : Nat)) ∧ But p H H' ∧ ∃ ws : List Str, Ws H' D ws ∧ ws.length = i ∧ ws.Nodup ∧ ∀ x ∈ ws, Wd x
section
variable {P : Program} {w : World} {K : PySem.W.Frag} {mg : Str → Option Value} {base : Heap}
theorem ok_words {f : Addr} {fd : FuncData} (F : FnP K "_law_words" sWords f fd) (G : DrawZ P w K mg base) (GW : WordZ P w K mg base) (T : Tx K mg) : FnOk P w K mg base CX0 4 f fd ["_law_purse_here", "_law_many"] spWords := by
  refine F.ok scWords (fun vs H Q E h => ?_) (fun cdv A outer s H vs Q E hr h => ?_)
  · obtain ⟨_, _, _, rfl, _⟩ := h
    rfl
  · obtain ⟨p, m, n, rfl, ⟨xs, hp, hx⟩, hn, m0, m25, q⟩ := h
    have gL := T.fr "len" (by decide +kernel)
    have gR := T.fr "range" (by decide +kernel)
    have gLi := T.fr "list" (by decide +kernel)
    have hr2 : Room 2 (A.deeper (envOfC "_law_words" (defScope sWords) s.heap.objs.size f cdv)) := hr.mono (by decide)
    refine ⟨_, PSs.nox (pss_cons (ps_par (i := 2) (j := 3) rfl scWords.nd rfl rfl (by decide) rfl rfl (pa_cons (pe_fz GW hr (by rfl) (pa_cons (pv 0) pa_nil)) (pa_cons (pe_cmpR op_eq (pe_fz G hr2 (by rfl) (pa_cons (pv 0) (pa_cons pe_int pa_nil))) pe_int (nomark _)) pa_nil)) (by rfl))
      (pss_cons (ps_asg (pe_tup (pa_cons (pe_fz G hr2 (by rfl) (pa_cons (pv 0) (pa_cons (pe_callB call_len_str (by rfl) gL PySem.boot_len (pa_cons (pv 2) pa_nil)) pa_nil))) (pa_cons (pe_lst pa_nil) pa_nil)))
        (pg_tup rfl (pgs_cons (pg_name (i := 4) scWords.nd rfl (Or.inl rfl)) (pgs_cons (pg_name (i := 5) scWords.nd rfl (Or.inr rfl)) pgs_nil))))
      (pss_cons (ps_for PassesOwn.never rfl (pi_range1 rfl gR (pa_cons (pv 1) pa_nil)) (pg_name (i := 6) scWords.nd rfl (Or.inl rfl))
        (pss_cons (ps_set (i := 7) scWords.nd rfl (Or.inl rfl) (pe_op op_add_str (pe_op op_add_str (pe_slice sl_str (pv 2) po_none (po_some (pv 4))) (pe_item_str pe_str (pe_fz G hr2 (by rfl) (pa_cons (pv 0) (pa_cons pe_int pa_nil))) (fun _ _ => rfl)))
            (pe_slice sl_str (pv 2) (po_some (pe_op op_add (pv 4) pe_int)) po_none)))
        (pss_cons (ps_if (pt_not (pt_val (pv 3))) (pss_one (ps_set (i := 7) scWords.nd rfl (Or.inl rfl) (pe_fz GW hr (by rfl) (pa_cons (pv 0) pa_nil)))) pss_nil)
        (pss_cons (ps_if (pt_cmpR op_in_seq (pv 7) (pv 5) rfl) (pss_one (ps_set (i := 7) scWords.nd rfl (Or.inl rfl) (pe_ix ix_list
            (pe_lc (own := [("_law_letter", 8)]) (g := gName 8) (tt := tTest (tOp (rIn K true) (tVar 8) (tVar 5))) rfl scWords.nd (pi_list (pe_callTy (call_list_txt rfl) (by rfl) gLi (by decide +kernel) (pa_cons pe_str pa_nil))) (blkOk_by (own := [("_law_letter", 8)]) (N := NW) (sc := defScope sWords) (by decide +kernel))
              (fun _ _ _ _ _ => pg_name (i := 8) scWords.nd rfl (Or.inl rfl)) (fun _ _ _ _ _ => pts_one (pt_cmpR op_notIn_seq (pv 8) (pv 5) rfl)) (fun _ _ _ _ _ => pv 8)) pe_int (fun _ _ => rfl)))) pss_nil)
        (pss_one (ps_expr (pe_bm PySem.F.plainAttrs_list PySem.F.slot_list_append PySem.F.type_list_append mt_append (pv 5) (pa_cons (pv 7) pa_nil))))))))
      (pss_one (ps_ret (pv 5)))))), ?_⟩
    refine ⟨_, rfl, p, n, xs, rfl, hp, hx, by omega, fun z ys1 H1 hz hy1 b1 hp1 => ?_⟩
    refine ⟨_, rfl, p, 3, n + 10, ys1, rfl, hp1, hy1, by omega, by decide, by decide, fun r1 ys2 c1 d1 hy2 => ⟨rfl, _, _, rfl, ?_⟩⟩
    have b2 : But p H (upd H1 p (.lst ys2)) := b1.trans but_self
    have hp2 : upd H1 p (.lst ys2) p = some (.lst ys2) := upd_same
    generalize upd H1 p (.lst ys2) = H2 at b2 hp2 ⊢
    have lz := str_length z
    have lz1 := hz.1
    have lz8 := hz.2.1
    have sl := sizeLine_eq
    refine ⟨_, rfl, _, rfl, z, rfl, by omega, p, _, n + 10 + 1, ys2, rfl, hp2, hy2, by omega, by omega, by omega, fun r ys3 r0 r1' hy3 => ?_⟩
    have b3 : But p H (upd H2 p (.lst ys3)) := b2.trans but_self
    have hp3 : upd H2 p (.lst ys3) p = some (.lst ys3) := upd_same
    generalize upd H2 p (.lst ys3) = H3 at b3 hp3 ⊢
    refine ⟨Nat.zero_le _, fun D nD => ?_⟩
    have npD : p ≠ D := ne_of_none hp3 nD
    refine ⟨(by show 2 ≤ sizeLine; decide +kernel), fun tp ntp => ⟨tp, _, rfl, SqT.of upd_same, rfl, _, _, rfl, _, _, rfl, rfl, ?_⟩⟩
    have nDt : D ≠ tp := ne_of_none upd_same ntp
    have npt : p ≠ tp := fun e => by
      rw [← e, upd_ne npD, hp3] at ntp
      cases ntp
    have w0 : WT p D m n r z (decide (V.int r1 = V.int 0)) H 0 [some (.ref p), some (.int m), some (.str z), some (.bl (decide (V.int r1 = V.int 0))), some (.int r), some (.ref D), none, none, none] (upd (upd H3 D (.lst [])) tp (.tup [.int r, .ref D])) :=
      ⟨⟨_, _, _, rfl⟩, ⟨ys3, by rw [upd_ne npt, upd_ne npD]; exact hp3, hy3.mono (by omega)⟩, (b3.trans (but_new nD)).trans (but_new ntp), [], by show upd _ _ _ D = _; rw [upd_ne nDt]; exact upd_same, rfl, List.nodup_nil, fun x hx => by simp at hx⟩
    have fD : H D = none := b3.free nD (Ne.symm npD)
    generalize upd (upd H3 D (.lst [])) tp (.tup [.int r, .ref D]) = H4 at w0 ⊢
    generalize decide (V.int r1 = V.int 0) = b at w0 ⊢
    refine ⟨_, rfl, _, rfl, by omega, by omega, ?_⟩
    refine for_range (n := m.toNat) (WT p D m n r z b H) w0 ?_ ?_
    · rintro i σ H' hi ⟨⟨o6, o7, o8, rfl⟩, ⟨xs1, hp5, hx5⟩, b5, ws, hw, hl, nd, wd⟩
      have npD5 : D ≠ p := fun e => by
        rw [e] at fD
        rw [fD] at hp
        cases hp
      refine ⟨_, rfl, _, rfl, _, rfl, z, rfl, by omega, _, rfl, p, 26, n + 12 + 11 * (i : Nat), xs1, rfl, hp5, hx5, by omega, by decide, by decide, fun c ys c0 c1 hy => ?_⟩
      have hl26 : (abc.length : Int) = 26 := by decide +kernel
      have wm := wd_mix (c := 97 + c.toNat) hz r0 r1' (by omega)
      have wl := str_length ((cutS z none (some r) ++ one (97 + c.toNat)) ++ cutS z (some (r + 1)) none)
      have wl2 := wm.2.1
      rw [← wl] at wl2
      have wl3 := wl2
      simp only [strLen_append] at wl3
      refine ⟨abc, c, 97 + c.toNat, rfl, rfl, c0, by omega, by omega, abc_at c0 c1, _, _, rfl, rfl, (by show (cutS z none (some r)).length + (one (97 + c.toNat)).length ≤ _; omega), ?_⟩
      refine ⟨_, rfl, _, rfl, _, _, rfl, rfl, _, rfl, z, rfl, by omega, _, _, rfl, rfl, (by show ((cutS z none (some r)) ++ (one (97 + c.toNat))).length + _ ≤ _; rw [strLen_append]; omega), ?_⟩
      have b6 : But p H (upd H' p (.lst ys)) := b5.trans but_self
      have hp6 : upd H' p (.lst ys) p = some (.lst ys) := upd_same
      have hw6 : Ws (upd H' p (.lst ys)) D ws := by
        show upd H' p (.lst ys) D = _
        rw [upd_ne npD5]
        exact hw
      generalize upd H' p (.lst ys) = H6 at b6 hp6 hw6 ⊢
      have wm : Wd ((cutS z none (some r) ++ ⟨#[97 + c.toNat]⟩) ++ cutS z (some (r + 1)) none) := wm
      generalize (cutS z none (some r) ++ ⟨#[97 + c.toNat]⟩) ++ cutS z (some (r + 1)) none = x at wm ⊢
      refine ⟨_, rfl, _, rfl, ?_⟩
      refine ite2 (fun _ => ?a) (fun _ => ?b)
      case' a =>
        refine ⟨_, rfl, p, _, ys, rfl, hp6, hy, by omega, fun x2 ys2 H7 wx hy2 b7 hp7 => ?_⟩
        have hw7 : Ws H7 D ws := b7 D _ npD5 hw6
        have b7 := b6.trans b7
        have pu : Pu H7 p (n + 12 + 11 * ((i + 1 : Nat) : Int)) := ⟨ys2, hp7, hy2.mono (by push_cast; omega)⟩
      case' b =>
        have pu : Pu H6 p (n + 12 + 11 * ((i + 1 : Nat) : Int)) := ⟨ys, hp6, hy.mono (by push_cast; omega)⟩
        generalize x = x2 at wm ⊢
        generalize H6 = H7 at b6 hw6 pu ⊢
        have hw7 := hw6
        have b7 := b6
        have wx := wm
      all_goals
        have pt : ∀ (x3 : Str) (H8 : Hp) (o8 : Option V), Wd x3 → x3 ∉ ws → Ws H8 D ws → But p H H8 → Pu H8 p (n + 12 + 11 * ((i + 1 : Nat) : Int)) → WT p D m n r z b H (i + 1) [some (.ref p), some (.int m), some (.str z), some (.bl b), some (.int r), some (.ref D), some (.int (0 + (i : Nat))), some (.str x3), o8] (upd H8 D (.lst (ws.map V.str ++ [V.str x3]))) := fun x3 H8 o8 w3 n3 h3 b3 p3 =>
          ⟨⟨_, _, _, rfl⟩, p3.upd (Ne.symm npD5), fun c o nc e => by rw [upd_ne (ne_of_none e fD)]; exact b3 c o nc e, ws ++ [x3], by show upd _ _ _ D = _; rw [upd_same, List.map_append]; rfl, by simp [hl], List.nodup_append.mpr ⟨nd, by simp, fun a ha c hc => by rw [List.mem_singleton.mp hc]; exact fun e => n3 (by rw [← e]; exact ha)⟩, fun c hc => by
            rcases List.mem_append.mp hc with h | h
            · exact wd c h
            · rw [List.mem_singleton.mp h]; exact w3⟩
        have lw : (ws.map V.str).length < sizeLine := by
          rw [List.length_map]
          omega
        refine ⟨_, rfl, _, rfl, D, ws.map V.str, rfl, Or.inl (SqL.of hw7), rfl, flat_strs ws, _, rfl, ?_⟩
        rw [inV_str]
        by_cases hin : x2 ∈ ws
        · refine ifT (by simpa using hin) ?_
          have ex : (abc.cps.toList.map fun c => V.str ⟨#[c]⟩) = letters.map V.str := by
            unfold letters
            rw [List.map_map]
            rfl
          refine ⟨abc, rfl, by decide +kernel, fun L nL => ?_⟩
          rw [ex]
          have nDL : D ≠ L := ne_of_none hw7 nL
          have s8 : Same H7 (upd H7 L (.lst (letters.map V.str))) := same_upd nL
          have hL : upd H7 L (.lst (letters.map V.str)) L = some (.lst (letters.map V.str)) := upd_same
          generalize upd H7 L (.lst (letters.map V.str)) = H8 at s8 hL ⊢
          have hw8 : Ws H8 D ws := s8 _ _ hw7
          refine ⟨L, rfl, ⟨_, SqL.of hL⟩, fun D2 nD2 => ?_⟩
          have nLD : L ≠ D2 := ne_of_none hL nD2
          have nDD : D ≠ D2 := ne_of_none hw8 nD2
          refine lc_list (K := K) (a := L) (xs := letters.map V.str) (fun j H' => (∀ c, c ≠ D2 → H' c = H8 c) ∧ H' D2 = some (.lst (((letters.take j).filter fun x => decide (x ∉ ws)).map V.str)))
            ⟨fun c nc => upd_ne nc, upd_same⟩ (fun j H' _ h => SqL.of (by rw [h.1 L nLD]; exact hL)) ?_ ?_
          · rintro j y H' hj ⟨k1, k2⟩
            rw [List.getElem?_map] at hj
            cases e3 : letters[j]? with
            | none =>
              rw [e3] at hj
              cases hj
            | some c =>
              rw [e3] at hj
              cases hj
              have et : letters.take (j + 1) = letters.take j ++ [c] := by
                rw [List.take_add_one, e3]
                rfl
              have lt : j < letters.length := (List.getElem?_eq_some_iff.mp e3).1
              rw [letters_len] at lt
              have ll : ((letters.take j).filter fun x => decide (x ∉ ws)).length ≤ j := Nat.le_trans (List.length_filter_le _ _) (by rw [List.length_take]; omega)
              refine ⟨rfl, _, rfl, _, rfl, D, ws.map V.str, rfl, Or.inl (SqL.of (by rw [k1 D nDD]; exact hw8)), rfl, flat_strs ws, _, rfl, ?_⟩
              rw [inV_str]
              by_cases hc : c ∈ ws
              · refine ifF (by simpa using hc) ⟨k1, ?_⟩
                rw [et, List.filter_append]
                simp [k2, hc]
              · refine ifT (by simpa using hc) ⟨_, rfl, _, k2, by rw [List.length_map]; omega, fun b nb => by rw [upd_ne nb]; exact k1 b nb, ?_⟩
                rw [upd_same, et, List.filter_append]
                simp [hc]
          · rintro H9 ⟨k1, k2⟩
            rw [List.length_map, List.take_length] at k2
            obtain ⟨x3, rest, e3, w3, n3⟩ := free_letter (ws := ws) (by omega)
            rw [e3] at k2
            have hw9 : Ws H9 D ws := by
              show H9 D = _
              rw [k1 D nDD]
              exact hw8
            have fr9 : ∀ c o, H7 c = some o → H9 c = some o := fun c o e => by
              have e8 := s8 _ _ e
              rw [k1 c (ne_of_none e8 nD2)]
              exact e8
            have pu9 : Pu H9 p (n + 12 + 11 * ((i + 1 : Nat) : Int)) := by
              obtain ⟨xs9, h1, h2⟩ := pu
              exact ⟨xs9, fr9 _ _ h1, h2⟩
            refine ⟨D2, _, ((0 : Nat) : Int), V.str x3, rfl, rfl, SqL.of k2, atI_nat rfl, ?_⟩
            exact ⟨_, rfl, Or.inl ⟨rfl, _, SqL.of hw9⟩, _, rfl, D, _, _, rfl, rfl, hw9, lw, pt x3 H9 _ w3 n3 hw9 (b7.trans fun c o _ e => fr9 c o e) pu9⟩
        · refine ifF (by simpa using hin) ?_
          exact ⟨_, rfl, Or.inl ⟨rfl, _, SqL.of hw7⟩, _, rfl, D, _, _, rfl, rfl, hw7, lw, pt x2 H7 _ wx hin hw7 b7 pu⟩
    · rintro σ H' ⟨⟨o6, o7, o8, rfl⟩, hp5, b5, ws, hw, hl, nd, wd⟩
      exact ⟨_, rfl, q D ws H' (by omega) nd wd (hp5.mono (by omega)) b5 fD hw⟩
end
end K13
end
section
set_option Elab.async false
set_option linter.all false
set_option maxRecDepth 100000
set_option maxHeartbeats 4000000
namespace RevX
open PySem PySem.Spec PyProof.Rows HT
section
variable {prog : Program} {w : World} {A : Around} {E : Value → Shared → Prop} {s : Shared}
theorem applied_rev {sl : Addr} {vl vu vs : Value} {Q : Int × Int × Nat → Shared → Prop} (hs : s.heap.IsSliceOf sl vl vu vs) (pl : IsPart vl none) (pu : IsPart vu none) (ps : IsPart vs (some (-1))) (h : Q (1, -1, 2) s) :
    wpAny (model prog w) A (Builtin.Slice.sliceApplied (.ref sl) (pure ((2 : Nat) : Int))) Q E s := by
  obtain ⟨os, hos, hcs, hds⟩ := id hs
  unfold Builtin.Slice.sliceApplied Builtin.Slice.sliceFields
  refine wpAny_bind (wpAny_bind (wpAny_field hos hds (x := vl) rfl (wpAny_bind (wpAny_field hos hds (x := vu) rfl (wpAny_bind (wpAny_field hos hds (x := vs) rfl (wpAny_pure ?_)))))))
  refine wpAny_bind (slicePart_ ps ?_)
  show wpAny _ _ (if ((-1 : Int) == 0) = true then _ else _) _ _ s
  rw [if_neg (by decide)]
  refine wpAny_bind (slicePart_ pl (wpAny_bind (slicePart_ pu (wpAny_bind (wpAny_pure ?_)))))
  exact wpAny_pure h
/-- (u, v)[::-1] -/
theorem item_rev {t sl : Addr} {u v vl vu vs : Value} {Q : Value → Shared → Prop} (ht : IsTup s.heap t #[u, v]) (hs : s.heap.IsSliceOf sl vl vu vs) (pl : IsPart vl none) (pu : IsPart vu none) (ps : IsPart vs (some (-1)))
    (h : Q (.ref s.heap.objs.size) { s with heap := s.heap.push { cls := .type "tuple", data := .seq #[v, u] } }) : wpAny (model prog w) A (getItem (.ref t) (.ref sl)) Q E s := by
  obtain ⟨os, hos, hcs, hds⟩ := id hs
  have hTs : s.TypeIs (.ref sl) "slice" := ⟨os, hos, hcs⟩
  unfold getItem
  try with_reducible refine wpAny_holding ?_
  first | refine wpAny_bind (wpAny_pure ?_) | skip
  refine wpAny_bind (wpAny_sequenceKey ht.typeIs (by decide) ?_)
  refine wpAny_bind (wpAny_callSpecial?_slot (name := Str.ofString "__getitem__") ht.typeIs PyProof.Rows.slot_tuple_getitem
    (wpAny_call_entry PyProof.Rows.slot_tuple_getitem ht.typeIs entry_tuple_getitem ?_ (args_tuple_getitem _ _)))
  show wpAny _ _ (Builtin.Tuple.tupleItemsOf (.ref t) >>= _) _ _ s
  refine wpAny_bind (tupleItemsOf_ ht (wpAny_bind (wpAny_typeOf hTs ?_)))
  rw [if_pos (by decide)]
  refine wpAny_bind (applied_rev hs pl pu ps ?_)
  show wpAny _ _ (if (((1 : Int) == 0) && ((-1 : Int) == 1) && (2 == 2)) = true then _ else _) _ _ s
  rw [if_neg (by decide)]
  have hz : sizeOk (.seq #[v, u]) := by show 2 ≤ sizeLine; decide +kernel
  have e : ((List.range 2).filterMap fun (k : Nat) => (#[u, v] : Array Value)[((1 : Int) + (k : Int) * (-1)).toNat]?).toArray = #[v, u] := rfl
  rw [e]
  first
    | exact wpAny_bind (m := Builtin.Tuple.tupleExact _) (wpAny_newObj_type (wpAny_pure ⟨_, rfl, wpAny_pure h⟩) hz)
    | exact wpAny_bind (m := Builtin.Tuple.tupleExact _) (wpAny_newObj_type (wpAny_bind (wpAny_pure (wpAny_pure ⟨_, rfl, wpAny_pure h⟩))) hz)
    | exact wpAny_bind (wpAny_bind (m := Builtin.Tuple.tupleExact _) (wpAny_newObj_type (wpAny_pure (wpAny_pure ⟨_, rfl, wpAny_pure h⟩)) hz))
    | exact wpAny_bind (wpAny_bind (m := Builtin.Tuple.tupleExact _) (wpAny_newObj_type (wpAny_pure ⟨_, rfl, wpAny_pure h⟩) hz))
end
end RevX
namespace L2
open PySem PySem.Spec PyProof.Rows
/-- t[::-1], t a pair -/
def tRev2 (K : PySem.W.Frag) (te : TE) : TE := fun σ H Q => te σ H fun x H1 => ∃ a y z, x = .ref a ∧ SqT K H1 a [y, z] ∧ ∀ p, H1 p = none → Q (.ref p) (upd H1 p (.tup [z, y]))
theorem pe_rev2 {X : Cx} {e : Expr} {te : TE} {k : Nat} {p1 p2 p3 pos : Pos} (he : PE X e te) : PE X (.Subscript e (.Slice none none (some (.UnaryOp .USub (.Constant (.int 1) k p1) p2)) p3) pos) (tRev2 X.K te) := by
  refine ⟨fun pins s σ H Q I h => ?_⟩
  refine Subscript_ (thn (he.run pins s σ H _ I h) fun v s1 ⟨x, H1, I1, r1, a, y, z, ex, hx, q⟩ => ?_)
  subst ex
  cases r1
  have step : PO X (some (.UnaryOp .USub (.Constant (.int 1) k p1) p2)) (tPart (tUn (rU fun i => .int (-i)) (tC (.int 1)))) := po_some (pe_un un_neg pe_int)
  refine wpAny_Slice (thn (po_none.run pins s1 σ H1 (fun o G => o = none ∧ G = H1) I1 ⟨rfl, rfl⟩) fun vl s2 ⟨l, H2, I2, pl, el, e2⟩ => thn (po_none.run pins s2 σ H2 (fun o G => o = none ∧ G = H2) I2 ⟨rfl, rfl⟩) fun vu s3 ⟨u, H3, I3, pu, eu, e3⟩ =>
    thn (step.run pins s3 σ H3 (fun o G => o = some (-1) ∧ G = H3) I3 ⟨1, rfl, -1, rfl, rfl, rfl⟩) fun vs s4 ⟨o, H4, I4, ps, eo, e4⟩ => ?_)
  subst el e2 eu e3 eo e4
  have I5 : Inv X pins σ H4 { s4 with heap := s4.heap.push { cls := .type "slice", data := .fields #[vl, vu, vs] } } := I4.kept (t' := s4.toks) fun b ob q => Heap.get?_push_of_some _ q
  obtain ⟨its, r, ht, hz⟩ := I5.tuple hx
  obtain ⟨u1, u2, rfl, ra, rb⟩ := vals2 r
  show wpAny (model X.prog X.w) X.A (subscriptTail e (.Slice none none (some (.UnaryOp .USub (.Constant (.int 1) k p1) p2)) p3) (.ref a) (.ref s4.heap.objs.size)) (EP X pins σ Q) X.xe { s4 with heap := s4.heap.push { cls := .type "slice", data := .fields #[vl, vu, vs] } }
  refine tail_any (ops := [.ref a, .ref s4.heap.objs.size]) ht.typeIs (PyProof.Rows.slot_tuple_getitem.lookup) ?_ (by with_unfolding_all rfl)
  refine RevX.item_rev ht (Heap.IsSliceOf.new _ vl vu vs) pl pu ps ?_
  exact ⟨.ref _, _, I5.laid (t' := s4.toks) (o := .tup [z, y]) (fun b ob q => Heap.get?_push_of_some _ q) (Nat.le_refl _) ⟨by show 2 ≤ sizeLine; decide +kernel, _, .cons rb (.cons ra .nil), IsTup.new _ _⟩, rfl, q _ (I5.hok.fresh (Nat.le_refl _))⟩
end L2
end
section
set_option Elab.async false
set_option linter.all false
set_option maxRecDepth 100000
set_option maxHeartbeats 4000000
namespace K13
open PySem PySem.Spec PyProof.Rows L2
/-! ### data that are compared -/
theorem eqv_nil (ds : List PyData) : PyData.eqv (.list ds) (.list []) = ds.isEmpty := by
  cases ds <;> rfl
theorem nil_shaped : SeqAt.shaped (.list []) = true := by decide +kernel
theorem wd_ok {x : Str} (h : Wd x) : PyData.strOk x = true := by
  unfold PyData.strOk
  rw [← Array.all_toList, List.all_eq_true]
  intro c hc
  have := h.2.2 c hc
  exact decide_eq_true (by omega)
theorem lay_strs : ∀ ws : List Str, (∀ x ∈ ws, Wd x) → PyData.canLayAll0 (ws.map PyData.str) = true
  | [], _ => rfl
  | w :: ws, h => by
    have ih := lay_strs ws fun x hx => h x (List.mem_cons_of_mem _ hx)
    simp [PyData.canLayAll0, PyData.canLay0, ih, wd_ok (h w List.mem_cons_self)]
theorem depth_strs : ∀ ws : List Str, PyData.depthAll (ws.map PyData.str) ≤ 1
  | [] => Nat.zero_le _
  | w :: ws => by
    have ih := depth_strs ws
    show max (PyData.depth (.str w)) (PyData.depthAll (ws.map PyData.str)) ≤ 1
    exact Nat.max_le.mpr ⟨by simp [PyData.depth], ih⟩
theorem strs_shaped {ws : List Str} (h : ∀ x ∈ ws, Wd x) : SeqAt.shaped (.list (ws.map PyData.str)) = true := by
  have h1 : PyData.canLay0 (.list (ws.map PyData.str)) = true := lay_strs ws h
  have h2 : PyData.depth (.list (ws.map PyData.str)) ≤ 64 := by
    show PyData.depthAll (ws.map PyData.str) + 1 ≤ 64
    have := depth_strs ws
    omega
  unfold SeqAt.shaped
  rw [h1, decide_eq_true h2]
  rfl
theorem dp_strs {K : PySem.W.Frag} {H : Hp} : ∀ ws : List Str, DpAll K H (ws.map V.str) (ws.map PyData.str)
  | [] => .nil
  | w :: ws => .cons (.str w) (dp_strs ws)
/-- a street -/
structure S5 where
  nm : Str
  st : Str
  en : Str
  wd : Int
  ln : Int
def S5.vals (s : S5) : List V := [.str s.nm, .str s.st, .str s.en, .int s.wd, .int s.ln]
def S5.data (s : S5) : PyData := .tuple [.str s.nm, .str s.st, .str s.en, .int s.wd, .int s.ln]
/-- at D the list of the streets ts (address, street) -/
def Sts (H : Hp) (D : Addr) (ts : List (Addr × S5)) : Prop := H D = some (.lst (ts.map fun t => V.ref t.1)) ∧ ∀ t ∈ ts, H t.1 = some (.tup t.2.vals)
theorem dp_sts {K : PySem.W.Frag} {H : Hp} : ∀ {ts : List (Addr × S5)}, (∀ t ∈ ts, H t.1 = some (.tup t.2.vals)) → DpAll K H (ts.map fun t => V.ref t.1) (ts.map fun t => t.2.data)
  | [], _ => .nil
  | t :: ts, h => .cons (.tup (SqT.of (h t List.mem_cons_self)) (.cons (.str _) (.cons (.str _) (.cons (.str _) (.cons (.int _) (.cons (.int _) .nil)))))) (dp_sts fun u hu => h u (List.mem_cons_of_mem _ hu))
/-- its words are words -/
def S5.Ok (s : S5) : Prop := Wd s.nm ∧ Wd s.st ∧ Wd s.en ∧ s.st ≠ s.en ∧ 0 ≤ s.wd ∧ s.wd ≤ 1000000 ∧ 0 ≤ s.ln ∧ s.ln ≤ 1000000
theorem lay_sts : ∀ ss : List S5, (∀ s ∈ ss, s.Ok) → PyData.canLayAll0 (ss.map S5.data) = true
  | [], _ => rfl
  | s :: ss, h => by
    have ih := lay_sts ss fun x hx => h x (List.mem_cons_of_mem _ hx)
    obtain ⟨h1, h2, h3, _⟩ := h s List.mem_cons_self
    simp [PyData.canLayAll0, PyData.canLay0, S5.data, ih, wd_ok h1, wd_ok h2, wd_ok h3]
theorem depth_sts : ∀ ss : List S5, PyData.depthAll (ss.map S5.data) ≤ 3
  | [] => Nat.zero_le _
  | s :: ss => by
    have ih := depth_sts ss
    show max (PyData.depth s.data) (PyData.depthAll (ss.map S5.data)) ≤ 3
    refine Nat.max_le.mpr ⟨?_, ih⟩
    simp [S5.data, PyData.depth, PyData.depthAll]
theorem sts_shaped {ss : List S5} (h : ∀ s ∈ ss, s.Ok) : SeqAt.shaped (.list (ss.map S5.data)) = true := by
  have h1 : PyData.canLay0 (.list (ss.map S5.data)) = true := lay_sts ss h
  have h2 : PyData.depth (.list (ss.map S5.data)) ≤ 64 := by
    show PyData.depthAll (ss.map S5.data) + 1 ≤ 64
    have := depth_sts ss
    omega
  unfold SeqAt.shaped
  rw [h1, decide_eq_true h2]
  rfl
/-- a pair of unlike words of C at a -/
def Pr (H : Hp) (C : List Str) (a : Addr) : Prop := ∃ x y, H a = some (.tup [.str x, .str y]) ∧ x ∈ C ∧ y ∈ C ∧ x ≠ y
def Prs (H : Hp) (D : Addr) (C : List Str) (ps : List Addr) : Prop := H D = some (.lst (ps.map V.ref)) ∧ ∀ a ∈ ps, Pr H C a
end K13
end
section
set_option Elab.async false
set_option linter.all false
set_option maxRecDepth 100000
set_option maxHeartbeats 8000000
namespace K13
open PySem PySem.Spec PyProof.Rows L2
theorem weak {X : Cx} {st : List Stmt} {t t' : TS} (h : PSs X st t) (w : ∀ D σ H, t' D σ H → t D σ H) : PSs X st t' := ⟨fun pins s σ H D I q => h.run pins s σ H D I (w D σ H q)⟩
theorem Prs.keep {H H' : Hp} {D : Addr} {C : List Str} {ps : List Addr} (h : Prs H D C ps) (k : ∀ b o, H b = some o → H' b = some o) : Prs H' D C ps := by
  refine ⟨k _ _ h.1, fun a ha => ?_⟩
  obtain ⟨x, y, e, r⟩ := h.2 a ha
  exact ⟨x, y, k _ _ e, r⟩
theorem Pr.keep {H H' : Hp} {a : Addr} {C : List Str} (h : Pr H C a) (k : ∀ b o, H b = some o → H' b = some o) : Pr H' C a := by
  obtain ⟨x, y, e, r⟩ := h
  exact ⟨x, y, k _ _ e, r⟩
theorem strs_at {gs : List Str} {i : Nat} {x : Str} (h : gs[i]? = some x) : (gs.map V.str)[i]? = some (.str x) := by
  rw [List.getElem?_map, h]
  rfl
theorem prev_at {gs : List Str} {i : Nat} {x : Str} (nd : gs.Nodup) (h2 : 2 ≤ gs.length) (hx : gs[i]? = some x) : ∃ y, atI (gs.map V.str) ((0 + (i : Int)) - 1) = some (.str y) ∧ y ∈ gs ∧ y ≠ x := by
  have lt := (List.getElem?_eq_some_iff.mp hx).1
  have key : ∀ j : Nat, j < gs.length → j ≠ i → ixN gs.length ((0 + (i : Int)) - 1) = some j → ∃ y, atI (gs.map V.str) ((0 + (i : Int)) - 1) = some (.str y) ∧ y ∈ gs ∧ y ≠ x := fun j lj nj e => by
    have ej : gs[j]? = some gs[j] := List.getElem?_eq_getElem lj
    refine ⟨gs[j], ?_, List.getElem_mem lj, fun e2 => nj ?_⟩
    · unfold atI
      rw [List.length_map, e]
      exact strs_at ej
    · exact (List.getElem?_inj lj nd).mp (by rw [ej, e2, hx])
  unfold ixN at key
  by_cases h0 : i = 0
  · subst h0
    refine key (gs.length - 1) (by omega) (by omega) ?_
    rw [if_neg (by omega), if_pos (by omega)]
    congr 1
    omega
  · refine key (i - 1) (by omega) (by omega) ?_
    rw [if_pos (by omega), if_pos (by omega)]
    congr 1
    omega
abbrev NS : List Str := ["_law_purse_here", "_law_gates", "_law_inner_here", "_law_way", "_law_found", "_law_at", "_law_row", "_law_gate"]
theorem scShape : FnScope NS ["_law_purse_here", "_law_gates", "_law_inner_here"] (defScope sShape) := ⟨rfl, rfl, rfl, by decide +kernel, rfl, by decide +kernel, by decide +kernel⟩
def shS (i : Nat) : Stmt := (defBody sShape).getD i (.Pass ⟨0, 0, 0, 0⟩)
/-- what is handed: gates and crossings within, all unlike -/
structure ShG (H : Hp) (p lg li : Addr) (gs is : List Str) : Prop where
  g : Ws H lg gs
  i : Ws H li is
  np : lg ≠ p
  pt : ∃ xs, H p = some (.lst xs)
  nq : li ≠ p
  nd : (gs ++ is).Nodup
  wd : ∀ x ∈ gs ++ is, Wd x
  l1 : 1 ≤ gs.length
  l5 : gs.length ≤ 5
  l8 : is.length ≤ 8
def ShI (k : Int) (p lg li : Addr) (gs is : List Str) (H : Hp) (n : Int) : L2.St → Hp → Prop := fun σ H' => ∃ (way : Int) (D : Addr) (ps : List Addr) (o5 o6 o7 : Option V), σ = [some (.ref p), some (.ref lg), some (.ref li), some (.int way), some (.ref D), o5, o6, o7] ∧
  Pu H' p (n + 1) ∧ But p H H' ∧ H D = none ∧ Prs H' D (gs ++ is) ps ∧ ps.length ≤ 12 ∧ (ps = [] ∨ way < k)
def tSh (k : Int) (p lg li : Addr) (gs is : List Str) (H0 : Hp) (n : Int) (u : TS) : TS := fun E σ H' => ShI k p lg li gs is H0 n σ H' ∧ ∀ σ2 H2, ShI (k + 1) p lg li gs is H0 n σ2 H2 → u E σ2 H2
abbrev SX (P : Program) (w : World) (K : PySem.W.Frag) (mg : Str → Option Value) (base : Heap) (f : Addr) (cdv : Value) (A : Around) (outer : List Env) (s : Shared) (H : Hp) (E : XK) : Cx := (cxOf CX0 P w K mg base NS "_law_shape" (defScope sShape) f cdv A outer s H E).nox
section
variable {P : Program} {w : World} {K : PySem.W.Frag} {mg : Str → Option Value} {base : Heap} {f : Addr} {cdv : Value} {A : Around} {outer : List Env} {s : Shared} {Hl : Hp} {E : XK} {p lg li : Addr} {gs is : List Str} {H0 : Hp} {n : Int}
theorem sh0 (T : Tx K mg) (B : ShG H0 p lg li gs is) {rest : List Stmt} {u : TS} (hu : PSs (SX P w K mg base f cdv A outer s Hl E) rest u) : PSs (SX P w K mg base f cdv A outer s Hl E) (shS 1 :: rest) (tSh 0 p lg li gs is H0 n u) := by
  have gL := T.fr "len" (by decide +kernel)
  have gR := T.fr "range" (by decide +kernel)
  refine weak (t := tSeq _ u) (pss_cons (ps_if (PW.pt (pw_and (pt_cmpR op_eq (pv 3) pe_int (nomark _)) (pw_and1 (pt_cmpR op_gt (pe_callB call_len_seq (by rfl) gL PySem.boot_len (pa_cons (pv 1) pa_nil)) pe_int (nomark _)))))
    (pss_one (ps_for PassesOwn.never rfl (pi_range1 rfl gR (pa_cons (pe_callB call_len_seq (by rfl) gL PySem.boot_len (pa_cons (pv 1) pa_nil)) pa_nil)) (pg_name (i := 5) scShape.nd rfl (Or.inl rfl))
      (pss_one (ps_expr (pe_bm PySem.F.plainAttrs_list PySem.F.slot_list_append PySem.F.type_list_append mt_append (pv 4) (pa_cons (pe_tup (pa_cons (pe_ix ix_list (pv 1) (pv 5) (fun _ _ => rfl)) (pa_cons (pe_ix ix_list (pv 1) (pe_op op_sub (pv 5) pe_int) (fun _ _ => rfl)) pa_nil))) pa_nil)))))) pss_nil) hu) ?_
  rintro D σ H ⟨⟨way, L, ps, o5, o6, o7, rfl, hp, bu, fL, hP, hl, hk⟩, q⟩
  have hg : Ws H lg gs := bu _ _ B.np B.g
  have sl := sizeLine_eq
  have back : ∀ o5 o6 o7, u D [some (.ref p), some (.ref lg), some (.ref li), some (.int way), some (.ref L), o5, o6, o7] H := fun a b c => q _ _ ⟨way, L, ps, a, b, c, rfl, hp, bu, fL, hP, hl, hk.imp id fun z => by omega⟩
  refine ⟨_, rfl, rfl, _, rfl, ?_⟩
  by_cases hw : way = 0
  · refine ifT (by simpa using hw) ⟨_, rfl, lg, _, rfl, Or.inl (SqL.of hg), _, _, rfl, rfl, _, rfl, ?_⟩
    have e0 : ps = [] := hk.elim id fun z => absurd z (by omega)
    subst e0
    by_cases h2 : 2 ≤ gs.length
    · refine ifT (decide_eq_true (by rw [List.length_map]; omega)) ?_
      refine ⟨_, rfl, lg, _, rfl, Or.inl (SqL.of hg), _, rfl, by rw [List.length_map]; have := B.l5; omega, by rw [List.length_map]; have := B.l5; omega, ?_⟩
      rw [List.length_map]
      have nLg : L ≠ lg := fun e => by
        rw [e, B.g] at fL
        cases fL
      refine for_range (n := gs.length) (fun i σ H' => (∃ o5, σ = [some (.ref p), some (.ref lg), some (.ref li), some (.int way), some (.ref L), o5, o6, o7]) ∧ Pu H' p (n + 1) ∧ But p H0 H' ∧ ∃ ps : List Addr, Prs H' L (gs ++ is) ps ∧ ps.length = i)
        ⟨⟨_, rfl⟩, hp, bu, [], hP, rfl⟩ ?_ ?_
      · rintro i σ H' hi ⟨⟨o5, rfl⟩, hp1, b1, ps, hP1, hl1⟩
        have hg1 : Ws H' lg gs := b1 _ _ B.np B.g
        have l5 := B.l5
        have ei : gs[i]? = some gs[i] := List.getElem?_eq_getElem hi
        obtain ⟨y, ey, my, ny⟩ := prev_at (List.nodup_append.mp B.nd).1 h2 ei
        refine ⟨_, rfl, Or.inl ⟨rfl, _, SqL.of hP1.1⟩, _, rfl, _, rfl, lg, _, ((i : Nat) : Int), _, rfl, by rw [Int.zero_add], SqL.of hg1, atI_nat (strs_at ei), _, rfl, _, rfl, _, _, rfl, rfl, lg, _, _, _, rfl, rfl, SqL.of hg1, ey, ?_⟩
        refine ⟨(by show 2 ≤ sizeLine; decide +kernel), fun t nt => ?_⟩
        have ntL : L ≠ t := ne_of_none hP1.1 nt
        obtain ⟨xs1, hx1, hx2⟩ := hp1
        have ntp : p ≠ t := ne_of_none hx1 nt
        have npL : p ≠ L := fun e => by
          obtain ⟨xs, h1⟩ := B.pt
          rw [e, fL] at h1
          cases h1
        refine ⟨L, _, _, rfl, rfl, by rw [upd_ne (Ne.symm (Ne.symm ntL))]; exact hP1.1, by rw [List.length_map]; omega, ?_⟩
        refine ⟨⟨_, rfl⟩, ⟨xs1, by rw [upd_ne npL, upd_ne ntp]; exact hx1, hx2⟩, fun b o nb e => by rw [upd_ne (ne_of_none e fL)]; exact but_new nt b o nb (b1 b o nb e), ps ++ [t], ⟨by rw [upd_same, List.map_append]; rfl, fun a ha => ?_⟩, by simp [hl1]⟩
        rcases List.mem_append.mp ha with h | h
        · obtain ⟨x, z, e, r⟩ := hP1.2 a h
          exact ⟨x, z, by rw [upd_ne (ne_of e hP1.1 (by intro z; cases z)), upd_ne (ne_of_none e nt)]; exact e, r⟩
        · rw [List.mem_singleton.mp h]
          exact ⟨_, _, by rw [upd_ne (Ne.symm ntL)]; exact upd_same, List.mem_append_left _ (List.getElem_mem hi), List.mem_append_left _ my, Ne.symm ny⟩
      · rintro σ H' ⟨⟨o5, rfl⟩, hp1, b1, ps, hP1, hl1⟩
        exact q _ _ ⟨way, L, ps, _, _, _, rfl, hp1, b1, fL, hP1, by have := B.l5; omega, Or.inr (by omega)⟩
    · exact ifF (fun z => by have z := of_decide_eq_true z; rw [List.length_map] at z; omega) (back o5 o6 o7)
  · exact ifF (by simpa using hw) (ifF (by decide) (back o5 o6 o7))
end
end K13
end
section
set_option Elab.async false
set_option linter.all false
set_option maxRecDepth 100000
set_option maxHeartbeats 8000000
namespace K13
open PySem PySem.Spec PyProof.Rows L2
/-- a comprehension of pairs, at its turn j -/
def PvC (H1 : Hp) (D : Addr) (C : List Str) (j : Nat) (H' : Hp) : Prop := Same H1 H' ∧ ∃ ps, Prs H' D C ps ∧ ps.length = j
theorem pvc_start {H1 : Hp} {D : Addr} {C : List Str} (nD : H1 D = none) : PvC H1 D C 0 (upd H1 D (.lst [])) := ⟨same_upd nD, [], ⟨upd_same, fun a h => by simp at h⟩, rfl⟩
theorem pvc_step {H1 H' : Hp} {D t : Addr} {C : List Str} {j : Nat} {x y : Str} (h : PvC H1 D C j H') (nD : H1 D = none) (nt : H' t = none) (hx : x ∈ C) (hy : y ∈ C) (ne : x ≠ y) :
    ∃ ps : List Addr, upd H' t (.tup [.str x, .str y]) D = some (.lst (ps.map V.ref)) ∧ ps.length = j ∧ PvC H1 D C (j + 1) (upd (upd H' t (.tup [.str x, .str y])) D (.lst (ps.map V.ref ++ [V.ref t]))) := by
  obtain ⟨s1, ps, ⟨h1, h2⟩, hl⟩ := h
  have nDt : D ≠ t := ne_of_none h1 nt
  refine ⟨ps, by rw [upd_ne nDt]; exact h1, hl, fun b o e => ?_, ps ++ [t], ⟨by rw [upd_same, List.map_append]; rfl, fun a ha => ?_⟩, by simp [hl]⟩
  · rw [upd_ne (ne_of_none e nD), upd_ne (ne_of_none (s1 _ _ e) nt)]
    exact s1 _ _ e
  · rcases List.mem_append.mp ha with h | h
    · obtain ⟨u, v, e, r⟩ := h2 a h
      exact ⟨u, v, by rw [upd_ne (ne_of e h1 (by intro z; cases z)), upd_ne (ne_of_none e nt)]; exact e, r⟩
    · rw [List.mem_singleton.mp h]
      exact ⟨x, y, by rw [upd_ne (Ne.symm nDt)]; exact upd_same, hx, hy, ne⟩
section
variable {P : Program} {w : World} {K : PySem.W.Frag} {mg : Str → Option Value} {base : Heap} {f : Addr} {cdv : Value} {A : Around} {outer : List Env} {s : Shared} {Hl : Hp} {E : XK} {p lg li : Addr} {gs is : List Str} {H0 : Hp} {n : Int}
theorem sh1 (T : Tx K mg) (B : ShG H0 p lg li gs is) (hu64 : (A.deeper (envOfC "_law_shape" (defScope sShape) s.heap.objs.size f cdv)).units + 64 < cLine) {rest : List Stmt} {u : TS} (hu : PSs (SX P w K mg base f cdv A outer s Hl E) rest u) :
    PSs (SX P w K mg base f cdv A outer s Hl E) (shS 2 :: rest) (tSh 1 p lg li gs is H0 n u) := by
  refine weak (t := tSeq _ u) (pss_cons (ps_if (PW.pt (pw_and (pt_cmpR op_eq (pv 3) pe_int (nomark _)) (pw_and1 (pt_cmpR (op_neD hu64) (pv 2) (pe_lst pa_nil) (nomark _)))))
    (pss_one (ps_set (i := 4) scShape.nd rfl (Or.inl rfl) (pe_op op_cat
      (pe_lc (own := [("_law_gate", 7)]) (g := gName 7) (tt := tYes) rfl scShape.nd (pi_list (pv 1)) (blkOk_by (own := [("_law_gate", 7)]) (N := NS) (sc := defScope sShape) (by decide +kernel))
        (fun _ _ _ _ _ => pg_name (i := 7) scShape.nd rfl (Or.inl rfl)) (fun _ _ _ _ _ => pts_nil) (te := tTup (tCons (tVar 7) (tCons (tOp (rIxL K) (tVar 2) (tC (.int 0))) tNil))) (fun _ _ _ _ _ => pe_tup (pa_cons (pv 7) (pa_cons (pe_ix ix_list (pv 2) pe_int (fun _ _ => rfl)) pa_nil))))
      (pe_lc (own := [("_law_gate", 7)]) (g := gName 7) (tt := tYes) rfl scShape.nd (pi_list (pv 1)) (blkOk_by (own := [("_law_gate", 7)]) (N := NS) (sc := defScope sShape) (by decide +kernel))
        (fun _ _ _ _ _ => pg_name (i := 7) scShape.nd rfl (Or.inl rfl)) (fun _ _ _ _ _ => pts_nil) (te := tTup (tCons (tOp (rIxL K) (tVar 2) (tC (.int 0))) (tCons (tVar 7) tNil))) (fun _ _ _ _ _ => pe_tup (pa_cons (pe_ix ix_list (pv 2) pe_int (fun _ _ => rfl)) (pa_cons (pv 7) pa_nil))))))) pss_nil) hu) ?_
  rintro D σ H ⟨⟨way, L, ps, o5, o6, o7, rfl, hp, bu, fL, hP, hl, hk⟩, q⟩
  have hg : Ws H lg gs := bu _ _ B.np B.g
  have hi : Ws H li is := bu _ _ B.nq B.i
  have sl := sizeLine_eq
  have l5 := B.l5
  have l8 := B.l8
  have back : ∀ o5 o6 o7, u D [some (.ref p), some (.ref lg), some (.ref li), some (.int way), some (.ref L), o5, o6, o7] H := fun a b c => q _ _ ⟨way, L, ps, a, b, c, rfl, hp, bu, fL, hP, hl, hk.imp id fun z => by omega⟩
  refine ⟨_, rfl, rfl, _, rfl, ?_⟩
  by_cases hw : way = 1
  · refine ifT (by simpa using hw) ⟨_, rfl, Nat.zero_le _, fun N nN => ?_⟩
    have sN : Same H (upd H N (.lst [])) := same_upd nN
    have hN : upd H N (.lst []) N = some (.lst []) := upd_same
    generalize upd H N (.lst []) = H1 at sN hN ⊢
    refine ⟨_, _, .lst (SqL.of (sN _ _ hi)) (dp_strs is), .lst (SqL.of hN) .nil, strs_shaped fun x hx => B.wd x (List.mem_append_right _ hx), nil_shaped, _, rfl, ?_⟩
    rw [eqv_nil]
    have b1 : But p H0 H1 := bu.trans fun b o _ e => sN b o e
    have p1 : Pu H1 p (n + 1) := by
      obtain ⟨xs, h1, h2⟩ := hp
      exact ⟨xs, sN _ _ h1, h2⟩
    match is, hi, B with
    | [], hi, B =>
      exact ifF (by decide) (q _ _ ⟨way, L, ps, _, _, _, rfl, p1, b1, fL, hP.keep sN, hl, hk.imp id fun z => by omega⟩)
    | x0 :: r, hi, B =>
      refine ifT rfl ?_
      have x0C : x0 ∈ gs ++ x0 :: r := List.mem_append_right _ List.mem_cons_self
      have gC : ∀ {i : Nat} {y : Str}, gs[i]? = some y → y ∈ gs ++ x0 :: r ∧ y ≠ x0 := fun {i y} e => by
        have m := List.mem_of_getElem? e
        exact ⟨List.mem_append_left _ m, (List.nodup_append.mp B.nd).2.2 y m x0 List.mem_cons_self⟩
      have hg1 := sN _ _ hg
      have hi1 := sN _ _ hi
      refine ⟨_, rfl, lg, rfl, ⟨_, SqL.of hg1⟩, fun D1 nD1 => ?_⟩
      refine lc_list (K := K) (a := lg) (xs := gs.map V.str) (PvC H1 D1 (gs ++ x0 :: r)) (pvc_start nD1) (fun i H' _ h => SqL.of (h.1 _ _ hg1)) ?_ ?_
      · intro i y H' hj h
        rw [List.getElem?_map] at hj
        cases e : gs[i]? with
        | none =>
          rw [e] at hj
          cases hj
        | some y =>
          rw [e] at hj
          cases hj
          have lt := (List.getElem?_eq_some_iff.mp e).1
          refine ⟨rfl, _, rfl, _, rfl, li, _, ((0 : Nat) : Int), _, rfl, rfl, SqL.of (h.1 _ _ hi1), atI_nat rfl, (by show 2 ≤ sizeLine; decide +kernel), fun t nt => ?_⟩
          obtain ⟨qs, k1, k2, k3⟩ := pvc_step h nD1 nt (gC e).1 x0C (gC e).2
          exact ⟨_, k1, by rw [List.length_map]; omega, k3⟩
      · rintro H2 ⟨s2, ps1, hP1, hl1⟩
        have hg2 := s2 _ _ hg1
        have hi2 := s2 _ _ hi1
        refine ⟨_, rfl, lg, rfl, ⟨_, SqL.of hg2⟩, fun D2 nD2 => ?_⟩
        refine lc_list (K := K) (a := lg) (xs := gs.map V.str) (PvC H2 D2 (gs ++ x0 :: r)) (pvc_start nD2) (fun i H' _ h => SqL.of (h.1 _ _ hg2)) ?_ ?_
        · intro i y H' hj h
          rw [List.getElem?_map] at hj
          cases e : gs[i]? with
          | none =>
            rw [e] at hj
            cases hj
          | some y =>
            rw [e] at hj
            cases hj
            have lt := (List.getElem?_eq_some_iff.mp e).1
            refine ⟨rfl, _, rfl, li, _, ((0 : Nat) : Int), _, rfl, rfl, SqL.of (h.1 _ _ hi2), atI_nat rfl, _, rfl, (by show 2 ≤ sizeLine; decide +kernel), fun t nt => ?_⟩
            obtain ⟨qs, k1, k2, k3⟩ := pvc_step h nD2 nt x0C (gC e).1 (Ne.symm (gC e).2)
            exact ⟨_, k1, by rw [List.length_map]; omega, k3⟩
        · rintro H3 ⟨s3, ps2, hP2, hl2⟩
          have hP13 := hP1.keep s3
          rw [List.length_map] at hl1 hl2
          refine ⟨D1, D2, _, _, rfl, rfl, hP13.1, hP2.1, by rw [List.length_map, List.length_map]; omega, fun D3 nD3 => ?_⟩
          have b3 : But p H0 H3 := b1.trans fun b o _ e => s3 _ _ (s2 _ _ e)
          have ND : D3 ≠ p := fun e => by
            obtain ⟨xs, h1, _⟩ := p1
            rw [e, s3 _ _ (s2 _ _ h1)] at nD3
            cases nD3
          have p3 : Pu H3 p (n + 1) := by
            obtain ⟨xs, h1, h2⟩ := p1
            exact ⟨xs, s3 _ _ (s2 _ _ h1), h2⟩
          refine q _ _ ⟨way, D3, ps1 ++ ps2, _, _, _, rfl, p3.upd (Ne.symm ND), b3.trans (but_new nD3), b3.free nD3 ND, ⟨by rw [upd_same, List.map_append], fun a ha => ?_⟩, by rw [List.length_append]; omega, Or.inr (by omega)⟩
          rcases List.mem_append.mp ha with h | h
          · exact (hP13.2 a h).keep (same_upd nD3)
          · exact (hP2.2 a h).keep (same_upd nD3)
  · exact ifF (by simpa using hw) (ifF (by decide) (back o5 o6 o7))
end
end K13
end
section
set_option Elab.async false
set_option linter.all false
set_option maxRecDepth 100000
set_option maxHeartbeats 8000000
namespace K13
open PySem PySem.Spec PyProof.Rows L2
section
variable {P : Program} {w : World} {K : PySem.W.Frag} {mg : Str → Option Value} {base : Heap} {f : Addr} {cdv : Value} {A : Around} {outer : List Env} {s : Shared} {Hl : Hp} {E : XK} {p lg li : Addr} {gs is : List Str} {H0 : Hp} {n : Int}
theorem sh2 (T : Tx K mg) (B : ShG H0 p lg li gs is) {rest : List Stmt} {u : TS} (hu : PSs (SX P w K mg base f cdv A outer s Hl E) rest u) :
    PSs (SX P w K mg base f cdv A outer s Hl E) (shS 3 :: rest) (tSh 2 p lg li gs is H0 n u) := by
  have gL := T.fr "len" (by decide +kernel)
  refine weak (t := tSeq _ u) (pss_cons (ps_if (PW.pt (pw_and (pt_cmpR op_eq (pv 3) pe_int (nomark _)) (pw_and1 (pt_cmpR op_gt (pe_callB call_len_seq (by rfl) gL PySem.boot_len (pa_cons (pv 1) pa_nil)) pe_int (nomark _)))))
    (pss_one (ps_set (i := 4) scShape.nd rfl (Or.inl rfl) (pe_op op_cat
      (pe_op op_rep (pe_lst (pa_cons (pe_tup (pa_cons (pe_ix ix_list (pv 1) pe_int (fun _ _ => rfl)) (pa_cons (pe_ix ix_list (pv 1) pe_int (fun _ _ => rfl)) pa_nil))) pa_nil)) pe_int)
      (pe_lst (pa_cons (pe_tup (pa_cons (pe_ix ix_list (pv 1) pe_int (fun _ _ => rfl)) (pa_cons (pe_ix ix_list (pv 1) pe_int (fun _ _ => rfl)) pa_nil))) pa_nil))))) pss_nil) hu) ?_
  rintro D σ H ⟨⟨way, L, ps, o5, o6, o7, rfl, hp, bu, fL, hP, hl, hk⟩, q⟩
  have hg : Ws H lg gs := bu _ _ B.np B.g
  have sl := sizeLine_eq
  have back : ∀ o5 o6 o7, u D [some (.ref p), some (.ref lg), some (.ref li), some (.int way), some (.ref L), o5, o6, o7] H := fun a b c => q _ _ ⟨way, L, ps, a, b, c, rfl, hp, bu, fL, hP, hl, hk.imp id fun z => by omega⟩
  refine ⟨_, rfl, rfl, _, rfl, ?_⟩
  by_cases hw : way = 2
  · refine ifT (by simpa using hw) ⟨_, rfl, lg, _, rfl, Or.inl (SqL.of hg), _, _, rfl, rfl, _, rfl, ?_⟩
    match gs, hg, B with
    | [], hg, B => exact absurd B.l1 (by decide)
    | [g], hg, B => exact ifF (by simp) (q _ _ ⟨way, L, ps, _, _, _, rfl, hp, bu, fL, hP, hl, hk.imp id fun z => by omega⟩)
    | g0 :: g1 :: r, hg, B =>
      refine ifT (decide_eq_true (by simp only [List.map_cons, List.length_cons]; omega)) ?_
      have ne : g0 ≠ g1 := fun e => by
        have := (List.nodup_cons.mp B.nd).1
        rw [e] at this
        exact this (by simp)
      have m0 : g0 ∈ (g0 :: g1 :: r) ++ is := by simp
      have m1 : g1 ∈ (g0 :: g1 :: r) ++ is := by simp
      refine ⟨_, rfl, lg, _, ((0 : Nat) : Int), _, rfl, rfl, SqL.of hg, atI_nat rfl, _, rfl, lg, _, ((1 : Nat) : Int), _, rfl, rfl, SqL.of hg, atI_nat rfl, (by show 2 ≤ sizeLine; decide +kernel), fun t nt => ?_⟩
      have s1 : Same H (upd H t (.tup [.str g0, .str g1])) := same_upd nt
      have et : upd H t (.tup [.str g0, .str g1]) t = some (.tup [.str g0, .str g1]) := upd_same
      generalize upd H t (.tup [.str g0, .str g1]) = H1 at s1 et ⊢
      refine ⟨(by show 1 ≤ sizeLine; decide +kernel), fun a na => ?_⟩
      have s2 : Same H1 (upd H1 a (.lst [.ref t])) := same_upd na
      have ea : upd H1 a (.lst [.ref t]) a = some (.lst [.ref t]) := upd_same
      generalize upd H1 a (.lst [.ref t]) = H2 at s2 ea ⊢
      refine ⟨a, 3, _, rfl, rfl, ea, by decide, by decide, (by show 1 * 3 ≤ sizeLine; decide +kernel), fun b nb => ?_⟩
      have er : (List.replicate (Int.toNat 3) [V.ref t]).flatten = [V.ref t, V.ref t, V.ref t] := rfl
      rw [er]
      have s3 : Same H2 (upd H2 b (.lst [V.ref t, V.ref t, V.ref t])) := same_upd nb
      have eb : upd H2 b (.lst [V.ref t, V.ref t, V.ref t]) b = some (.lst [V.ref t, V.ref t, V.ref t]) := upd_same
      generalize upd H2 b (.lst [V.ref t, V.ref t, V.ref t]) = H3 at s3 eb ⊢
      have s03 : Same H H3 := same_trans s1 (same_trans s2 s3)
      have hg3 := s03 _ _ hg
      refine ⟨_, rfl, lg, _, ((1 : Nat) : Int), _, rfl, rfl, SqL.of hg3, atI_nat rfl, _, rfl, lg, _, ((0 : Nat) : Int), _, rfl, rfl, SqL.of hg3, atI_nat rfl, (by show 2 ≤ sizeLine; decide +kernel), fun t2 nt2 => ?_⟩
      have s4 : Same H3 (upd H3 t2 (.tup [.str g1, .str g0])) := same_upd nt2
      have et2 : upd H3 t2 (.tup [.str g1, .str g0]) t2 = some (.tup [.str g1, .str g0]) := upd_same
      generalize upd H3 t2 (.tup [.str g1, .str g0]) = H4 at s4 et2 ⊢
      refine ⟨(by show 1 ≤ sizeLine; decide +kernel), fun c nc => ?_⟩
      have s5 : Same H4 (upd H4 c (.lst [.ref t2])) := same_upd nc
      have ec : upd H4 c (.lst [.ref t2]) c = some (.lst [.ref t2]) := upd_same
      generalize upd H4 c (.lst [.ref t2]) = H5 at s5 ec ⊢
      have s35 := same_trans s4 s5
      have s05 := same_trans s03 s35
      refine ⟨b, c, _, _, rfl, rfl, s35 _ _ eb, ec, (by show 3 + 1 ≤ sizeLine; decide +kernel), fun d nd => ?_⟩
      have b5 : But p H0 H5 := bu.trans fun b o _ e => s05 _ _ e
      have ND : d ≠ p := fun e => by
        obtain ⟨xs, h1, _⟩ := hp
        rw [e, s05 _ _ h1] at nd
        cases nd
      have p5 : Pu H5 p (n + 1) := by
        obtain ⟨xs, h1, h2⟩ := hp
        exact ⟨xs, s05 _ _ h1, h2⟩
      have kd : Same H5 (upd H5 d (.lst ([V.ref t, V.ref t, V.ref t] ++ [V.ref t2]))) := same_upd nd
      have pt : Pr (upd H5 d (.lst ([V.ref t, V.ref t, V.ref t] ++ [V.ref t2]))) ((g0 :: g1 :: r) ++ is) t := ⟨g0, g1, kd _ _ (s35 _ _ (s3 _ _ (s2 _ _ et))), m0, m1, ne⟩
      have pt2 : Pr (upd H5 d (.lst ([V.ref t, V.ref t, V.ref t] ++ [V.ref t2]))) ((g0 :: g1 :: r) ++ is) t2 := ⟨g1, g0, kd _ _ (s5 _ _ et2), m1, m0, Ne.symm ne⟩
      refine q _ _ ⟨way, d, [t, t, t, t2], _, _, _, rfl, p5.upd (Ne.symm ND), b5.trans (but_new nd), b5.free nd ND, ⟨upd_same, fun a ha => ?_⟩, (by show 4 ≤ 12; decide), Or.inr (by omega)⟩
      simp only [List.mem_cons, List.not_mem_nil, or_false] at ha
      rcases ha with rfl | rfl | rfl | rfl
      · exact pt
      · exact pt
      · exact pt
      · exact pt2
  · exact ifF (by simpa using hw) (ifF (by decide) (back o5 o6 o7))
end
end K13
end
section
set_option Elab.async false
set_option linter.all false
set_option maxRecDepth 100000
set_option maxHeartbeats 8000000
namespace K13
open PySem PySem.Spec PyProof.Rows L2
section
variable {P : Program} {w : World} {K : PySem.W.Frag} {mg : Str → Option Value} {base : Heap} {f : Addr} {cdv : Value} {A : Around} {outer : List Env} {s : Shared} {Hl : Hp} {E : XK} {p lg li : Addr} {gs is : List Str} {H0 : Hp} {n : Int}
theorem sh3 (T : Tx K mg) (B : ShG H0 p lg li gs is) (hu64 : (A.deeper (envOfC "_law_shape" (defScope sShape) s.heap.objs.size f cdv)).units + 64 < cLine) {rest : List Stmt} {u : TS} (hu : PSs (SX P w K mg base f cdv A outer s Hl E) rest u) :
    PSs (SX P w K mg base f cdv A outer s Hl E) (shS 4 :: rest) (tSh 3 p lg li gs is H0 n u) := by
  have gL := T.fr "len" (by decide +kernel)
  have gR := T.fr "range" (by decide +kernel)
  refine weak (t := tSeq _ u) (pss_cons (ps_if (PW.pt (pw_and (pt_cmpR op_eq (pv 3) pe_int (nomark _)) (pw_and (pt_cmpR (op_neD hu64) (pv 2) (pe_lst pa_nil) (nomark _)) (pw_and1 (pt_cmpR op_gt (pe_callB call_len_seq (by rfl) gL PySem.boot_len (pa_cons (pv 1) pa_nil)) pe_int (nomark _))))))
    (pss_cons (ps_set (i := 6) scShape.nd rfl (Or.inr rfl) (pe_op op_cat (pe_op op_cat (pe_lst (pa_cons (pe_ix ix_list (pv 1) pe_int (fun _ _ => rfl)) pa_nil)) (pv 2)) (pe_lst (pa_cons (pe_ix ix_list (pv 1) pe_int (fun _ _ => rfl)) pa_nil))))
    (pss_one (ps_set (i := 4) scShape.nd rfl (Or.inl rfl) (pe_op op_cat
      (pe_lc (own := [("_law_at", 5)]) (g := gName 5) (tt := tYes) rfl scShape.nd (pi_range1 rfl gR (pa_cons (pe_op op_sub (pe_callB call_len_seq (by rfl) gL PySem.boot_len (pa_cons (pv 6) pa_nil)) pe_int) pa_nil)) (blkOk_by (own := [("_law_at", 5)]) (N := NS) (sc := defScope sShape) (by decide +kernel))
        (fun _ _ _ _ _ => pg_name (i := 5) scShape.nd rfl (Or.inl rfl)) (fun _ _ _ _ _ => pts_nil) (te := tTup (tCons (tOp (rIxL K) (tVar 6) (tVar 5)) (tCons (tOp (rIxL K) (tVar 6) (tOp (rI0 fun i j => V.int (i + j)) (tVar 5) (tC (.int 1)))) tNil)))
        (fun _ _ _ _ _ => pe_tup (pa_cons (pe_ix ix_list (pv 6) (pv 5) (fun _ _ => rfl)) (pa_cons (pe_ix ix_list (pv 6) (pe_op op_add (pv 5) pe_int) (fun _ _ => rfl)) pa_nil))))
      (pe_lst (pa_cons (pe_tup (pa_cons (pe_ix ix_list (pv 1) pe_int (fun _ _ => rfl)) (pa_cons (pe_ix ix_list (pv 1) pe_int (fun _ _ => rfl)) pa_nil))) pa_nil)))))) pss_nil) hu) ?_
  rintro D σ H ⟨⟨way, L, ps, o5, o6, o7, rfl, hp, bu, fL, hP, hl, hk⟩, q⟩
  have hg : Ws H lg gs := bu _ _ B.np B.g
  have hi : Ws H li is := bu _ _ B.nq B.i
  have sl := sizeLine_eq
  have l5 := B.l5
  have l8 := B.l8
  have back : ∀ o5 o6 o7, u D [some (.ref p), some (.ref lg), some (.ref li), some (.int way), some (.ref L), o5, o6, o7] H := fun a b c => q _ _ ⟨way, L, ps, a, b, c, rfl, hp, bu, fL, hP, hl, hk.imp id fun z => by omega⟩
  refine ⟨_, rfl, rfl, _, rfl, ?_⟩
  by_cases hw : way = 3
  · refine ifT (by simpa using hw) ⟨_, rfl, Nat.zero_le _, fun N nN => ?_⟩
    have sN : Same H (upd H N (.lst [])) := same_upd nN
    have hN : upd H N (.lst []) N = some (.lst []) := upd_same
    generalize upd H N (.lst []) = H1 at sN hN ⊢
    refine ⟨_, _, .lst (SqL.of (sN _ _ hi)) (dp_strs is), .lst (SqL.of hN) .nil, strs_shaped fun x hx => B.wd x (List.mem_append_right _ hx), nil_shaped, _, rfl, ?_⟩
    rw [eqv_nil]
    have b1 : But p H0 H1 := bu.trans fun b o _ e => sN b o e
    have p1 : Pu H1 p (n + 1) := by
      obtain ⟨xs, h1, h2⟩ := hp
      exact ⟨xs, sN _ _ h1, h2⟩
    have back1 : ∀ o5 o6 o7, u D [some (.ref p), some (.ref lg), some (.ref li), some (.int way), some (.ref L), o5, o6, o7] H1 := fun a b c => q _ _ ⟨way, L, ps, a, b, c, rfl, p1, b1, fL, hP.keep sN, hl, hk.imp id fun z => by omega⟩
    have hg1 := sN _ _ hg
    have hi1 := sN _ _ hi
    by_cases hne : is = []
    · subst hne
      exact ifF (by decide) (ifF (by decide) (back1 _ _ _))
    · have hnb : (!(is.map PyData.str).isEmpty) = true := by
        cases is with
        | nil => exact absurd rfl hne
        | cons => rfl
      refine ifT hnb ⟨_, rfl, lg, _, rfl, Or.inl (SqL.of hg1), _, _, rfl, rfl, _, rfl, ?_⟩
      by_cases h2 : 2 ≤ gs.length
      · refine ifT (decide_eq_true (by rw [List.length_map]; omega)) ?_
        obtain ⟨g0, g1, r, rfl⟩ : ∃ g0 g1 r, gs = g0 :: g1 :: r := by
          match gs, h2 with
          | a :: b :: r, _ => exact ⟨a, b, r, rfl⟩
        have m0 : g0 ∈ (g0 :: g1 :: r) ++ is := by simp
        have m1 : g1 ∈ (g0 :: g1 :: r) ++ is := by simp
        have ne01 : g0 ≠ g1 := fun e => by
          have := (List.nodup_cons.mp B.nd).1
          rw [e] at this
          exact this (by simp)
        -- the row
        refine ⟨_, rfl, lg, _, ((0 : Nat) : Int), _, rfl, rfl, SqL.of hg1, atI_nat rfl, (by show 1 ≤ sizeLine; decide +kernel), fun a na => ?_⟩
        have s2 : Same H1 (upd H1 a (.lst [.str g0])) := same_upd na
        have ea : upd H1 a (.lst [.str g0]) a = some (.lst [.str g0]) := upd_same
        generalize upd H1 a (.lst [.str g0]) = H2 at s2 ea ⊢
        have hi2 := s2 _ _ hi1
        refine ⟨_, rfl, a, li, _, _, rfl, rfl, ea, hi2, (by rw [List.length_map]; show 1 + _ ≤ _; omega), fun b nb => ?_⟩
        have s3 := same_upd (o := HO.lst ([V.str g0] ++ is.map V.str)) nb
        have eb : upd H2 b (.lst ([V.str g0] ++ is.map V.str)) b = some (.lst ([V.str g0] ++ is.map V.str)) := upd_same
        generalize upd H2 b (.lst ([V.str g0] ++ is.map V.str)) = H3 at s3 eb ⊢
        have hg3 := s3 _ _ (s2 _ _ hg1)
        refine ⟨_, rfl, lg, _, ((1 : Nat) : Int), _, rfl, rfl, SqL.of hg3, atI_nat rfl, (by show 1 ≤ sizeLine; decide +kernel), fun c nc => ?_⟩
        have s4 : Same H3 (upd H3 c (.lst [.str g1])) := same_upd nc
        have ec : upd H3 c (.lst [.str g1]) c = some (.lst [.str g1]) := upd_same
        generalize upd H3 c (.lst [.str g1]) = H4 at s4 ec ⊢
        refine ⟨b, c, _, _, rfl, rfl, s4 _ _ eb, ec, (by rw [List.length_append, List.length_map]; show 1 + _ + 1 ≤ _; omega), fun W nW => ?_⟩
        have er : ([V.str g0] ++ is.map V.str) ++ [V.str g1] = (g0 :: (is ++ [g1])).map V.str := by simp
        rw [er]
        have s5 := same_upd (o := HO.lst ((g0 :: (is ++ [g1])).map V.str)) nW
        have eW : Ws (upd H4 W (.lst ((g0 :: (is ++ [g1])).map V.str))) W (g0 :: (is ++ [g1])) := upd_same
        generalize upd H4 W (.lst ((g0 :: (is ++ [g1])).map V.str)) = H5 at s5 eW ⊢
        have s15 : Same H1 H5 := same_trans s2 (same_trans s3 (same_trans s4 s5))
        have rn : (g0 :: (is ++ [g1])).Nodup := by
          have h := List.nodup_append.mp B.nd
          have hgn := List.nodup_cons.mp h.1
          refine List.nodup_cons.mpr ⟨fun m => ?_, List.nodup_append.mpr ⟨h.2.1, by simp, fun x hx y hy => ?_⟩⟩
          · rcases List.mem_append.mp m with m | m
            · exact h.2.2 g0 List.mem_cons_self g0 m rfl
            · exact ne01 (List.mem_singleton.mp m)
          · rw [List.mem_singleton.mp hy]
            exact fun e => h.2.2 g1 (by simp) x hx e.symm
        have rC : ∀ x ∈ g0 :: (is ++ [g1]), x ∈ (g0 :: g1 :: r) ++ is := fun x hx => by
          rcases List.mem_cons.mp hx with e | hx
          · rw [e]; exact m0
          · rcases List.mem_append.mp hx with h | h
            · exact List.mem_append_right _ h
            · rw [List.mem_singleton.mp h]; exact m1
        have rl : (g0 :: (is ++ [g1])).length = is.length + 2 := by simp
        generalize g0 :: (is ++ [g1]) = R at eW rn rC rl
        have b5 : But p H0 H5 := b1.trans fun b o _ e => s15 _ _ e
        have p5 : Pu H5 p (n + 1) := by
          obtain ⟨xs, h1, h2⟩ := p1
          exact ⟨xs, s15 _ _ h1, h2⟩
        have hg5 := s15 _ _ hg1
        refine ⟨_, rfl, W, _, rfl, Or.inl (SqL.of eW), _, _, rfl, rfl, _, rfl, by rw [List.length_map]; omega, by rw [List.length_map]; omega, fun D1 nD1 => ?_⟩
        refine lc_range (lo := 0) (n := ((((R.map V.str).length : Nat) : Int) - 1).toNat) (PvC H5 D1 ((g0 :: g1 :: r) ++ is)) (pvc_start nD1) ?_ ?_
        · intro i H' hii h
          rw [List.length_map] at hii
          have e1 : R[i]? = some R[i] := List.getElem?_eq_getElem (by omega)
          have e2 : R[i + 1]? = some R[i + 1] := List.getElem?_eq_getElem (by omega)
          have ee : (0 + (i : Int)) + 1 = ((i + 1 : Nat) : Int) := by omega
          refine ⟨rfl, _, rfl, _, rfl, W, _, ((i : Nat) : Int), _, rfl, by rw [Int.zero_add], SqL.of (h.1 _ _ eW), atI_nat (strs_at e1), _, rfl, _, rfl, _, _, rfl, rfl, W, _, ((i + 1 : Nat) : Int), _, rfl, congrArg V.int ee, SqL.of (h.1 _ _ eW), atI_nat (strs_at e2), (by show 2 ≤ sizeLine; decide +kernel), fun t nt => ?_⟩
          obtain ⟨qs, k1, k2, k3⟩ := pvc_step h nD1 nt (rC _ (List.getElem_mem _)) (rC _ (List.getElem_mem _)) (fun e => by
            have li : i < R.length := by omega
            have := (List.getElem?_inj (j := i + 1) li rn).mp (by rw [e1, e2, e])
            omega)
          exact ⟨_, k1, by rw [List.length_map]; omega, k3⟩
        · rintro H6 ⟨s6, ps1, hP1, hl1⟩
          rw [List.length_map] at hl1
          have hg6 := s6 _ _ hg5
          refine ⟨_, rfl, lg, _, ((0 : Nat) : Int), _, rfl, rfl, SqL.of hg6, atI_nat rfl, _, rfl, lg, _, ((1 : Nat) : Int), _, rfl, rfl, SqL.of hg6, atI_nat rfl, (by show 2 ≤ sizeLine; decide +kernel), fun t nt => ?_⟩
          have s7 : Same H6 (upd H6 t (.tup [.str g0, .str g1])) := same_upd nt
          have et : upd H6 t (.tup [.str g0, .str g1]) t = some (.tup [.str g0, .str g1]) := upd_same
          generalize upd H6 t (.tup [.str g0, .str g1]) = H7 at s7 et ⊢
          refine ⟨(by show 1 ≤ sizeLine; decide +kernel), fun c nc => ?_⟩
          have s8 : Same H7 (upd H7 c (.lst [.ref t])) := same_upd nc
          have ec : upd H7 c (.lst [.ref t]) c = some (.lst [.ref t]) := upd_same
          generalize upd H7 c (.lst [.ref t]) = H8 at s8 ec ⊢
          have hP8 := hP1.keep (same_trans s7 s8)
          refine ⟨D1, c, _, _, rfl, rfl, hP8.1, ec, by rw [List.length_map]; show _ + 1 ≤ _; omega, fun d nd => ?_⟩
          have s58 := same_trans s6 (same_trans s7 s8)
          have b8 : But p H0 H8 := b5.trans fun b o _ e => s58 _ _ e
          have ND : d ≠ p := fun e => by
            obtain ⟨xs, h1, _⟩ := p5
            rw [e, s58 _ _ h1] at nd
            cases nd
          have p8 : Pu H8 p (n + 1) := by
            obtain ⟨xs, h1, h2⟩ := p5
            exact ⟨xs, s58 _ _ h1, h2⟩
          refine q _ _ ⟨way, d, ps1 ++ [t], _, _, _, rfl, p8.upd (Ne.symm ND), b8.trans (but_new nd), b8.free nd ND, ⟨by rw [upd_same, List.map_append]; rfl, fun a ha => ?_⟩, by rw [List.length_append]; show _ + 1 ≤ _; omega, Or.inr (by omega)⟩
          rcases List.mem_append.mp ha with h | h
          · exact (hP8.2 a h).keep (same_upd nd)
          · rw [List.mem_singleton.mp h]
            exact ⟨g0, g1, same_upd nd _ _ (s8 _ _ et), m0, m1, ne01⟩
      · exact ifF (fun z => by have z := of_decide_eq_true z; rw [List.length_map] at z; omega) (back1 _ _ _)
  · exact ifF (by simpa using hw) (ifF (by decide) (back o5 o6 o7))
end
/-! ### _law_shape -/
def spShape : Sp := fun vs H Q _ => ∃ (p lg li : Addr) (gs is : List Str) (n : Int), vs = [.ref p, .ref lg, .ref li] ∧ ShG H p lg li gs is ∧ Pu H p n ∧ n ≤ 800000 ∧
  ∀ (D : Addr) (ps : List Addr) (H' : Hp), Pu H' p (n + 1) → But p H H' → H D = none → Prs H' D (gs ++ is) ps → ps.length ≤ 12 → Q (.ref D) H'
section
variable {P : Program} {w : World} {K : PySem.W.Frag} {mg : Str → Option Value} {base : Heap}
theorem ok_shape {f : Addr} {fd : FuncData} (F : FnP K "_law_shape" sShape f fd) (G : DrawZ P w K mg base) (T : Tx K mg) : FnOk P w K mg base CX0 3 f fd ["_law_purse_here", "_law_gates", "_law_inner_here"] spShape := by
  refine F.ok scShape (fun vs H Q E h => ?_) (fun cdv A outer s H vs Q E hr h => ?_)
  · obtain ⟨_, _, _, _, _, _, rfl, _⟩ := h
    rfl
  · obtain ⟨p, lg, li, gs, is, n, rfl, B, hp, hn, q⟩ := h
    have hu64 : (A.deeper (envOfC "_law_shape" (defScope sShape) s.heap.objs.size f cdv)).units + 64 < cLine := by
      have := hr.un
      omega
    refine ⟨_, PSs.nox (pss_cons (ps_par (i := 3) (j := 4) rfl scShape.nd rfl rfl (by decide) rfl rfl (pa_cons (pe_fz G hr (by rfl) (pa_cons (pv 0) (pa_cons pe_int pa_nil))) (pa_cons (pe_lst pa_nil) pa_nil)) (by rfl))
      (sh0 (n := n) T B (sh1 (n := n) T B hu64 (sh2 (n := n) T B (sh3 (n := n) T B hu64 (pss_one (ps_ret (pv 4)))))))), ?_⟩
    obtain ⟨xs, hx1, hx2⟩ := hp
    refine ⟨_, rfl, p, 6, n, xs, rfl, hx1, hx2, by omega, by decide, by decide, fun r ys r0 r1 hy => ?_⟩
    have hp1 : upd H p (.lst ys) p = some (.lst ys) := upd_same
    have b1 : But p H (upd H p (.lst ys)) := but_self
    generalize upd H p (.lst ys) = H1 at hp1 b1 ⊢
    refine ⟨Nat.zero_le _, fun L nL => ⟨_, _, rfl, ?_⟩⟩
    have nLp : L ≠ p := fun e => by
      rw [e, hp1] at nL
      cases nL
    refine ⟨⟨r, L, [], _, _, _, rfl, ⟨ys, by rw [upd_ne (Ne.symm nLp)]; exact hp1, hy⟩, b1.trans (but_new nL), b1.free nL nLp, ⟨upd_same, fun a h => by simp at h⟩, Nat.zero_le _, Or.inl rfl⟩, fun σ2 H2 h2 => ⟨h2, fun σ3 H3 h3 => ⟨h3, fun σ4 H4 h4 => ⟨h4, fun σ5 H5 h5 => ?_⟩⟩⟩⟩
    obtain ⟨way, D, ps, o5, o6, o7, rfl, hpu, bu, fD, hP, hl, _⟩ := h5
    exact ⟨_, rfl, q D ps H5 hpu bu fD hP hl⟩
end
end K13
end
section
set_option Elab.async false
set_option linter.all false
set_option maxRecDepth 100000
set_option maxHeartbeats 8000000
namespace K13
open PySem PySem.Spec PyProof.Rows L2
abbrev PairZ (P : Program) (w : World) (K : PySem.W.Frag) (mg : Str → Option Value) (base : Heap) : Prop := Fz P w K mg base "_law_pair" 4 ["_law_purse_here", "_law_crossings"] spPair
abbrev WidthZ (P : Program) (w : World) (K : PySem.W.Frag) (mg : Str → Option Value) (base : Heap) : Prop := Fz P w K mg base "_law_width" 4 ["_law_purse_here"] spSmall
abbrev LengthZ (P : Program) (w : World) (K : PySem.W.Frag) (mg : Str → Option Value) (base : Heap) : Prop := Fz P w K mg base "_law_length" 4 ["_law_purse_here"] spSmall
abbrev NT : List Str := ["_law_purse_here", "_law_crossings", "_law_names", "_law_pairs_here", "_law_many", "_law_found", "_law_at", "_law_pair_here"]
theorem scStreetsOf : FnScope NT ["_law_purse_here", "_law_crossings", "_law_names", "_law_pairs_here", "_law_many"] (defScope sStreetsOf) := ⟨rfl, rfl, rfl, by decide +kernel, rfl, by decide +kernel, by decide +kernel⟩
def forBody (s : Stmt) : List Stmt := match s with
  | .For _ _ b _ _ => b
  | _ => []
def ifBody (s : Stmt) : List Stmt := match s with
  | .If _ b _ _ => b
  | _ => []
/-- the suite of the turn -/
def suite : List Stmt := ifBody ((forBody ((defBody sStreetsOf).getD 1 (.Pass ⟨0, 0, 0, 0⟩))).getD 0 (.Pass ⟨0, 0, 0, 0⟩))
def suS (i : Nat) : Stmt := suite.getD i (.Pass ⟨0, 0, 0, 0⟩)
/-- what is handed -/
structure StG (H : Hp) (p lc ln lp : Addr) (cs ns : List Str) (ps : List Addr) : Prop where
  hc : Ws H lc cs
  hn : Ws H ln ns
  hp : Prs H lp cs ps
  nc : lc ≠ p
  nn : ln ≠ p
  np : lp ≠ p
  pt : ∃ xs, H p = some (.lst xs)
  cd : cs.Nodup
  cw : ∀ x ∈ cs, Wd x
  nw : ∀ x ∈ ns, Wd x
  l1 : cs.length ≤ 100
  l2 : ps.length ≤ 100
/-- the streets made so far -/
structure StI (H H' : Hp) (p D : Addr) (cs ns : List Str) (i : Nat) (ts : List (Addr × S5)) : Prop where
  bu : But p H H'
  fD : H D = none
  st : Sts H' D ts
  ok : ∀ t ∈ ts, t.2.Ok ∧ t.2.st ∈ cs ∧ t.2.en ∈ cs ∧ H t.1 = none
  nm : ts.map (fun t => t.2.nm) = ns.take i
  ln : ts.length = i
abbrev TX (P : Program) (w : World) (K : PySem.W.Frag) (mg : Str → Option Value) (base : Heap) (f : Addr) (cdv : Value) (A : Around) (outer : List Env) (s : Shared) (H : Hp) (E : XK) : Cx := (cxOf CX0 P w K mg base NT "_law_streets_of" (defScope sStreetsOf) f cdv A outer s H E).nox
/-- the slots in a turn -/
abbrev stσ (p lc ln lp D : Addr) (m : Int) (i : Nat) (o7 : Option V) : L2.St := [some (.ref p), some (.ref lc), some (.ref ln), some (.ref lp), some (.int m), some (.ref D), some (.int (0 + (i : Nat))), o7]
theorem sts_keep {H H' : Hp} {D : Addr} {ts : List (Addr × S5)} (h : Sts H D ts) (k : ∀ b o, H b = some o → H' b = some o) : Sts H' D ts := ⟨k _ _ h.1, fun t ht => k _ _ (h.2 t ht)⟩
section
variable {P : Program} {w : World} {K : PySem.W.Frag} {mg : Str → Option Value} {base : Heap} {f : Addr} {cdv : Value} {A : Around} {outer : List Env} {s : Shared} {Hl : Hp} {E : XK} {p lc ln lp D : Addr} {cs ns : List Str} {ps : List Addr} {H0 : Hp} {n m : Int} {i : Nat}
/-- the street is put to the others -/
def tPutS (p lc ln lp D : Addr) (cs ns : List Str) (H0 : Hp) (n m : Int) (i : Nat) : TS := fun E σ H => ∃ (a : Addr) (x y : Str) (ts : List (Addr × S5)), σ = stσ p lc ln lp D m i (some (.ref a)) ∧ H a = some (.tup [.str x, .str y]) ∧ x ∈ cs ∧ y ∈ cs ∧ x ≠ y ∧ Pu H p n ∧ n ≤ 700000 ∧ StI H0 H p D cs ns i ts ∧
  ∀ ts' H', Pu H' p (n + 2) → StI H0 H' p D cs ns (i + 1) ts' → E.nx (stσ p lc ln lp D m i (some (.ref a))) H'
theorem putS (B : StG H0 p lc ln lp cs ns ps) (hi : i < ns.length) (h100 : i < 1000) (GW : WidthZ P w K mg base) (GL : LengthZ P w K mg base) (hr : Room 4 (A.deeper (envOfC "_law_streets_of" (defScope sStreetsOf) s.heap.objs.size f cdv))) :
    PSs (TX P w K mg base f cdv A outer s Hl E) [suS 2] (tPutS p lc ln lp D cs ns H0 n m i) := by
  refine weak (t := _) (pss_one (ps_expr (pe_bm PySem.F.plainAttrs_list PySem.F.slot_list_append PySem.F.type_list_append mt_append (pv 5) (pa_cons
    (pe_op op_catT (pe_op op_catT (pe_tup (pa_cons (pe_ix ix_list (pv 2) (pv 6) (fun _ _ => rfl)) pa_nil)) (pv 7))
      (pe_tup (pa_cons (pe_fz GW hr (by rfl) (pa_cons (pv 0) pa_nil)) (pa_cons (pe_fz GL hr (by rfl) (pa_cons (pv 0) pa_nil)) pa_nil)))) pa_nil)))) ?_
  rintro Z σ H ⟨a, x, y, ts, rfl, ha, hx, hy, hxy, hp, hn, I, q⟩
  have hN : Ws H ln ns := I.bu _ _ B.nn B.hn
  have en : ns[i]? = some ns[i] := List.getElem?_eq_getElem hi
  have sl := sizeLine_eq
  refine ⟨_, rfl, Or.inl ⟨rfl, _, SqL.of I.st.1⟩, _, rfl, _, rfl, ln, _, ((i : Nat) : Int), _, rfl, by rw [Int.zero_add], SqL.of hN, atI_nat (strs_at en), (by show 1 ≤ sizeLine; decide +kernel), fun t1 nt1 => ?_⟩
  have s1 := same_upd (o := HO.tup [V.str ns[i]]) nt1
  have e1 : upd H t1 (.tup [V.str ns[i]]) t1 = some (.tup [V.str ns[i]]) := upd_same
  generalize upd H t1 (.tup [V.str ns[i]]) = H1 at s1 e1 ⊢
  refine ⟨_, rfl, t1, a, _, _, rfl, rfl, SqT.of e1, SqT.of (s1 _ _ ha), by simp, (by show 1 + 2 ≤ sizeLine; decide +kernel), (fun z => by cases z), fun _ t2 nt2 => ?_⟩
  have s2 := same_upd (o := HO.tup ([V.str ns[i]] ++ [V.str x, V.str y])) nt2
  have e2 : upd H1 t2 (.tup ([V.str ns[i]] ++ [V.str x, V.str y])) t2 = some (.tup ([V.str ns[i]] ++ [V.str x, V.str y])) := upd_same
  generalize upd H1 t2 (.tup ([V.str ns[i]] ++ [V.str x, V.str y])) = H2 at s2 e2 ⊢
  have s02 := same_trans s1 s2
  have p2 : Pu H2 p n := by
    obtain ⟨xs, h1, h2⟩ := hp
    exact ⟨xs, s02 _ _ h1, h2⟩
  have nt2p : t2 ≠ p := fun e => by
    obtain ⟨xs, h1, _⟩ := p2
    rw [← e, e2] at h1
    cases h1
  refine ⟨_, rfl, p, n, rfl, p2, by omega, fun r1 H3 r10 r19 p3 b3 => ?_⟩
  refine ⟨_, rfl, p, n + 1, rfl, p3, by omega, fun r2 H4 r20 r29 p4 b4 => ?_⟩
  have b24 := b3.trans b4
  refine ⟨(by show 2 ≤ sizeLine; decide +kernel), fun t3 nt3 => ?_⟩
  have s5 := same_upd (o := HO.tup [V.int r1, V.int r2]) nt3
  have e5 : upd H4 t3 (.tup [V.int r1, V.int r2]) t3 = some (.tup [V.int r1, V.int r2]) := upd_same
  have e25 := s5 _ _ (b24 _ _ nt2p e2)
  have p5 : Pu (upd H4 t3 (.tup [V.int r1, V.int r2])) p (n + 2) := by
    obtain ⟨xs, h1, h2⟩ := p4
    exact ⟨xs, s5 _ _ h1, h2.mono (by omega)⟩
  generalize upd H4 t3 (.tup [V.int r1, V.int r2]) = H5 at s5 e5 e25 p5 ⊢
  refine ⟨t2, t3, _, _, rfl, rfl, SqT.of e25, SqT.of e5, by simp, (by show 3 + 2 ≤ sizeLine; decide +kernel), (fun z => by cases z), fun _ t nt => ?_⟩
  have b05 : But p H H5 := But.trans (B := H2) (fun b o _ e => s02 b o e) (But.trans b24 fun b o _ e => s5 b o e)
  have bu5 := I.bu.trans b05
  have nDp : D ≠ p := fun e => by
    obtain ⟨xs, h1⟩ := B.pt
    rw [← e, I.fD] at h1
    cases h1
  have keep5 : Sts H5 D ts := ⟨b05 _ _ nDp I.st.1, fun u hu => b05 _ _ (fun e => by
    obtain ⟨xs, h1⟩ := B.pt
    have := (I.ok u hu).2.2.2
    rw [e, h1] at this
    cases this) (I.st.2 u hu)⟩
  have hD5 := keep5.1
  have ntD : t ≠ D := fun e => by
    rw [e, hD5] at nt
    cases nt
  have ntp : t ≠ p := fun e => by
    obtain ⟨xs, h1, _⟩ := p5
    rw [e, h1] at nt
    cases nt
  have s6 := same_upd (o := HO.tup (([V.str ns[i]] ++ [V.str x, V.str y]) ++ [V.int r1, V.int r2])) nt
  refine ⟨D, _, _, rfl, rfl, s6 _ _ hD5, by rw [List.length_map, I.ln]; omega, ?_⟩
  refine q (ts ++ [(t, ⟨ns[i], x, y, r1, r2⟩)]) _ ((p5.upd (Ne.symm ntp)).upd (Ne.symm nDp)) ⟨fun b o nb e => ?_, I.fD, ⟨by rw [upd_same, List.map_append]; rfl, fun u hu => ?_⟩, fun u hu => ?_, ?_, by simp [I.ln]⟩
  · rw [upd_ne (ne_of_none e I.fD)]
    exact s6 _ _ (bu5 b o nb e)
  · rcases List.mem_append.mp hu with h | h
    · have e := s6 _ _ (keep5.2 u h)
      rw [upd_ne (ne_of e (s6 _ _ hD5) (by intro z; cases z))]
      exact e
    · rw [List.mem_singleton.mp h, upd_ne ntD]
      exact upd_same
  · rcases List.mem_append.mp hu with h | h
    · exact I.ok u h
    · rw [List.mem_singleton.mp h]
      exact ⟨⟨B.nw _ (List.getElem_mem hi), B.cw x hx, B.cw y hy, hxy, r10, Int.le_trans r19 (by decide), r20, Int.le_trans r29 (by decide)⟩, hx, hy, bu5.free nt ntp⟩
  · rw [List.map_append, I.nm, List.take_add_one, en]
    rfl
end
end K13
end
section
set_option Elab.async false
set_option linter.all false
set_option maxRecDepth 100000
set_option maxHeartbeats 8000000
namespace K13
open PySem PySem.Spec PyProof.Rows L2
theorem StI.same {H0 H H' : Hp} {p D : Addr} {cs ns : List Str} {i : Nat} {ts : List (Addr × S5)} (I : StI H0 H p D cs ns i ts) (s : Same H H') : StI H0 H' p D cs ns i ts :=
  ⟨I.bu.trans fun b o _ e => s b o e, I.fD, sts_keep I.st s, I.ok, I.nm, I.ln⟩
theorem StI.but {H0 H H' : Hp} {p D : Addr} {cs ns : List Str} {i : Nat} {ts : List (Addr × S5)} (I : StI H0 H p D cs ns i ts) (s : But p H H') (h : H0 p ≠ none) : StI H0 H' p D cs ns i ts :=
  ⟨I.bu.trans s, I.fD, ⟨s _ _ (fun e => h (by rw [← e]; exact I.fD)) I.st.1, fun t ht => s _ _ (fun e => h (by rw [← e]; exact (I.ok t ht).2.2.2)) (I.st.2 t ht)⟩, I.ok, I.nm, I.ln⟩
theorem Pu.same {H H' : Hp} {p : Addr} {n : Int} (h : Pu H p n) (s : Same H H') : Pu H' p n := by
  obtain ⟨xs, h1, h2⟩ := h
  exact ⟨xs, s _ _ h1, h2⟩
section
variable {P : Program} {w : World} {K : PySem.W.Frag} {mg : Str → Option Value} {base : Heap} {f : Addr} {cdv : Value} {A : Around} {outer : List Env} {s : Shared} {Hl : Hp} {E : XK} {p lc ln lp D : Addr} {cs ns : List Str} {ps : List Addr} {H0 : Hp} {n m : Int} {i : Nat}
/-- the pair is taken of another street, now and then -/
def tMid (p lc ln lp D : Addr) (cs ns : List Str) (H0 : Hp) (n m : Int) (i : Nat) (u : TS) : TS := fun E σ H => ∃ (a : Addr) (x y : Str) (ts : List (Addr × S5)), σ = stσ p lc ln lp D m i (some (.ref a)) ∧ H a = some (.tup [.str x, .str y]) ∧ x ∈ cs ∧ y ∈ cs ∧ x ≠ y ∧ Pu H p n ∧ n ≤ 700000 ∧ StI H0 H p D cs ns i ts ∧
  ∀ (a' : Addr) (x' y' : Str) (H' : Hp), H' a' = some (.tup [.str x', .str y']) → x' ∈ cs → y' ∈ cs → x' ≠ y' → Pu H' p (n + 3) → StI H0 H' p D cs ns i ts → u E (stσ p lc ln lp D m i (some (.ref a'))) H'
theorem midS (B : StG H0 p lc ln lp cs ns ps) (h100 : i < 100) (G : DrawZ P w K mg base) (GO : OneZ P w K mg base) (T : Tx K mg) (hr : Room 4 (A.deeper (envOfC "_law_streets_of" (defScope sStreetsOf) s.heap.objs.size f cdv)))
    {rest : List Stmt} {u : TS} (hu : PSs (TX P w K mg base f cdv A outer s Hl E) rest u) : PSs (TX P w K mg base f cdv A outer s Hl E) (suS 1 :: rest) (tMid p lc ln lp D cs ns H0 n m i u) := by
  have gL := T.fr "len" (by decide +kernel)
  have hr2 : Room 2 (A.deeper (envOfC "_law_streets_of" (defScope sStreetsOf) s.heap.objs.size f cdv)) := hr.mono (by decide)
  have hr3 : Room 3 (A.deeper (envOfC "_law_streets_of" (defScope sStreetsOf) s.heap.objs.size f cdv)) := hr.mono (by decide)
  have hu64 : (A.deeper (envOfC "_law_streets_of" (defScope sStreetsOf) s.heap.objs.size f cdv)).units + 64 < cLine := by
    have := hr.un
    omega
  refine weak (t := tSeq _ u) (pss_cons (ps_if (PW.pt (pw_and (pt_cmpR op_ge (pv 6) (pe_callB call_len_seq (by rfl) gL PySem.boot_len (pa_cons (pv 3) pa_nil)) (nomark _)) (pw_and (pt_cmpR (op_neD hu64) (pv 5) (pe_lst pa_nil) (nomark _))
      (pw_and1 (pt_cmpR op_eq (pe_fz G hr2 (by rfl) (pa_cons (pv 0) (pa_cons pe_int pa_nil))) pe_int (nomark _))))))
    (pss_cons (ps_set (i := 7) scStreetsOf.nd rfl (Or.inl rfl) (pe_slice sl_tup (pe_fz GO hr3 (by rfl) (pa_cons (pv 0) (pa_cons (pv 5) pa_nil))) (po_some pe_int) (po_some pe_int)))
    (pss_one (ps_set (i := 7) scStreetsOf.nd rfl (Or.inl rfl) (pe_ifExp (pt_cmpR op_eq (pe_fz G hr2 (by rfl) (pa_cons (pv 0) (pa_cons pe_int pa_nil))) pe_int (nomark _)) (pv 7) (pe_rev2 (pv 7)))))) pss_nil) hu) ?_
  rintro Z σ H ⟨a, x, y, ts, rfl, ha, hx, hy, hxy, hp, hn, I, q⟩
  have hlp : Prs H lp cs ps → True := fun _ => trivial
  have hLp : H lp = some (.lst (ps.map V.ref)) := I.bu _ _ B.np B.hp.1
  have sl := sizeLine_eq
  have pt0 : H0 p ≠ none := by
    obtain ⟨xs, h⟩ := B.pt
    rw [h]
    simp
  refine ⟨_, rfl, _, rfl, lp, _, rfl, Or.inl (SqL.of hLp), _, _, rfl, rfl, _, rfl, ?_⟩
  refine ite2 (fun _ => ?_) (fun _ => ifF (by decide) (q a x y H ha hx hy hxy (hp.mono (by omega)) I))
  refine ⟨_, rfl, Nat.zero_le _, fun N nN => ?_⟩
  have sN : Same H (upd H N (.lst [])) := same_upd nN
  have hN : upd H N (.lst []) N = some (.lst []) := upd_same
  generalize upd H N (.lst []) = H1 at sN hN ⊢
  have I1 := I.same sN
  have hp1 := hp.same sN
  have ha1 := sN _ _ ha
  have shp : SeqAt.shaped (.list (ts.map fun t => t.2.data)) = true := by
    have h := sts_shaped (ss := ts.map (·.2)) (fun s hs => by
      obtain ⟨t, ht, rfl⟩ := List.mem_map.mp hs
      exact (I.ok t ht).1)
    rw [List.map_map] at h
    exact h
  refine ⟨_, _, .lst (SqL.of I1.st.1) (dp_sts I1.st.2), .lst (SqL.of hN) .nil, shp, nil_shaped, _, rfl, ?_⟩
  rw [eqv_nil]
  by_cases hne : ts = []
  · subst hne
    exact ifF (by decide) (ifF (by decide) (q a x y H1 ha1 hx hy hxy (hp1.mono (by omega)) I1))
  · have hb : (!(ts.map fun t => t.2.data).isEmpty) = true := by
      cases ts with
      | nil => exact absurd rfl hne
      | cons => rfl
    have lpos : 0 < ts.length := List.length_pos_iff.mpr hne
    obtain ⟨xs1, hx1, hx2⟩ := hp1
    refine ifT hb ⟨_, rfl, p, 5, n, xs1, rfl, hx1, hx2, by omega, by decide, by decide, fun r ys r0 r1 hy5 => ⟨rfl, _, rfl, ?_⟩⟩
    have I2 := I1.but (but_self (o := .lst ys)) pt0
    have hp2 : upd H1 p (.lst ys) p = some (.lst ys) := upd_same
    have nap : a ≠ p := fun e => by
      rw [e, hx1] at ha1
      cases ha1
    have ha2 : upd H1 p (.lst ys) a = some (.tup [.str x, .str y]) := by rw [upd_ne nap]; exact ha1
    generalize upd H1 p (.lst ys) = H2 at I2 hp2 ha2 ⊢
    refine ite2 (fun _ => ?_) (fun _ => q a x y H2 ha2 hx hy hxy ⟨ys, hp2, hy5.mono (by omega)⟩ I2)
    have nDp : D ≠ p := fun e => pt0 (by rw [← e]; exact I.fD)
    refine ⟨_, rfl, _, rfl, p, D, n + 1, ys, _, rfl, hp2, hy5, by omega, I2.st.1, Ne.symm nDp, by rw [List.length_map]; exact lpos, by rw [List.length_map, I.ln]; omega, fun j z ys2 ej hy2 => ?_⟩
    rw [List.getElem?_map] at ej
    cases e2 : ts[j]? with
    | none =>
      rw [e2] at ej
      cases ej
    | some t =>
      rw [e2] at ej
      cases ej
      have tm := List.mem_of_getElem? e2
      obtain ⟨ok, st, se, fr⟩ := I.ok t tm
      have I3 := I2.but (but_self (o := .lst ys2)) pt0
      have hp3 : upd H2 p (.lst ys2) p = some (.lst ys2) := upd_same
      generalize upd H2 p (.lst ys2) = H3 at I3 hp3 ⊢
      have ht3 := I3.st.2 t tm
      refine ⟨_, rfl, _, rfl, t.1, _, rfl, SqT.of ht3, ?_, fun b nb => ?_⟩
      · intro z
        exact absurd (show (1 : Nat) = 0 from z.1) (by decide)
      have ec : cutV t.2.vals (some 1) (some 3) = [V.str t.2.st, V.str t.2.en] := rfl
      rw [ec]
      have s4 := same_upd (o := HO.tup [V.str t.2.st, V.str t.2.en]) nb
      have eb : upd H3 b (.tup [V.str t.2.st, V.str t.2.en]) b = some (.tup [V.str t.2.st, V.str t.2.en]) := upd_same
      have I4 := I3.same s4
      have hp4 := s4 _ _ hp3
      generalize upd H3 b (.tup [V.str t.2.st, V.str t.2.en]) = H4 at s4 eb I4 hp4 ⊢
      refine ⟨_, rfl, p, 2, n + 1 + 1, ys2, rfl, hp4, hy2, by omega, by decide, by decide, fun r' ys3 r0' r1' hy3 => ⟨rfl, _, rfl, ?_⟩⟩
      have nbp : b ≠ p := fun e => by
        rw [e, hp4] at eb
        cases eb
      have I5 := I4.but (but_self (o := .lst ys3)) pt0
      have hp5 : upd H4 p (.lst ys3) p = some (.lst ys3) := upd_same
      have eb5 : upd H4 p (.lst ys3) b = some (.tup [V.str t.2.st, V.str t.2.en]) := by rw [upd_ne nbp]; exact eb
      generalize upd H4 p (.lst ys3) = H5 at I5 hp5 eb5 ⊢
      refine ite2 (fun _ => ⟨_, rfl, q b _ _ H5 eb5 st se ok.2.2.2.1 ⟨ys3, hp5, hy3.mono (by omega)⟩ I5⟩) (fun _ => ⟨_, rfl, b, _, _, rfl, SqT.of eb5, fun c nc => ?_⟩)
      have s6 := same_upd (o := HO.tup [V.str t.2.en, V.str t.2.st]) nc
      exact q c _ _ _ upd_same se st (Ne.symm ok.2.2.2.1) ⟨ys3, s6 _ _ hp5, hy3.mono (by omega)⟩ (I5.same s6)
end
end K13
end
section
set_option Elab.async false
set_option linter.all false
set_option maxRecDepth 100000
set_option maxHeartbeats 8000000
namespace K13
open PySem PySem.Spec PyProof.Rows L2
def spStreetsOf : Sp := fun vs H Q _ => ∃ (p lc ln lp : Addr) (cs ns : List Str) (ps : List Addr) (n m : Int), vs = [.ref p, .ref lc, .ref ln, .ref lp, .int m] ∧ StG H p lc ln lp cs ns ps ∧ Pu H p n ∧ n ≤ 500000 ∧ 0 ≤ m ∧ m ≤ (ns.length : Int) ∧ m ≤ 90 ∧
  ∀ (D : Addr) (ts : List (Addr × S5)) (H' : Hp), Pu H' p (n + 8 * m) → But p H H' → H D = none → Sts H' D ts → (∀ t ∈ ts, t.2.Ok ∧ t.2.st ∈ cs ∧ t.2.en ∈ cs ∧ H t.1 = none) → ts.map (fun t => t.2.nm) = ns.take ts.length → (ts.length : Int) ≤ m → (2 ≤ cs.length → (ts.length : Int) = m) → Q (.ref D) H'
section
variable {P : Program} {w : World} {K : PySem.W.Frag} {mg : Str → Option Value} {base : Heap} {f : Addr} {cdv : Value} {A : Around} {outer : List Env} {s : Shared} {Hl : Hp} {E : XK} {p lc ln lp : Addr} {cs ns : List Str} {ps : List Addr} {H0 : Hp} {m : Int}
def tTl (p lc ln lp : Addr) (cs ns : List Str) (H0 : Hp) (m : Int) : TS := fun E σ H => ∃ (D : Addr) (i : Nat) (n : Int), i < ns.length ∧ i < 100 ∧ tMid p lc ln lp D cs ns H0 n m i (tPutS p lc ln lp D cs ns H0 (n + 3) m i) E σ H
theorem tailS (B : StG H0 p lc ln lp cs ns ps) (G : DrawZ P w K mg base) (GO : OneZ P w K mg base) (GW : WidthZ P w K mg base) (GL : LengthZ P w K mg base) (T : Tx K mg) (hr : Room 4 (A.deeper (envOfC "_law_streets_of" (defScope sStreetsOf) s.heap.objs.size f cdv))) :
    PSs (TX P w K mg base f cdv A outer s Hl E) [suS 1, suS 2] (tTl p lc ln lp cs ns H0 m) :=
  ⟨fun pins s' σ H Z I ⟨D, i, n, h1, h2, h⟩ => (midS (i := i) (n := n) B h2 G GO T hr (putS B h1 (by omega) GW GL hr)).run pins s' σ H Z I h⟩
theorem ok_streetsOf {f : Addr} {fd : FuncData} (F : FnP K "_law_streets_of" sStreetsOf f fd) (G : DrawZ P w K mg base) (GO : OneZ P w K mg base) (GP : PairZ P w K mg base) (GW : WidthZ P w K mg base) (GL : LengthZ P w K mg base) (T : Tx K mg) :
    FnOk P w K mg base CX0 5 f fd ["_law_purse_here", "_law_crossings", "_law_names", "_law_pairs_here", "_law_many"] spStreetsOf := by
  refine F.ok scStreetsOf (fun vs H Q E h => ?_) (fun cdv A outer s H vs Q E hr h => ?_)
  · obtain ⟨_, _, _, _, _, _, _, _, _, rfl, _⟩ := h
    rfl
  · obtain ⟨p, lc, ln, lp, cs, ns, ps, n, m, rfl, B, hp, hn, m0, mn, m90, q⟩ := h
    have gL := T.fr "len" (by decide +kernel)
    have gR := T.fr "range" (by decide +kernel)
    refine ⟨_, PSs.nox (pss_cons (ps_set (i := 5) scStreetsOf.nd rfl (Or.inl rfl) (pe_lst pa_nil))
      (pss_cons (ps_for PassesOwn.never rfl (pi_range1 rfl gR (pa_cons (pv 4) pa_nil)) (pg_name (i := 6) scStreetsOf.nd rfl (Or.inl rfl))
        (pss_one (ps_if (pt_cmpR op_gt (pe_callB call_len_seq (by rfl) gL PySem.boot_len (pa_cons (pv 1) pa_nil)) pe_int (nomark _))
          (pss_cons (ps_set (i := 7) scStreetsOf.nd rfl (Or.inl rfl) (pe_ifExp (pt_cmpR op_lt (pv 6) (pe_callB call_len_seq (by rfl) gL PySem.boot_len (pa_cons (pv 3) pa_nil)) (nomark _)) (pe_ix ix_list (pv 3) (pv 6) (fun _ _ => rfl)) (pe_fz GP hr (by rfl) (pa_cons (pv 0) (pa_cons (pv 1) pa_nil)))))
            (tailS (m := m) B G GO GW GL T hr)) pss_nil)))
      (pss_one (ps_ret (pv 5))))), ?_⟩
    have sl := sizeLine_eq
    refine ⟨Nat.zero_le _, fun D nD => ?_⟩
    have pt0 : H p ≠ none := by
      obtain ⟨xs, h⟩ := B.pt
      rw [h]
      simp
    have nDp : D ≠ p := fun e => pt0 (by rw [← e]; exact nD)
    have I0 : StI H (upd H D (.lst [])) p D cs ns 0 [] := ⟨but_new nD, nD, ⟨upd_same, fun t h => by simp at h⟩, fun t h => by simp at h, rfl, rfl⟩
    have hp0 := hp.same (same_upd (o := .lst []) nD)
    generalize upd H D (.lst []) = H1 at I0 hp0 ⊢
    refine ⟨_, rfl, _, rfl, by omega, by omega, ?_⟩
    by_cases h2 : 2 ≤ cs.length
    · refine for_range (n := m.toNat) (fun i σ H' => (∃ o6 o7, σ = [some (.ref p), some (.ref lc), some (.ref ln), some (.ref lp), some (.int m), some (.ref D), o6, o7]) ∧ Pu H' p (n + 8 * (i : Nat)) ∧ ∃ ts, StI H H' p D cs ns i ts)
        ⟨⟨_, _, rfl⟩, hp0.mono (by omega), [], I0⟩ ?_ ?_
      · rintro i σ H' hi ⟨⟨o6, o7, rfl⟩, hp1, ts, I⟩
        have hlc : Ws H' lc cs := I.bu _ _ B.nc B.hc
        have hlp : H' lp = some (.lst (ps.map V.ref)) := I.bu _ _ B.np B.hp.1
        have fin : ∀ (a : Addr) (x y : Str) (H2 : Hp), H2 a = some (.tup [.str x, .str y]) → x ∈ cs → y ∈ cs → x ≠ y → Pu H2 p (n + 8 * (i : Nat) + 2) → StI H H2 p D cs ns i ts →
            tTl p lc ln lp cs ns H m { nx := fun σ H' => (∃ o6 o7, σ = [some (.ref p), some (.ref lc), some (.ref ln), some (.ref lp), some (.int m), some (.ref D), o6, o7]) ∧ Pu H' p (n + 8 * ((i + 1 : Nat) : Int)) ∧ ∃ ts, StI H H' p D cs ns (i + 1) ts, rt := fun v H' => Q v H' } (stσ p lc ln lp D m i (some (.ref a))) H2 := fun a x y H2 h1 h2 h3 h4 h5 h6 =>
          ⟨D, i, _, by omega, by omega, a, x, y, ts, rfl, h1, h2, h3, h4, h5, by omega, h6, fun a' x' y' H3 k1 k2 k3 k4 k5 k6 => ⟨a', x', y', ts, rfl, k1, k2, k3, k4, k5, by omega, k6, fun ts' H4 l1 l2 => ⟨⟨_, _, rfl⟩, l1.mono (by push_cast; omega), ts', l2⟩⟩⟩
        refine ⟨_, rfl, lc, _, rfl, Or.inl (SqL.of hlc), _, _, rfl, rfl, _, rfl, ifT (decide_eq_true (by rw [List.length_map]; omega)) ?_⟩
        refine ⟨_, rfl, _, rfl, lp, _, rfl, Or.inl (SqL.of hlp), _, _, rfl, rfl, _, rfl, ?_⟩
        refine ite2 (fun hc => ?_) (fun _ => ?_)
        · have lt : i < ps.length := by
            have z := of_decide_eq_true hc
            rw [List.length_map] at z
            omega
          have ei : (ps.map V.ref)[i]? = some (V.ref ps[i]) := by
            rw [List.getElem?_map, List.getElem?_eq_getElem lt]
            rfl
          obtain ⟨x, y, e, hx, hy, ne⟩ := B.hp.2 ps[i] (List.getElem_mem lt)
          have e' : H' ps[i] = some (.tup [.str x, .str y]) := I.bu _ _ (fun z => by
            obtain ⟨xs, h⟩ := B.pt
            rw [z, h] at e
            cases e) e
          exact ⟨_, rfl, _, rfl, lp, _, ((i : Nat) : Int), _, rfl, by rw [Int.zero_add], SqL.of hlp, atI_nat ei, fin _ x y H' e' hx hy ne (hp1.mono (by omega)) I⟩
        · exact ⟨_, rfl, _, rfl, p, lc, _, cs, rfl, hp1, by omega, hlc, B.nc, B.cd, h2, B.l1, fun t a b H2 ha hb ne hp2 b2 nt et => fin t a b H2 et ha hb ne hp2 (I.but b2 pt0)⟩
      · rintro σ H' ⟨⟨o6, o7, rfl⟩, hp1, ts, I⟩
        refine ⟨_, rfl, q D ts H' (hp1.mono (by omega)) I.bu nD I.st I.ok (by rw [I.ln]; exact I.nm) (by have := I.ln; omega) fun _ => by have := I.ln; omega⟩
    · refine for_range (n := m.toNat) (fun i σ H' => (∃ o6 o7, σ = [some (.ref p), some (.ref lc), some (.ref ln), some (.ref lp), some (.int m), some (.ref D), o6, o7]) ∧ H' = H1) ⟨⟨_, _, rfl⟩, rfl⟩ ?_ ?_
      · rintro i σ H' hi ⟨⟨o6, o7, rfl⟩, rfl⟩
        exact ⟨_, rfl, lc, _, rfl, Or.inl (SqL.of (I0.bu _ _ B.nc B.hc)), _, _, rfl, rfl, _, rfl, ifF (fun z => by have z := of_decide_eq_true z; rw [List.length_map] at z; omega) ⟨⟨_, _, rfl⟩, rfl⟩⟩
      · rintro σ H' ⟨⟨o6, o7, rfl⟩, rfl⟩
        exact ⟨_, rfl, q D [] H' (hp0.mono (by omega)) I0.bu nD I0.st I0.ok rfl (by simpa using m0) fun z => absurd z h2⟩
end
end K13
end
section
set_option Elab.async false
set_option linter.all false
set_option maxRecDepth 100000
set_option maxHeartbeats 8000000
namespace K13
open PySem PySem.Spec PyProof.Rows L2
theorem cut_take (xs : List V) (k : Nat) : cutV xs none (some (k : Int)) = xs.take k := by
  show (xs.drop (HT.sIx xs.length 0 none)).take (HT.sIx xs.length xs.length (some (k : Int)) - HT.sIx xs.length 0 none) = _
  rw [HT.sIx_none, HT.sIx_nat, List.drop_zero, Nat.sub_zero]
  rcases Nat.le_total k xs.length with h | h
  · rw [Nat.min_eq_left h]
  · rw [Nat.min_eq_right h, List.take_length, List.take_of_length_le h]
theorem cut_drop (xs : List V) (k : Nat) : cutV xs (some (k : Int)) none = xs.drop k := by
  show (xs.drop (HT.sIx xs.length 0 (some (k : Int)))).take (HT.sIx xs.length xs.length none - HT.sIx xs.length 0 (some (k : Int))) = _
  rw [HT.sIx_none, HT.sIx_nat]
  rcases Nat.le_total k xs.length with h | h
  · rw [Nat.min_eq_left h]
    exact List.take_of_length_le (by rw [List.length_drop]; omega)
  · rw [Nat.min_eq_right h, List.drop_length, List.drop_of_length_le h]
    simp
theorem perm_map_inv {α β : Type} {g : α → β} : ∀ {us vs : List β}, us.Perm vs → ∀ l : List α, vs = l.map g → ∃ l' : List α, l'.Perm l ∧ us = l'.map g := by
  intro us vs h
  induction h with
  | nil => exact fun l e => ⟨l, List.Perm.refl _, e⟩
  | cons x _ ih =>
    intro l e
    match l, e with
    | y :: r, e =>
      rw [List.map_cons] at e
      obtain ⟨e1, e2⟩ := List.cons.inj e
      obtain ⟨l', p, e3⟩ := ih r e2
      exact ⟨y :: l', p.cons y, by rw [List.map_cons, e1, e3]⟩
  | swap x y l0 =>
    intro l e
    match l, e with
    | a :: b :: r, e =>
      rw [List.map_cons, List.map_cons] at e
      obtain ⟨e1, e2⟩ := List.cons.inj e
      obtain ⟨e3, e4⟩ := List.cons.inj e2
      exact ⟨b :: a :: r, List.Perm.swap a b r, by rw [List.map_cons, List.map_cons, e1, e3, e4]⟩
  | trans _ _ ih1 ih2 =>
    intro l e
    obtain ⟨l1, p1, e1⟩ := ih2 l e
    obtain ⟨l2, p2, e2⟩ := ih1 l1 e1
    exact ⟨l2, p2.trans p1, e2⟩
/-- a world's parts: streets, gates, crossings, names -/
structure Wo (H : Hp) (ls lg lc ln : Addr) (ts : List (Addr × S5)) (gs cs ns : List Str) : Prop where
  s : Sts H ls ts
  g : Ws H lg gs
  c : Ws H lc cs
  n : Ws H ln ns
  ok : ∀ t ∈ ts, t.2.Ok ∧ t.2.st ∈ cs ∧ t.2.en ∈ cs ∧ t.2.nm ∈ ns
  nd : (ts.map fun t => t.2.nm).Nodup
  gp : ∃ k : Nat, 1 ≤ k ∧ k ≤ 5 ∧ k ≤ cs.length ∧ gs = cs.take k
  cd : cs.Nodup
  nn : ns.Nodup
  cw : ∀ x ∈ cs, Wd x
  nw : ∀ x ∈ ns, Wd x
  l1 : cs.length ≤ 9
  l2 : ns.length ≤ 14
  l3 : ts.length ≤ ns.length
/-- all these were not there in H -/
def NewIn (H : Hp) (ls lg lc ln : Addr) (ts : List (Addr × S5)) : Prop := H ls = none ∧ H lg = none ∧ H lc = none ∧ H ln = none ∧ ∀ t ∈ ts, H t.1 = none
def spWorld : Sp := fun vs H Q _ => ∃ (p : Addr) (g i m n : Int), vs = [.ref p, .int g, .int i, .int m] ∧ Pu H p n ∧ n ≤ 400000 ∧ 1 ≤ g ∧ g ≤ 5 ∧ 0 ≤ i ∧ g + i ≤ 9 ∧ 0 ≤ m ∧ m ≤ 14 ∧
  ∀ (W ls lg lc ln : Addr) (ts : List (Addr × S5)) (gs cs ns : List Str) (H' : Hp), Pu H' p (n + 1000) → But p H H' → H W = none → H' W = some (.lst [.ref ls, .ref lg, .ref lc, .ref ln]) → Wo H' ls lg lc ln ts gs cs ns → NewIn H ls lg lc ln ts →
    (gs.length : Int) = g → (cs.length : Int) = g + i → (ns.length : Int) = m → Q (.ref W) H'
abbrev NO : List Str := ["_law_purse_here", "_law_gates", "_law_inner_here", "_law_top", "_law_words_here", "_law_crossings", "_law_names", "_law_pairs_here", "_law_many", "_law_streets"]
theorem scWorld : FnScope NO ["_law_purse_here", "_law_gates", "_law_inner_here", "_law_top"] (defScope sWorld) := ⟨rfl, rfl, rfl, by decide +kernel, rfl, by decide +kernel, by decide +kernel⟩
section
variable {P : Program} {w : World} {K : PySem.W.Frag} {mg : Str → Option Value} {base : Heap}
theorem ok_world {f : Addr} {fd : FuncData} (F : FnP K "_law_world" sWorld f fd) (G : DrawZ P w K mg base) (GWs : Fz P w K mg base "_law_words" 4 ["_law_purse_here", "_law_many"] spWords) (GSh : Fz P w K mg base "_law_shuffled" 3 ["_law_purse_here", "_law_some"] spShuffled)
    (GS : Fz P w K mg base "_law_shape" 3 ["_law_purse_here", "_law_gates", "_law_inner_here"] spShape) (GSt : Fz P w K mg base "_law_streets_of" 5 ["_law_purse_here", "_law_crossings", "_law_names", "_law_pairs_here", "_law_many"] spStreetsOf) (T : Tx K mg) :
    FnOk P w K mg base CX0 6 f fd ["_law_purse_here", "_law_gates", "_law_inner_here", "_law_top"] spWorld := by
  refine F.ok scWorld (fun vs H Q E h => ?_) (fun cdv A outer s H vs Q E hr h => ?_)
  · obtain ⟨_, _, _, _, _, rfl, _⟩ := h
    rfl
  · obtain ⟨p, g, i, m, n, rfl, hp, hn, g1, g5, i0, gi9, m0, m14, q⟩ := h
    have gL := T.fr "len" (by decide +kernel)
    have gMa := T.fr "max" (by decide +kernel)
    have r4 : Room 4 (A.deeper (envOfC "_law_world" (defScope sWorld) s.heap.objs.size f cdv)) := hr.mono (by decide)
    have r3 : Room 3 (A.deeper (envOfC "_law_world" (defScope sWorld) s.heap.objs.size f cdv)) := hr.mono (by decide)
    have r2 : Room 2 (A.deeper (envOfC "_law_world" (defScope sWorld) s.heap.objs.size f cdv)) := hr.mono (by decide)
    refine ⟨_, PSs.nox (pss_cons (ps_set (i := 4) scWorld.nd rfl (Or.inl rfl) (pe_fz GWs r4 (by rfl) (pa_cons (pv 0) (pa_cons (pe_callB (call_max2 rfl) (by rfl) gMa (by decide +kernel) (pa_cons (pe_op op_add (pv 1) (pv 2)) (pa_cons (pe_op op_add (pv 3) pe_int) pa_nil))) pa_nil))))
      (pss_cons (ps_par (i := 5) (j := 6) rfl scWorld.nd rfl rfl (by decide) rfl rfl (pa_cons (pe_slice sl_list (pv 4) po_none (po_some (pe_op op_add (pv 1) (pv 2)))) (pa_cons (pe_slice sl_list (pe_fz GSh r3 (by rfl) (pa_cons (pv 0) (pa_cons (pv 4) pa_nil))) po_none (po_some (pv 3))) pa_nil)) (by rfl))
      (pss_cons (ps_set (i := 7) scWorld.nd rfl (Or.inl rfl) (pe_slice sl_list (pe_fz GS r3 (by rfl) (pa_cons (pv 0) (pa_cons (pe_slice sl_list (pv 5) po_none (po_some (pv 1))) (pa_cons (pe_slice sl_list (pv 5) (po_some (pv 1)) po_none) pa_nil)))) po_none (po_some (pv 3))))
      (pss_cons (ps_set (i := 8) scWorld.nd rfl (Or.inl rfl) (pe_callB (call_max2 rfl) (by rfl) gMa (by decide +kernel) (pa_cons (pe_callB call_len_seq (by rfl) gL PySem.boot_len (pa_cons (pv 7) pa_nil)) (pa_cons (pe_fz G r2 (by rfl) (pa_cons (pv 0) (pa_cons (pe_op op_add (pv 3) pe_int) pa_nil))) pa_nil))))
      (pss_cons (ps_set (i := 9) scWorld.nd rfl (Or.inl rfl) (pe_fz GSt hr (by rfl) (pa_cons (pv 0) (pa_cons (pv 5) (pa_cons (pv 6) (pa_cons (pv 7) (pa_cons (pv 8) pa_nil)))))))
      (pss_one (ps_ret (pe_lst (pa_cons (pe_fz GSh r3 (by rfl) (pa_cons (pv 0) (pa_cons (pv 9) pa_nil))) (pa_cons (pe_slice sl_list (pv 5) po_none (po_some (pv 1))) (pa_cons (pv 5) (pa_cons (pv 6) pa_nil)))))))))))), ?_⟩
    have sl := sizeLine_eq
    have fr : ∀ {b : Addr} {X Y : Hp}, But p X Y → Y b = none → (∃ xs, X p = some (.lst xs)) → (∃ xs, Y p = some (.lst xs)) → X b = none := fun {b X Y} bu e hx hy => bu.free e fun z => by
      obtain ⟨ys, hy⟩ := hy
      rw [z, hy] at e
      cases e
    have np : ∀ {b : Addr} {X : Hp} {k : Int}, Pu X p k → X b = none → b ≠ p := fun {b X k} h e z => by
      obtain ⟨ys, hy, _⟩ := h
      rw [z, hy] at e
      cases e
    obtain ⟨g, rfl⟩ := Int.eq_ofNat_of_zero_le (show 0 ≤ g by omega)
    obtain ⟨i, rfl⟩ := Int.eq_ofNat_of_zero_le i0
    obtain ⟨m, rfl⟩ := Int.eq_ofNat_of_zero_le m0
    refine ⟨_, rfl, _, rfl, _, rfl, _, _, rfl, rfl, _, rfl, _, _, rfl, rfl, _, _, rfl, p, _, n, rfl, hp, by omega, ?_⟩
    have hk : ∃ k : Int, (if ((m : Int) + 2) > ((g : Int) + i) then ((m : Int) + 2) else ((g : Int) + i)) = k ∧ (g : Int) + i ≤ k ∧ (m : Int) + 2 ≤ k ∧ k ≤ 16 := by
      refine ⟨_, rfl, ?_⟩
      split <;> omega
    obtain ⟨k, ek, k1, k2, k3⟩ := hk
    rw [ek]
    refine ⟨by omega, by omega, fun D ws H1 hl nd wd hp1 b1 fD hw => ?_⟩
    have egi : (g : Int) + i = ((g + i : Nat) : Int) := by omega
    -- crossings
    refine ⟨_, rfl, _, rfl, _, rfl, _, _, rfl, rfl, _, rfl, D, _, rfl, SqL.of hw, fun lc nlc => ?_⟩
    rw [egi, cut_take, ← List.map_take]
    have s2 := same_upd (o := HO.lst ((ws.take (g + i)).map V.str)) nlc
    have hc2 : Ws (upd H1 lc (.lst ((ws.take (g + i)).map V.str))) lc (ws.take (g + i)) := upd_same
    have hp2 := hp1.same s2
    have b2 : But p H (upd H1 lc (.lst ((ws.take (g + i)).map V.str))) := b1.trans fun b o _ e => s2 b o e
    have nDp := np hp fD
    have nlcp := np hp1 nlc
    have fc : H lc = none := b1.free nlc nlcp
    generalize upd H1 lc (.lst ((ws.take (g + i)).map V.str)) = H2 at s2 hc2 hp2 b2 ⊢
    have hw2 := s2 _ _ hw
    -- names
    refine ⟨_, rfl, _, rfl, p, D, _, _, rfl, hp2, by omega, hw2, nDp, by rw [List.length_map]; omega, fun S us H3 pu hp3 b3 fS hS => ?_⟩
    obtain ⟨vs, pv, rfl⟩ := perm_map_inv pu ws rfl
    refine ⟨_, rfl, _, rfl, S, _, rfl, SqL.of hS, fun ln nln => ⟨_, _, rfl, ?_⟩⟩
    rw [cut_take, ← List.map_take]
    have s4 := same_upd (o := HO.lst ((vs.take m).map V.str)) nln
    have hn4 : Ws (upd H3 ln (.lst ((vs.take m).map V.str))) ln (vs.take m) := upd_same
    have hc4 := s4 _ _ (b3 _ _ nlcp hc2)
    have hp4 := hp3.same s4
    have b4 : But p H (upd H3 ln (.lst ((vs.take m).map V.str))) := (b2.trans b3).trans fun b o _ e => s4 b o e
    have nlnp := np hp3 nln
    have fn : H ln = none := (b2.trans b3).free nln nlnp
    generalize upd H3 ln (.lst ((vs.take m).map V.str)) = H4 at s4 hn4 hc4 hp4 b4 ⊢
    have hvl := pv.length_eq
    rw [List.length_map] at hp4
    have cl : (ws.take (g + i)).length = g + i := by rw [List.length_take]; omega
    have nl : (vs.take m).length = m := by rw [List.length_take]; omega
    have cd : (ws.take (g + i)).Nodup := (List.take_sublist _ _).nodup nd
    have nn : (vs.take m).Nodup := (List.take_sublist _ _).nodup (pv.nodup_iff.mpr nd)
    have cw : ∀ x ∈ ws.take (g + i), Wd x := fun x hx => wd x (List.mem_of_mem_take hx)
    have nw : ∀ x ∈ vs.take m, Wd x := fun x hx => wd x (pv.mem_iff.mp (List.mem_of_mem_take hx))
    generalize ws.take (g + i) = cs at hc2 hc4 cl cd cw
    generalize vs.take m = ns at hn4 nl nn nw
    -- the pairs
    refine ⟨_, rfl, _, rfl, _, rfl, _, rfl, lc, _, rfl, SqL.of hc4, fun lg nlg => ?_⟩
    rw [cut_take, ← List.map_take]
    have s5 := same_upd (o := HO.lst ((cs.take g).map V.str)) nlg
    have hg5 : Ws (upd H4 lg (.lst ((cs.take g).map V.str))) lg (cs.take g) := upd_same
    have hp5 := hp4.same s5
    have nlgp := np hp4 nlg
    have b5 := b4.trans (Same.but (p := p) s5)
    generalize upd H4 lg (.lst ((cs.take g).map V.str)) = H5 at s5 hg5 hp5 b5 ⊢
    refine ⟨_, rfl, _, rfl, _, rfl, lc, _, rfl, SqL.of (s5 _ _ hc4), fun li nli => ?_⟩
    rw [cut_drop, ← List.map_drop]
    have s6 := same_upd (o := HO.lst ((cs.drop g).map V.str)) nli
    have hi6 : Ws (upd H5 li (.lst ((cs.drop g).map V.str))) li (cs.drop g) := upd_same
    have hp6 := hp5.same s6
    have nlip := np hp5 nli
    have b6 := b5.trans (Same.but (p := p) s6)
    generalize upd H5 li (.lst ((cs.drop g).map V.str)) = H6 at s6 hi6 hp6 b6 ⊢
    have etd : cs.take g ++ cs.drop g = cs := List.take_append_drop g cs
    refine ⟨p, lg, li, cs.take g, cs.drop g, _, rfl, ⟨s6 _ _ hg5, hi6, nlgp, ?_, nlip, by rw [etd]; exact cd, by rw [etd]; exact cw, by rw [List.length_take]; omega, by rw [List.length_take]; omega, by rw [List.length_drop]; omega⟩, hp6, by omega, fun L ps H7 hp7 b67 fL hP hpl => ?_⟩
    · obtain ⟨xs, h, _⟩ := hp6
      exact ⟨xs, h⟩
    rw [etd] at hP
    have b7 := b6.trans b67
    have hc7 : Ws H7 lc cs := b67 _ _ nlcp (s6 _ _ (s5 _ _ hc4))
    have hn7 : Ws H7 ln ns := b67 _ _ nlnp (s6 _ _ (s5 _ _ hn4))
    refine ⟨_, rfl, _, rfl, L, _, rfl, SqL.of hP.1, fun lp nlp => ?_⟩
    rw [cut_take, ← List.map_take]
    have s8 := same_upd (o := HO.lst ((ps.take m).map V.ref)) nlp
    have hl8 : upd H7 lp (.lst ((ps.take m).map V.ref)) lp = some (.lst ((ps.take m).map V.ref)) := upd_same
    have hP8 : Prs (upd H7 lp (.lst ((ps.take m).map V.ref))) lp cs (ps.take m) := ⟨hl8, fun a ha => (hP.2 a (List.mem_of_mem_take ha)).keep s8⟩
    have hp8 := hp7.same s8
    have nlpp := np hp7 nlp
    have b8 := b7.trans (Same.but (p := p) s8)
    have hc8 := s8 _ _ hc7
    have hn8 := s8 _ _ hn7
    have pl : (ps.take m).length ≤ m := by rw [List.length_take]; omega
    generalize upd H7 lp (.lst ((ps.take m).map V.ref)) = H8 at s8 hl8 hP8 hp8 b8 hc8 hn8 ⊢
    generalize ps.take m = qs at hl8 hP8 pl ⊢
    obtain ⟨xs8, hx8, hu8⟩ := hp8
    refine ⟨_, rfl, lp, _, rfl, Or.inl (SqL.of hl8), _, rfl, _, rfl, _, _, rfl, rfl, p, _, _, xs8, rfl, hx8, hu8, by omega, by omega, by omega, fun r ys r0 r1 hy => ⟨_, _, rfl, ?_⟩⟩
    have b9 := b8.trans (but_self (p := p) (H := H8) (o := .lst ys))
    have hx9 : upd H8 p (.lst ys) p = some (.lst ys) := upd_same
    have hc9 : Ws (upd H8 p (.lst ys)) lc cs := by
      show upd H8 p (.lst ys) lc = _
      rw [upd_ne nlcp]
      exact hc8
    have hn9 : Ws (upd H8 p (.lst ys)) ln ns := by
      show upd H8 p (.lst ys) ln = _
      rw [upd_ne nlnp]
      exact hn8
    have hP9 : Prs (upd H8 p (.lst ys)) lp cs qs := ⟨by rw [upd_ne nlpp]; exact hl8, fun a ha => by
      obtain ⟨x, y, e, rr⟩ := hP8.2 a ha
      exact ⟨x, y, by rw [upd_ne (fun z => by rw [z, hx8] at e; cases e)]; exact e, rr⟩⟩
    generalize upd H8 p (.lst ys) = H9 at b9 hx9 hc9 hn9 hP9 ⊢
    have hk2 : ∃ k2 : Int, (if r > (((qs.map V.ref).length : Nat) : Int) then r else (((qs.map V.ref).length : Nat) : Int)) = k2 ∧ 0 ≤ k2 ∧ k2 ≤ m := by
      refine ⟨_, rfl, ?_⟩
      rw [List.length_map]
      split <;> omega
    obtain ⟨k2, ek2, k20, k2m⟩ := hk2
    rw [ek2]
    refine ⟨_, rfl, _, rfl, _, rfl, _, rfl, _, rfl, p, lc, ln, lp, cs, ns, qs, _, k2, rfl, ⟨hc9, hn9, hP9, nlcp, nlnp, nlpp, ⟨_, hx9⟩, cd, cw, nw, by omega, by omega⟩, ⟨ys, hx9, hy⟩, by omega, k20, by omega, by omega, fun T0 ts H10 hp10 b910 fT hT okT nmT lT _ => ?_⟩
    have b10 := b9.trans b910
    have hc10 : Ws H10 lc cs := b910 _ _ nlcp hc9
    have hn10 : Ws H10 ln ns := b910 _ _ nlnp hn9
    have p9 : ∀ {b : Addr}, H9 b = none → b ≠ p := fun {b} e z => by
      rw [z, hx9] at e
      cases e
    refine ⟨_, rfl, _, rfl, p, T0, _, _, rfl, hp10, by omega, hT.1, p9 fT, by rw [List.length_map]; omega, fun ls us2 H11 pu2 hp11 b11 fl hls => ?_⟩
    obtain ⟨ts2, pt2, rfl⟩ := perm_map_inv pu2 ts rfl
    have hc11 : Ws H11 lc cs := b11 _ _ nlcp hc10
    have hn11 : Ws H11 ln ns := b11 _ _ nlnp hn10
    have b011 := b10.trans b11
    rw [List.length_map] at hp11
    have nlsp := np hp10 fl
    refine ⟨_, rfl, _, rfl, _, rfl, lc, _, rfl, SqL.of hc11, fun lg2 nlg2 => ?_⟩
    rw [cut_take, ← List.map_take]
    have s12 := same_upd (o := HO.lst ((cs.take g).map V.str)) nlg2
    have hg12 : Ws (upd H11 lg2 (.lst ((cs.take g).map V.str))) lg2 (cs.take g) := upd_same
    have hp12 := hp11.same s12
    have nlg2p := np hp11 nlg2
    have b12 := b011.trans (Same.but (p := p) s12)
    have fl0 : H ls = none := b10.free fl nlsp
    have flg0 : H lg2 = none := b011.free nlg2 nlg2p
    generalize upd H11 lg2 (.lst ((cs.take g).map V.str)) = H12 at s12 hg12 hp12 b12 ⊢
    refine ⟨_, rfl, _, rfl, (by show 4 ≤ sizeLine; decide +kernel), fun W nW => ?_⟩
    have s13 := same_upd (o := HO.lst [V.ref ls, V.ref lg2, V.ref lc, V.ref ln]) nW
    have nWp := np hp12 nW
    have okN : ∀ t ∈ ts2, H9 t.1 = none := fun t ht => (okT t (pt2.mem_iff.mp ht)).2.2.2
    refine q W ls lg2 lc ln ts2 (cs.take g) cs ns _ ((hp12.same s13).mono (by omega)) (b12.trans (Same.but (p := p) s13)) (b12.free nW nWp) upd_same ⟨⟨s13 _ _ (s12 _ _ hls), fun t ht => s13 _ _ (s12 _ _ (b11 _ _ (p9 (okN t ht)) (hT.2 t (pt2.mem_iff.mp ht))))⟩, s13 _ _ hg12, s13 _ _ (s12 _ _ hc11), s13 _ _ (s12 _ _ hn11), fun t ht => ?_, ?_, ⟨g, by omega, by omega, by omega, rfl⟩, cd, nn, cw, nw, by omega, by omega, by have := pt2.length_eq; omega⟩
      ⟨fl0, flg0, fc, fn, fun t ht => b9.free (okN t ht) (p9 (okN t ht))⟩ (by rw [List.length_take]; omega) (by omega) (by omega)
    · obtain ⟨h1, h2, h3, _⟩ := okT t (pt2.mem_iff.mp ht)
      refine ⟨h1, h2, h3, ?_⟩
      have : t.2.nm ∈ ts.map fun t => t.2.nm := List.mem_map.mpr ⟨t, pt2.mem_iff.mp ht, rfl⟩
      rw [nmT] at this
      exact List.mem_of_mem_take this
    · have h1 : (ts.map fun t => t.2.nm).Nodup := by
        rw [nmT]
        exact (List.take_sublist _ _).nodup nn
      exact ((pt2.map fun t => t.2.nm).nodup_iff).mpr h1
end
end K13
end
section
set_option Elab.async false
set_option linter.all false
set_option maxRecDepth 100000
set_option maxHeartbeats 8000000
namespace K13
open PySem PySem.Spec PyProof.Rows L2
theorem one_lt {a b : Nat} (h : b ≤ a) : (!decide ((one a).cps.toList < (one b).cps.toList)) = true := by
  have : ¬ (one a).cps.toList < (one b).cps.toList := by
    show ¬ [a] < [b]
    rw [List.cons_lt_cons_iff]
    rintro (h1 | ⟨_, h2⟩)
    · omega
    · exact List.not_lt_nil _ h2
  rw [decide_eq_false this]
  rfl
theorem kfl {K : PySem.W.Frag} {a b : String} (h : kitB a b = some false) : PySem.W.kitOne K (.type a) (.type b) = some false := kit_ty h
theorem ktr {K : PySem.W.Frag} {a b : String} (h : kitB a b = some true) : PySem.W.kitOne K (.type a) (.type b) = some true := kit_ty h
section
variable {P : Program} {w : World} {K : PySem.W.Frag} {mg : Str → Option Value} {base : Heap}
/-! ### is_whole, is_count, of counts -/
def spIsWhole : Sp := fun vs H Q _ => ∃ i : Int, vs = [.int i] ∧ Q (.bl true) H
theorem scIsWhole : FnScope ["value"] ["value"] (defScope sWhole) := ⟨rfl, rfl, rfl, by decide +kernel, rfl, by decide +kernel, by decide +kernel⟩
theorem ok_isWhole {f : Addr} {fd : FuncData} (F : FnP K "is_whole" sWhole f fd) (T : Tx K mg) : FnOk P w K mg base CX0 1 f fd ["value"] spIsWhole := by
  refine F.ok scIsWhole (fun vs H Q E h => ?_) (fun cdv A outer s H vs Q E hr h => ?_)
  · obtain ⟨_, rfl, _⟩ := h
    rfl
  · obtain ⟨i, rfl, q⟩ := h
    have gIs := T.fr "isinstance" (by decide +kernel)
    have gI := T.fr "int" (by decide +kernel)
    have gB := T.fr "bool" (by decide +kernel)
    refine ⟨_, PSs.nox (pss_one (ps_ret (pe_and (pe_callB call_isi (by rfl) gIs (by decide +kernel) (pa_cons (pv 0) (pa_cons (pe_bltn (v := .ty "int") (by rfl) gI (by decide +kernel) rfl) pa_nil)))
      (pe_one (pe_not (pe_callB call_isi (by rfl) gIs (by decide +kernel) (pa_cons (pv 0) (pa_cons (pe_bltn (v := .ty "bool") (by rfl) gB (by decide +kernel) rfl) pa_nil)))))))), ?_⟩
    refine ⟨_, rfl, _, _, _, _, _, rfl, .ty _, .base (.int i), ktr (by decide +kernel), _, rfl, ifT rfl ?_⟩
    exact ⟨_, rfl, _, _, _, _, _, rfl, .ty _, .base (.int i), kfl (by decide +kernel), _, rfl, q⟩
def spIsCount : Sp := fun vs H Q _ => ∃ i : Int, vs = [.int i] ∧ 0 ≤ i ∧ Q (.bl true) H
theorem scIsCount : FnScope ["value"] ["value"] (defScope sCount) := ⟨rfl, rfl, rfl, by decide +kernel, rfl, by decide +kernel, by decide +kernel⟩
theorem ok_isCount {f : Addr} {fd : FuncData} (F : FnP K "is_count" sCount f fd) (GW : Fz P w K mg base "is_whole" 1 ["value"] spIsWhole) (T : Tx K mg) : FnOk P w K mg base CX0 2 f fd ["value"] spIsCount := by
  refine F.ok scIsCount (fun vs H Q E h => ?_) (fun cdv A outer s H vs Q E hr h => ?_)
  · obtain ⟨_, rfl, _⟩ := h
    rfl
  · obtain ⟨i, rfl, h0, q⟩ := h
    refine ⟨_, PSs.nox (pss_one (ps_ret (pe_and (pe_fz GW hr (by rfl) (pa_cons (pv 0) pa_nil)) (pe_one (pe_cmpR op_ge (pv 0) pe_int (nomark _)))))), ?_⟩
    refine ⟨_, rfl, i, rfl, _, rfl, ifT rfl ?_⟩
    refine ⟨_, rfl, _, _, rfl, rfl, ?_⟩
    show Q (.bl (decide ((0 : Int) ≤ i))) H
    rw [decide_eq_true h0]
    exact q
/-! ### is_word, of words -/
def spIsWord : Sp := fun vs H Q _ => ∃ z : Str, vs = [.str z] ∧ Wd z ∧ ∀ H', Same H H' → Q (.bl true) H'
theorem scIsWord : FnScope ["value", "letter"] ["value"] (defScope sIsWord) := ⟨rfl, rfl, rfl, by decide +kernel, rfl, by decide +kernel, by decide +kernel⟩
theorem ok_isWord {f : Addr} {fd : FuncData} (F : FnP K "is_word" sIsWord f fd) (T : Tx K mg) : FnOk P w K mg base CX0 1 f fd ["value"] spIsWord := by
  refine F.ok scIsWord (fun vs H Q E h => ?_) (fun cdv A outer s H vs Q E hr h => ?_)
  · obtain ⟨_, rfl, _⟩ := h
    rfl
  · obtain ⟨z, rfl, hz, q⟩ := h
    have gIs := T.fr "isinstance" (by decide +kernel)
    have gS := T.fr "str" (by decide +kernel)
    have gL := T.fr "len" (by decide +kernel)
    have gA := T.fr "all" (by decide +kernel)
    have lz := str_length z
    have h1 := hz.1
    have h8 := hz.2.1
    have sl := sizeLine_eq
    refine ⟨_, PSs.nox (pss_cons (ps_if (PW.pt (pw_or (pt_not (pt_val (pe_callB call_isi (by rfl) gIs (by decide +kernel) (pa_cons (pv 0) (pa_cons (pe_bltn (v := .ty "str") (by rfl) gS (by decide +kernel) rfl) pa_nil)))))
        (pw_or1 (pt_not (pt_chain op_le op_le pe_int (pe_callB call_len_str (by rfl) gL PySem.boot_len (pa_cons (pv 0) pa_nil)) pe_int))))) (pss_one (ps_ret pe_bl)) pss_nil)
      (pss_one (ps_ret (pe_callB (cr_all rfl) (by rfl) gA (by decide +kernel) (pa_cons (pe_lc (own := [("letter", 1)]) (g := gName 1) (tt := tYes) rfl scIsWord.nd (pi_str (pv 0)) (blkOk_by (own := [("letter", 1)]) (N := ["value", "letter"]) (sc := defScope sIsWord) (by decide +kernel))
        (fun _ _ _ _ _ => pg_name (i := 1) scIsWord.nd rfl (Or.inl rfl)) (fun _ _ _ _ _ => pts_nil) (fun _ _ _ _ _ => pe_chain op_le_str op_le_str pe_str (pv 1) pe_str)) pa_nil))))), ?_⟩
    refine ⟨_, rfl, _, _, _, _, _, rfl, .ty _, .base (.str z), ktr (by decide +kernel), _, rfl, ifF (by decide) ?_⟩
    refine ⟨_, rfl, z, rfl, by omega, _, _, rfl, rfl, _, rfl, ifT (decide_eq_true (by omega)) ⟨_, _, rfl, rfl, _, rfl, ?_⟩⟩
    rw [decide_eq_true (show (z.length : Int) ≤ 8 by omega)]
    refine ifF (by decide) ?_
    refine ⟨_, rfl, z, rfl, fun D nD => ?_⟩
    refine lc_it walk_str (fun j H' => Same H H' ∧ H' D = some (.lst ((List.replicate j true).map V.bl))) ⟨same_upd nD, upd_same⟩ (fun _ _ _ _ => trivial) ?_ ?_
    · rintro j x H1 H2 hj ⟨s1, hD⟩ ⟨rfl, c, hc, rfl⟩
      have mc : c ∈ z.cps.toList := by
        rw [← Array.getElem?_toList] at hc
        exact List.mem_of_getElem? hc
      have bc := hz.2.2 c mc
      refine ⟨rfl, _, rfl, _, _, rfl, rfl, _, rfl, ifT ?_ ⟨_, _, rfl, rfl, _, hD, ?_, ?_⟩⟩
      · exact one_lt (b := 97) bc.1
      · rw [List.length_map, List.length_replicate]
        have : z.cps.size = z.cps.toList.length := by simp
        omega
      · have e : (!decide (("z" : Str).cps.toList < (one c).cps.toList)) = true := one_lt (a := 122) bc.2
        have e2 : (V.bl (!decide (("z" : Str).cps.toList < (one c).cps.toList))) = V.bl true := by rw [e]
        refine ⟨fun b o eb => ?_, ?_⟩
        · rw [upd_ne (ne_of_none eb nD)]
          exact s1 _ _ eb
        · rw [upd_same, List.replicate_succ', List.map_append]
          exact congrArg (fun v => some (HO.lst ((List.replicate j true).map V.bl ++ [v]))) e2
    · rintro H' ⟨s1, hD⟩
      refine ⟨D, List.replicate z.cps.size true, rfl, SqL.of hD, ?_⟩
      have e : (List.replicate z.cps.size true).all id = true := by simp
      rw [e]
      exact q H' s1
end
end K13
end
section
set_option Elab.async false
set_option linter.all false
set_option maxRecDepth 100000
set_option maxHeartbeats 8000000
namespace K13
open PySem PySem.Spec PyProof.Rows L2
section
variable {P : Program} {w : World} {K : PySem.W.Frag} {mg : Str → Option Value} {base : Heap}
def spIsStreet : Sp := fun vs H Q _ => ∃ (t : Addr) (s : S5), vs = [.ref t] ∧ H t = some (.tup s.vals) ∧ s.Ok ∧ ∀ H', Same H H' → Q (.bl true) H'
abbrev NE : List Str := ["value", "name", "start", "end", "width", "length"]
theorem scIsStreet : FnScope NE ["value"] (defScope sIsStreet) := ⟨rfl, rfl, rfl, by decide +kernel, rfl, by decide +kernel, by decide +kernel⟩
theorem ok_isStreet {f : Addr} {fd : FuncData} (F : FnP K "is_street" sIsStreet f fd) (GC : Fz P w K mg base "is_count" 2 ["value"] spIsCount) (GW : Fz P w K mg base "is_word" 1 ["value"] spIsWord) (T : Tx K mg) : FnOk P w K mg base CX0 3 f fd ["value"] spIsStreet := by
  refine F.ok scIsStreet (fun vs H Q E h => ?_) (fun cdv A outer s H vs Q E hr h => ?_)
  · obtain ⟨_, _, rfl, _⟩ := h
    rfl
  · obtain ⟨t, z, rfl, ht, ⟨o1, o2, o3, o4, o5, o6, o7, o8⟩, q⟩ := h
    have gIs := T.fr "isinstance" (by decide +kernel)
    have gTu := T.fr "tuple" (by decide +kernel)
    have gL := T.fr "len" (by decide +kernel)
    refine ⟨_, PSs.nox (pss_cons (ps_if (PW.pt (pw_or (pt_not (pt_val (pe_callB call_isi (by rfl) gIs (by decide +kernel) (pa_cons (pv 0) (pa_cons (pe_bltn (v := .ty "tuple") (by rfl) gTu (by decide +kernel) rfl) pa_nil)))))
        (pw_or1 (pt_cmpR op_ne (pe_callB call_len_seq (by rfl) gL PySem.boot_len (pa_cons (pv 0) pa_nil)) pe_int (nomark _))))) (pss_one (ps_ret pe_bl)) pss_nil)
      (pss_cons (ps_asg (pv 0) (pg_tup rfl (pgs_cons (pg_name (i := 1) scIsStreet.nd rfl (Or.inl rfl)) (pgs_cons (pg_name (i := 2) scIsStreet.nd rfl (Or.inl rfl)) (pgs_cons (pg_name (i := 3) scIsStreet.nd rfl (Or.inl rfl)) (pgs_cons (pg_name (i := 4) scIsStreet.nd rfl (Or.inl rfl)) (pgs_cons (pg_name (i := 5) scIsStreet.nd rfl (Or.inl rfl)) pgs_nil)))))))
      (pss_cons (ps_if (pt_not (PW.pt (pw_and (pt_val (pe_fz GW (hr.mono (by decide)) (by rfl) (pa_cons (pv 1) pa_nil))) (pw_and (pt_val (pe_fz GW (hr.mono (by decide)) (by rfl) (pa_cons (pv 2) pa_nil))) (pw_and1 (pt_val (pe_fz GW (hr.mono (by decide)) (by rfl) (pa_cons (pv 3) pa_nil)))))))) (pss_one (ps_ret pe_bl)) pss_nil)
      (pss_one (ps_ret (pe_and (pe_cmpR op_ne (pv 2) (pv 3) (nomark _)) (pe_and (pe_fz GC hr (by rfl) (pa_cons (pv 4) pa_nil)) (pe_one (pe_fz GC hr (by rfl) (pa_cons (pv 5) pa_nil)))))))))), ?_⟩
    refine ⟨_, rfl, _, _, _, _, _, rfl, .ty _, .base (.tup ht), ktr (by decide +kernel), _, rfl, ifF (by decide) ?_⟩
    refine ⟨_, rfl, t, _, rfl, Or.inr (SqT.of ht), rfl, _, rfl, ifF ?_ ?_⟩
    · show ¬ (!decide (V.int 5 = V.int 5)) = true
      decide
    refine ⟨_, rfl, t, _, rfl, SqT.of ht, rfl, _, _, rfl, _, _, rfl, _, _, rfl, _, _, rfl, _, _, rfl, rfl, ?_⟩
    refine ⟨_, rfl, z.nm, rfl, o1, fun H1 s1 => ⟨_, rfl, ifT rfl ⟨_, rfl, z.st, rfl, o2, fun H2 s2 => ⟨_, rfl, ifT rfl ⟨_, rfl, z.en, rfl, o3, fun H3 s3 => ⟨_, rfl, ifF (by decide) ?_⟩⟩⟩⟩⟩⟩
    exact ⟨_, rfl, _, rfl, rfl, _, rfl, ifT (by simpa using o4) ⟨_, rfl, z.wd, rfl, o5, _, rfl, ifT rfl ⟨_, rfl, z.ln, rfl, o7, q H3 (same_trans s1 (same_trans s2 s3))⟩⟩⟩
end
end K13
end
section
set_option Elab.async false
set_option linter.all false
set_option maxRecDepth 100000
set_option maxHeartbeats 8000000
namespace K13
open PySem PySem.Spec PyProof.Rows L2
section
variable {P : Program} {w : World} {K : PySem.W.Frag} {mg : Str → Option Value} {base : Heap}
/-- a list of streets with unlike names is let -/
def spChkStreets (K : PySem.W.Frag) : Sp := fun vs H Q _ => ∃ (l : Addr) (ts : List (Addr × S5)), vs = [.ref l] ∧ Sts H l ts ∧ (∀ t ∈ ts, t.2.Ok) ∧ (ts.map fun t => t.2.nm).Nodup ∧ ts.length ≤ 100 ∧ ∀ H', Same H H' → Q .non H'
/-- are_streets -/
def spAreStreets (K : PySem.W.Frag) : Sp := fun vs H Q _ => ∃ (l : Addr) (ts : List (Addr × S5)), vs = [.ref l] ∧ Sts H l ts ∧ (∀ t ∈ ts, t.2.Ok) ∧ (ts.map fun t => t.2.nm).Nodup ∧ ts.length ≤ 100 ∧ ∀ H', Same H H' → Q (.bl true) H'
abbrev NC : List Str := ["value", "street"]
theorem scAreStreets : FnScope NC ["value"] (defScope sAreStreets) := ⟨rfl, rfl, rfl, by decide +kernel, rfl, by decide +kernel, by decide +kernel⟩
theorem ok_areStreets {f : Addr} {fd : FuncData} (F : FnP K "are_streets" sAreStreets f fd) (GS : Fz P w K mg base "is_street" 3 ["value"] spIsStreet) (T : Tx K mg) : FnOk P w K mg base CX0 4 f fd ["value"] (spAreStreets K) := by
  refine F.ok scAreStreets (fun vs H Q E h => ?_) (fun cdv A outer s H vs Q E hr h => ?_)
  · obtain ⟨_, _, rfl, _⟩ := h
    rfl
  · obtain ⟨l, ts, rfl, hl, ok, nd, h100, q⟩ := h
    have gIs := T.fr "isinstance" (by decide +kernel)
    have gLi := T.fr "list" (by decide +kernel)
    have gL := T.fr "len" (by decide +kernel)
    have gA := T.fr "all" (by decide +kernel)
    have sl := sizeLine_eq
    refine ⟨_, PSs.nox (pss_cons (ps_if (PW.pt (pw_or (pt_not (pt_val (pe_callB call_isi (by rfl) gIs (by decide +kernel) (pa_cons (pv 0) (pa_cons (pe_bltn (v := .ty "list") (by rfl) gLi (by decide +kernel) rfl) pa_nil)))))
        (pw_or1 (pt_not (pt_val (pe_callB (cr_all rfl) (by rfl) gA (by decide +kernel) (pa_cons (pe_lc (own := [("street", 1)]) (g := gName 1) (tt := tYes) rfl scAreStreets.nd (pi_list (pv 0)) (blkOk_by (own := [("street", 1)]) (N := NC) (sc := defScope sAreStreets) (by decide +kernel))
          (fun _ _ _ _ _ => pg_name (i := 1) scAreStreets.nd rfl (Or.inl rfl)) (fun _ _ _ _ _ => pts_nil) (fun _ _ _ _ _ => pe_fz GS hr (by rfl) (pa_cons (pv 1) pa_nil))) pa_nil))))))) (pss_one (ps_ret pe_bl)) pss_nil)
      (pss_one (ps_ret (pe_cmpR op_eq (pe_callB cr_lenX (by rfl) gL PySem.boot_len (pa_cons
          (pe_scX (own := [("street", 1)]) (g := gName 1) (tt := tYes) (te := tOp (rIxT K) (tVar 1) (tC (.int 0))) rfl scAreStreets.nd (pi_list (pv 0)) (blkOk_by (own := [("street", 1)]) (N := NC) (sc := defScope sAreStreets) (by decide +kernel))
            (fun _ _ _ _ _ => pg_name (i := 1) scAreStreets.nd rfl (Or.inl rfl)) (fun _ _ _ _ _ => pts_nil) (fun _ _ _ _ _ => pe_ix ix_tup (pv 1) pe_int (fun _ _ => rfl))) pa_nil)) (pe_callB call_len_seq (by rfl) gL PySem.boot_len (pa_cons (pv 0) pa_nil)) (nomark _))))), ?_⟩
    refine ⟨_, rfl, _, _, _, _, _, rfl, .ty _, .base (.lst hl.1), ktr (by decide +kernel), _, rfl, ifF (by decide) ?_⟩
    refine ⟨_, rfl, l, rfl, ⟨_, SqL.of hl.1⟩, fun D nD => ?_⟩
    refine lc_list (K := K) (a := l) (xs := ts.map fun t => V.ref t.1) (fun j H' => Same H H' ∧ H' D = some (.lst ((List.replicate j true).map V.bl))) ⟨same_upd nD, upd_same⟩ (fun j H' _ h => SqL.of (h.1 _ _ hl.1)) ?_ ?_
    · rintro j x H' hj ⟨s1, hD⟩
      rw [List.getElem?_map] at hj
      cases e : ts[j]? with
      | none =>
        rw [e] at hj
        cases hj
      | some t =>
        rw [e] at hj
        cases hj
        have tm := List.mem_of_getElem? e
        have lt := (List.getElem?_eq_some_iff.mp e).1
        refine ⟨rfl, _, rfl, t.1, t.2, rfl, s1 _ _ (hl.2 t tm), ok t tm, fun H2 s2 => ⟨_, s2 _ _ hD, by rw [List.length_map, List.length_replicate]; omega, fun b o eb => ?_, ?_⟩⟩
        · rw [upd_ne (ne_of_none eb nD)]
          exact s2 _ _ (s1 _ _ eb)
        · rw [upd_same, List.replicate_succ', List.map_append]
          rfl
    · rintro H1 ⟨s1, hD⟩
      refine ⟨D, List.replicate _ true, rfl, SqL.of hD, ?_⟩
      have e : (List.replicate (ts.map fun t => V.ref t.1).length true).all id = true := by simp
      rw [e]
      refine ⟨_, rfl, ifF (by decide) ?_⟩
      have hl1 := sts_keep hl s1
      refine ⟨_, rfl, l, rfl, ⟨_, SqL.of hl1.1⟩, fun S nS => ?_⟩
      refine scX_list (K := K) (a := l) (xs := ts.map fun t => V.ref t.1) (fun j H' => Same H1 H' ∧ H' S = some (SetX w S (((ts.map fun t => t.2.nm).take j).foldl TxSet.addL []))) ⟨same_upd nS, upd_same⟩ (fun j H' _ h => SqL.of (h.1 _ _ hl1.1)) ?_ ?_
      · rintro j x H' hj ⟨s2, hS⟩
        rw [List.getElem?_map] at hj
        cases e : ts[j]? with
        | none =>
          rw [e] at hj
          cases hj
        | some t =>
          rw [e] at hj
          cases hj
          have tm := List.mem_of_getElem? e
          have lt := (List.getElem?_eq_some_iff.mp e).1
          have en : (ts.map fun t => t.2.nm)[j]? = some t.2.nm := by
            rw [List.getElem?_map, e]
            rfl
          have et : (ts.map fun t => t.2.nm).take (j + 1) = (ts.map fun t => t.2.nm).take j ++ [t.2.nm] := by
            rw [List.take_add_one, en]
            rfl
          have ndj : ((ts.map fun t => t.2.nm).take j).Nodup := (List.take_sublist _ _).nodup nd
          have fl := TxSet.fold_fresh (ks := (ts.map fun t => t.2.nm).take j) (L := []) (by rw [List.append_nil]; exact ndj)
          refine ⟨rfl, _, rfl, t.1, _, ((0 : Nat) : Int), _, rfl, rfl, SqT.of (s2 _ _ (hl1.2 t tm)), atI_nat rfl, t.2.nm, _, rfl, hS, ?_, fun b o eb => ?_, ?_⟩
          · rw [fl, List.length_take, List.length_map]
            unfold scanBound
            simp only [List.length_nil]
            omega
          · rw [upd_ne (ne_of_none eb nS)]
            exact s2 _ _ eb
          · rw [upd_same, et, List.foldl_append]
            rfl
      · rintro H2 ⟨s2, hS⟩
        have fl := TxSet.fold_fresh (ks := ts.map fun t => t.2.nm) (L := []) (by rw [List.append_nil]; exact nd)
        have tk : (ts.map fun t => t.2.nm).take (ts.map fun t => V.ref t.1).length = ts.map fun t => t.2.nm := by
          rw [List.take_of_length_le]
          rw [List.length_map, List.length_map]
          exact Nat.le_refl _
        rw [tk] at hS
        have e3 : decide (V.int ((((ts.map fun t => t.2.nm).foldl TxSet.addL []).length : Nat) : Int) = V.int (((ts.map fun t => V.ref t.1).length : Nat) : Int)) = true := by
          rw [fl, List.length_map]
          simp
        refine ⟨S, _, rfl, hS, ?_, _, rfl, l, _, rfl, Or.inl (SqL.of (s2 _ _ hl1.1)), rfl, ?_⟩
        · rw [fl, List.length_map]
          unfold scanBound
          simp only [List.length_nil]
          omega
        · show Q (.bl (decide (V.int _ = V.int _))) H2
          rw [e3]
          exact q H2 (same_trans s1 s2)
theorem scChkStreets : FnScope ["value"] ["value"] (defScope sChkStreets) := ⟨rfl, rfl, rfl, by decide +kernel, rfl, by decide +kernel, by decide +kernel⟩
theorem ok_chkStreets {f : Addr} {fd : FuncData} (F : FnP K "check_streets" sChkStreets f fd) (GS : Fz P w K mg base "are_streets" 4 ["value"] (spAreStreets K)) (T : Tx K mg) : FnOk P w K mg base CX0 5 f fd ["value"] (spChkStreets K) := by
  refine F.ok scChkStreets (fun vs H Q E h => ?_) (fun cdv A outer s H vs Q E hr h => ?_)
  · obtain ⟨_, _, rfl, _⟩ := h
    rfl
  · obtain ⟨l, ts, rfl, hl, ok, nd, h100, q⟩ := h
    refine ⟨_, PSs.nox (pss_one (ps_if (pt_not (pt_val (pe_fz GS hr (by rfl) (pa_cons (pv 0) pa_nil)))) (pss_one ps_never) pss_nil)), ?_⟩
    exact ⟨_, rfl, l, ts, rfl, hl, ok, nd, h100, fun H' s => ⟨_, rfl, ifF (by decide) (q H' s)⟩⟩
end
end K13
end
section
set_option Elab.async false
set_option linter.all false
set_option maxRecDepth 100000
set_option maxHeartbeats 4000000
namespace K13
open PySem PySem.Spec PyProof.Rows L2
instance : DecidableEq S5 := fun a b => decidable_of_iff (a.nm = b.nm ∧ a.st = b.st ∧ a.en = b.en ∧ a.wd = b.wd ∧ a.ln = b.ln)
  ⟨fun h => by
    cases a
    cases b
    obtain ⟨h1, h2, h3, h4, h5⟩ := h
    cases h1
    cases h2
    cases h3
    cases h4
    cases h5
    rfl, fun h => by
    rw [h]
    exact ⟨rfl, rfl, rfl, rfl, rfl⟩⟩
/-! ### ascending lists -/
theorem perm_sorted {α : Type} {r : α → α → Prop} : ∀ {us vs : List α}, (∀ x ∈ us, ∀ y ∈ us, r x y → r y x → x = y) → us.Perm vs → us.Pairwise r → vs.Pairwise r → us = vs
  | [], vs, _, p, _, _ => (List.Perm.nil_eq p)
  | a :: us, [], _, p, _, _ => by
    have := p.length_eq
    simp at this
  | a :: us, b :: vs, h, p, h1, h2 => by
    have hab : a = b := by
      have ma : a ∈ b :: vs := p.mem_iff.mp List.mem_cons_self
      have mb : b ∈ a :: us := p.mem_iff.mpr List.mem_cons_self
      rcases List.mem_cons.mp ma with e | ma
      · exact e
      · rcases List.mem_cons.mp mb with e | mb
        · exact e.symm
        · exact h a List.mem_cons_self b (List.mem_cons_of_mem _ mb) ((List.pairwise_cons.mp h1).1 b mb) ((List.pairwise_cons.mp h2).1 a ma)
    subst hab
    rw [perm_sorted (fun x hx y hy => h x (List.mem_cons_of_mem _ hx) y (List.mem_cons_of_mem _ hy)) (List.Perm.cons_inv p) (List.pairwise_cons.mp h1).2 (List.pairwise_cons.mp h2).2]
/-- a is not behind b -/
abbrev leS (a b : Str) : Prop := SrtX.ltS b a = false
theorem str_ext {a b : Str} (h : a.cps.toList = b.cps.toList) : a = b := by
  cases a with
  | mk x =>
    cases b with
    | mk y =>
      have : x = y := Array.toList_inj.mp h
      rw [this]
theorem leS_antisymm {a b : Str} (h1 : leS a b) (h2 : leS b a) : a = b := by
  have a1 := List.not_lt.mp (of_decide_eq_false h1)
  have a2 := List.not_lt.mp (of_decide_eq_false h2)
  exact str_ext (List.le_antisymm a1 a2)
theorem leS_trans {a b c : Str} (h1 : leS a b) (h2 : leS b c) : leS a c := by
  have a1 := List.not_lt.mp (of_decide_eq_false h1)
  have a2 := List.not_lt.mp (of_decide_eq_false h2)
  exact decide_eq_false (List.not_lt.mpr (List.le_trans a1 a2))
abbrev Asc (ws : List Str) : Prop := ws.Pairwise leS
theorem asc_rising : ∀ {r : List Str} {p : Str}, risingS p r = true → (∀ x ∈ r, leS p x) ∧ Asc r
  | [], _, _ => ⟨fun x h => by simp at h, List.Pairwise.nil⟩
  | x :: r, p, h => by
    have h := Bool.and_eq_true_iff.mp h
    have h1 : leS p x := by
      have e := h.1
      rw [ltCps_eq] at e
      show decide (x.cps.toList < p.cps.toList) = false
      revert e
      cases decide (x.cps.toList < p.cps.toList) <;> simp
    obtain ⟨h2, h3⟩ := asc_rising h.2
    refine ⟨fun y hy => ?_, List.pairwise_cons.mpr ⟨h2, h3⟩⟩
    rcases List.mem_cons.mp hy with e | hy
    · rw [e]
      exact h1
    · exact leS_trans h1 (h2 y hy)
theorem asc_of_sortedS : ∀ {ws : List Str}, sortedS ws = true → Asc ws
  | [], _ => List.Pairwise.nil
  | x :: r, h => List.pairwise_cons.mpr (asc_rising h)
theorem asc_uniq {us vs : List Str} (p : us.Perm vs) (h1 : Asc us) (h2 : Asc vs) : us = vs := perm_sorted (fun _ _ _ _ a b => leS_antisymm a b) p h1 h2
theorem perm_of_mem {α : Type} {us vs : List α} (n1 : us.Nodup) (n2 : vs.Nodup) (h : ∀ x, x ∈ us ↔ x ∈ vs) : us.Perm vs := (List.perm_ext_iff_of_nodup n1 n2).mpr (fun {x} => h x)
theorem asc_ext {us vs : List Str} (n1 : us.Nodup) (n2 : vs.Nodup) (h : ∀ x, x ∈ us ↔ x ∈ vs) (h1 : Asc us) (h2 : Asc vs) : us = vs := asc_uniq (perm_of_mem n1 n2 h) h1 h2
theorem nodup_inj {α β : Type} {g : α → β} : ∀ {l : List α}, (l.map g).Nodup → ∀ x ∈ l, ∀ y ∈ l, g x = g y → x = y
  | [], _, x, hx, _, _, _ => by simp at hx
  | a :: l, h, x, hx, y, hy, e => by
    rw [List.map_cons] at h
    obtain ⟨h1, h2⟩ := List.nodup_cons.mp h
    rcases List.mem_cons.mp hx with ex | hx
    · rcases List.mem_cons.mp hy with ey | hy
      · rw [ex, ey]
      · exact absurd (List.mem_map.mpr ⟨y, hy, by rw [← e, ex]⟩) h1
    · rcases List.mem_cons.mp hy with ey | hy
      · exact absurd (List.mem_map.mpr ⟨x, hx, by rw [e, ey]⟩) h1
      · exact nodup_inj h2 x hx y hy e
abbrev nms (ss : List S5) : List Str := ss.map S5.nm
abbrev Asc5 (ss : List S5) : Prop := ss.Pairwise fun a b => leS a.nm b.nm
theorem asc5_uniq {us vs : List S5} (n : (nms us).Nodup) (p : us.Perm vs) (h1 : Asc5 us) (h2 : Asc5 vs) : us = vs := perm_sorted (fun x hx y hy a b => nodup_inj n x hx y hy (leS_antisymm a b)) p h1 h2
/-! ### streets as data -/
theorem eqv_s5 (a b : S5) : PyData.eqv a.data b.data = decide (a = b) := by
  obtain ⟨n, s, e, w, l⟩ := a
  obtain ⟨n', s', e', w', l'⟩ := b
  have k : PyData.eqv (S5.data ⟨n, s, e, w, l⟩) (S5.data ⟨n', s', e', w', l'⟩) = ((n == n') && ((s == s') && ((e == e') && ((w == w') && ((l == l') && true))))) := by
    simp only [S5.data, PyData.eqv, PyData.eqvAll]
  rw [k]
  by_cases h : (⟨n, s, e, w, l⟩ : S5) = ⟨n', s', e', w', l'⟩
  · cases h
    simp
  · rw [decide_eq_false h]
    apply Bool.eq_false_iff.mpr
    intro z
    simp only [Bool.and_eq_true, beq_iff_eq, and_true] at z
    obtain ⟨rfl, rfl, rfl, rfl, rfl⟩ := z
    exact h rfl
theorem eqvAll_s5 : ∀ ss ss' : List S5, PyData.eqvAll (ss.map S5.data) (ss'.map S5.data) = decide (ss = ss')
  | [], [] => by simp [PyData.eqvAll]
  | [], _ :: _ => by simp [PyData.eqvAll]
  | _ :: _, [] => by simp [PyData.eqvAll]
  | a :: ss, b :: ss' => by
    rw [List.map_cons, List.map_cons, PyData.eqvAll, eqv_s5, eqvAll_s5 ss ss']
    by_cases h1 : a = b
    · by_cases h2 : ss = ss'
      · simp [h1, h2]
      · simp [h1, h2]
    · simp [h1]
theorem eqv_sts (ss ss' : List S5) : PyData.eqv (.list (ss.map S5.data)) (.list (ss'.map S5.data)) = decide (ss = ss') := by
  rw [PyData.eqv, eqvAll_s5]
theorem eqvAll_strs : ∀ us vs : List Str, PyData.eqvAll (us.map PyData.str) (vs.map PyData.str) = decide (us = vs)
  | [], [] => by simp [PyData.eqvAll]
  | [], _ :: _ => by simp [PyData.eqvAll]
  | _ :: _, [] => by simp [PyData.eqvAll]
  | a :: ss, b :: ss' => by
    rw [List.map_cons, List.map_cons, PyData.eqvAll, eqvAll_strs ss ss', PyData.eqv]
    by_cases h1 : a = b
    · by_cases h2 : ss = ss'
      · simp [h1, h2]
      · simp [h1, h2]
    · simp [h1]
theorem eqv_strs (us vs : List Str) : PyData.eqv (.list (us.map PyData.str)) (.list (vs.map PyData.str)) = decide (us = vs) := by
  rw [PyData.eqv, eqvAll_strs]
end K13
end
section
set_option Elab.async false
set_option linter.all false
set_option maxRecDepth 100000
set_option maxHeartbeats 8000000
namespace K13
open PySem PySem.Spec PyProof.Rows L2
/-! ### values that are data, told by the heap -/
mutual
inductive Dt (H : Hp) : V → PyData → Prop
  | bl (b : Bool) : Dt H (.bl b) (.bool b)
  | int (i : Int) : Dt H (.int i) (.int i)
  | str (x : Str) : Dt H (.str x) (.str x)
  | lst {a : Addr} {xs : List V} {ds : List PyData} (h : H a = some (.lst xs)) (hs : DtAll H xs ds) : Dt H (.ref a) (.list ds)
  | tup {a : Addr} {xs : List V} {ds : List PyData} (h : H a = some (.tup xs)) (hs : DtAll H xs ds) : Dt H (.ref a) (.tuple ds)
inductive DtAll (H : Hp) : List V → List PyData → Prop
  | nil : DtAll H [] []
  | cons {v : V} {vs : List V} {d : PyData} {ds : List PyData} (h : Dt H v d) (hs : DtAll H vs ds) : DtAll H (v :: vs) (d :: ds)
end
mutual
theorem Dt.keep {H H' : Hp} (s : Same H H') : ∀ (d : PyData) (v : V), Dt H v d → Dt H' v d
  | .none, _, h => by cases h
  | .bool b, _, h => by cases h; exact .bl b
  | .int i, _, h => by cases h; exact .int i
  | .str x, _, h => by cases h; exact .str x
  | .list ds, _, h => by
    cases h with
    | lst h hs => exact .lst (s _ _ h) (DtAll.keep s ds _ hs)
  | .tuple ds, _, h => by
    cases h with
    | tup h hs => exact .tup (s _ _ h) (DtAll.keep s ds _ hs)
  | .dict ds, _, h => by cases h
theorem DtAll.keep {H H' : Hp} (s : Same H H') : ∀ (ds : List PyData) (vs : List V), DtAll H vs ds → DtAll H' vs ds
  | [], _, h => by cases h; exact .nil
  | d :: ds, _, h => by
    cases h with
    | cons h hs => exact .cons (Dt.keep s d _ h) (DtAll.keep s ds _ hs)
end
theorem DtAll.len {H : Hp} : ∀ {vs : List V} {ds : List PyData}, DtAll H vs ds → vs.length = ds.length
  | [], _, h => by cases h; rfl
  | _ :: _, _, h => by
    cases h with
    | cons _ hs => rw [List.length_cons, List.length_cons, hs.len]
theorem DtAll.get {H : Hp} : ∀ {vs : List V} {ds : List PyData} {i : Nat} {v : V}, DtAll H vs ds → vs[i]? = some v → ∃ d, ds[i]? = some d ∧ Dt H v d
  | [], _, i, v, _, e => by simp at e
  | x :: vs, _, 0, v, h, e => by
    cases h with
    | cons h hs =>
      cases e
      exact ⟨_, rfl, h⟩
  | x :: vs, _, i + 1, v, h, e => by
    cases h with
    | cons h hs =>
      obtain ⟨d, e2, h2⟩ := hs.get (i := i) (v := v) (by simpa using e)
      exact ⟨d, by simpa using e2, h2⟩
theorem depthAll_get : ∀ {ds : List PyData} {i : Nat} {d : PyData}, ds[i]? = some d → PyData.depth d ≤ PyData.depthAll ds
  | [], i, d, e => by simp at e
  | x :: ds, 0, d, e => by
    cases e
    exact Nat.le_max_left _ _
  | x :: ds, i + 1, d, e => Nat.le_trans (depthAll_get (i := i) (by simpa using e)) (Nat.le_max_right _ _)
mutual
/-- no list of it is longer -/
def wid : PyData → Nat
  | .list ds => max ds.length (widAll ds)
  | .tuple ds => max ds.length (widAll ds)
  | _ => 0
def widAll : List PyData → Nat
  | [] => 0
  | d :: ds => max (wid d) (widAll ds)
end
theorem widAll_get : ∀ {ds : List PyData} {i : Nat} {d : PyData}, ds[i]? = some d → wid d ≤ widAll ds
  | [], i, d, e => by simp at e
  | x :: ds, 0, d, e => by
    cases e
    rw [widAll]
    exact Nat.le_max_left _ _
  | x :: ds, i + 1, d, e => by
    rw [widAll]
    exact Nat.le_trans (widAll_get (i := i) (by simpa using e)) (Nat.le_max_right _ _)
/-- the tuples of a zip -/
theorem walk_zipT {K : PySem.W.Frag} {a b : Addr} {xs ys : List V} {n : Nat} (hn : n = min xs.length ys.length) : Walk (RZ.ItzT K a b) n (fun H => SqT K H a xs ∧ SqT K H b ys) (YPair (fun i => xs[i]?) (fun i => ys[i]?)) := by
  subst hn
  refine ⟨fun i _ hi q => ?_, fun _ q => ⟨xs, ys, q.1, q.2, by omega⟩, fun i H v H' _ q y => ?_⟩
  · have h1 : i < xs.length := by omega
    have h2 : i < ys.length := by omega
    exact ⟨xs, ys, xs[i], ys[i], q.1, q.2, by simp [h1], by simp [h2]⟩
  · obtain ⟨T, x, z, h1, h2, h3, h4, h5⟩ := y
    exact ⟨T, x, z, h1, h2, h3, h4 xs q.1, h5 ys q.2⟩
/-- both are the same data of at most n levels -/
def spExact (n : Nat) : Sp := fun vs H Q _ => ∃ (x y : V) (d : PyData), vs = [x, y] ∧ Dt H x d ∧ Dt H y d ∧ PyData.depth d ≤ n ∧ wid d ≤ 1000 ∧ ∀ H', Same H H' → Q (.bl true) H'
abbrev NX : List Str := ["_law_one", "_law_other", "_law_alike", "_law_a", "_law_b"]
theorem scExact : FnScope NX ["_law_one", "_law_other"] (defScope sExact) := ⟨rfl, rfl, rfl, by decide +kernel, rfl, by decide +kernel, by decide +kernel⟩
inductive TyD : V → PyData → String → Prop
  | bl (b : Bool) : TyD (.bl b) (.bool b) "bool"
  | int (i : Int) : TyD (.int i) (.int i) "int"
  | str (x : Str) : TyD (.str x) (.str x) "str"
section
variable {P : Program} {w : World} {K : PySem.W.Frag} {mg : Str → Option Value} {base : Heap}
theorem same_new {H H' : Hp} {a : Addr} {o : HO} (s : Same H H') (n : H' a = none) : Same H (upd H' a o) := same_trans s (same_upd n)
theorem ok_exact {f : Addr} {fd : FuncData} (F : FnP K "_law_exact" sExact f fd) (hm : mg "_law_exact" = some (.ref f)) (hk : PySem.W.keepIn K (.ref f) = true) (hb : Binds K fd ["_law_one", "_law_other"] []) (T : Tx K mg) :
    ∀ n, FnOk P w K mg base CX0 (n + 1) f fd ["_law_one", "_law_other"] (spExact n) := by
  intro n
  induction n with
  | zero =>
    refine F.ok scExact (fun vs H Q E h => ?_) (fun cdv A outer s H vs Q E hr h => ?_)
    · obtain ⟨_, _, _, rfl, _⟩ := h
      rfl
    · obtain ⟨x, y, d, rfl, hx, hy, hd, hw, q⟩ := h
      have gIs := T.fr "isinstance" (by decide +kernel)
      have gLi := T.fr "list" (by decide +kernel)
      have gTu := T.fr "tuple" (by decide +kernel)
      have gDi := T.fr "dict" (by decide +kernel)
      have gBo := T.fr "bool" (by decide +kernel)
      refine ⟨_, PSs.nox (pss_cons (ps_if (pt_val (pe_callB call_isiT (by rfl) gIs (by decide +kernel) (pa_cons (pv 0) (pa_cons (pe_tup (pa_cons (pe_bltn (v := .ty "list") (by rfl) gLi (by decide +kernel) rfl) (pa_cons (pe_bltn (v := .ty "tuple") (by rfl) gTu (by decide +kernel) rfl) pa_nil))) pa_nil)))) (pss_cons ps_never (pss_one ps_never)) pss_nil)
        (pss_cons (ps_if (pt_val (pe_callB call_isi (by rfl) gIs (by decide +kernel) (pa_cons (pv 0) (pa_cons (pe_bltn (v := .ty "dict") (by rfl) gDi (by decide +kernel) rfl) pa_nil)))) (pss_cons ps_never (pss_one ps_never)) pss_nil)
        (pss_one (ps_ret (pe_and (pe_cmpR op_eq (pe_callB call_isi (by rfl) gIs (by decide +kernel) (pa_cons (pv 0) (pa_cons (pe_bltn (v := .ty "bool") (by rfl) gBo (by decide +kernel) rfl) pa_nil))) (pe_callB call_isi (by rfl) gIs (by decide +kernel) (pa_cons (pv 1) (pa_cons (pe_bltn (v := .ty "bool") (by rfl) gBo (by decide +kernel) rfl) pa_nil))) (nomark _)) (pe_one (pe_cmpR op_eq (pv 0) (pv 1) (nomark _)))))))), ?_⟩
      have kd : ∃ (t : String) (b : Bool), (∀ H, TyX K H x (.type t)) ∧ x = y ∧ scal x x = true ∧ kitB t "list" = some false ∧ kitB t "tuple" = some false ∧ kitB t "dict" = some false ∧ kitB t "bool" = some b := by
        cases hx with
        | bl b =>
          cases hy
          exact ⟨"bool", true, fun H => .base (.bl b), rfl, rfl, by decide +kernel, by decide +kernel, by decide +kernel, by decide +kernel⟩
        | int b =>
          cases hy
          exact ⟨"int", false, fun H => .base (.int b), rfl, rfl, by decide +kernel, by decide +kernel, by decide +kernel, by decide +kernel⟩
        | str b =>
          cases hy
          exact ⟨"str", false, fun H => .base (.str b), rfl, rfl, by decide +kernel, by decide +kernel, by decide +kernel, by decide +kernel⟩
        | lst h hs =>
          simp [PyData.depth] at hd
        | tup h hs =>
          simp [PyData.depth] at hd
      obtain ⟨t, b, ty, e, e2, k1, k2, k3, k4⟩ := kd
      subst e
      refine ⟨_, rfl, (by show 2 ≤ sizeLine; decide +kernel), fun tp ntp => ?_⟩
      refine ⟨_, _, _, _, _, _, rfl, upd_same, .cons (.ty _) (.cons (.ty _) .nil), ty _, kitAny_cons (kit_ty k1) (fun _ => kitAny_cons (kit_ty k2) (fun _ => kitAny_nil) (fun z => nomatch z)) (fun z => nomatch z), _, rfl, ifF (by decide) ?_⟩
      refine ⟨_, rfl, _, _, _, _, _, rfl, .ty _, ty _, kit_ty k3, _, rfl, ifF (by decide) ?_⟩
      refine ⟨_, rfl, _, _, _, _, _, rfl, .ty _, ty _, kit_ty k4, _, rfl, _, _, _, _, _, rfl, .ty _, ty _, kit_ty k4, rfl, _, rfl, ifT (by simp) ?_⟩
      refine ⟨_, rfl, _, rfl, e2, ?_⟩
      rw [decide_eq_true rfl]
      exact q _ (same_upd ntp)
  | succ n ih =>
    refine F.ok scExact (fun vs H Q E h => ?_) (fun cdv A outer s H vs Q E hr h => ?_)
    · obtain ⟨_, _, _, rfl, _⟩ := h
      rfl
    · obtain ⟨x, y, d, rfl, hx, hy, hd, hw, q⟩ := h
      have gIs := T.fr "isinstance" (by decide +kernel)
      have gLi := T.fr "list" (by decide +kernel)
      have gTu := T.fr "tuple" (by decide +kernel)
      have gDi := T.fr "dict" (by decide +kernel)
      have gL := T.fr "len" (by decide +kernel)
      have gA := T.fr "all" (by decide +kernel)
      have gZ := T.fr "zip" (by decide +kernel)
      have GR : Fz P w K mg base "_law_exact" (n + 1) ["_law_one", "_law_other"] (spExact n) := ⟨f, fd, ih, hm, hk, hb⟩
      have gBo := T.fr "bool" (by decide +kernel)
      refine ⟨_, PSs.nox (pss_cons (ps_if (pt_val (pe_callB call_isiT (by rfl) gIs (by decide +kernel) (pa_cons (pv 0) (pa_cons (pe_tup (pa_cons (pe_bltn (v := .ty "list") (by rfl) gLi (by decide +kernel) rfl) (pa_cons (pe_bltn (v := .ty "tuple") (by rfl) gTu (by decide +kernel) rfl) pa_nil))) pa_nil)))) (pss_cons (ps_set (i := 2) scExact.nd rfl (Or.inl rfl) (pe_and (pe_cmpR op_eq (pe_callB call_isi (by rfl) gIs (by decide +kernel) (pa_cons (pv 1) (pa_cons (pe_bltn (v := .ty "list") (by rfl) gLi (by decide +kernel) rfl) pa_nil))) (pe_callB call_isi (by rfl) gIs (by decide +kernel) (pa_cons (pv 0) (pa_cons (pe_bltn (v := .ty "list") (by rfl) gLi (by decide +kernel) rfl) pa_nil))) (nomark _)) (pe_one (pe_cmpR op_eq (pe_callB call_isi (by rfl) gIs (by decide +kernel) (pa_cons (pv 1) (pa_cons (pe_bltn (v := .ty "tuple") (by rfl) gTu (by decide +kernel) rfl) pa_nil))) (pe_callB call_isi (by rfl) gIs (by decide +kernel) (pa_cons (pv 0) (pa_cons (pe_bltn (v := .ty "tuple") (by rfl) gTu (by decide +kernel) rfl) pa_nil))) (nomark _)))))
          (pss_one (ps_ret (pe_and (pv 2) (pe_and (pe_cmpR op_eq (pe_callB call_len_seq (by rfl) gL PySem.boot_len (pa_cons (pv 0) pa_nil)) (pe_callB call_len_seq (by rfl) gL PySem.boot_len (pa_cons (pv 1) pa_nil)) (nomark _)) (pe_one (pe_callB (cr_all rfl) (by rfl) gA (by decide +kernel)
            (pa_cons (pe_lc (own := [("_law_a", 3), ("_law_b", 4)]) (g := gTup K 2 (gCons (gName 3) (gCons (gName 4) gNil))) (tt := tYes) rfl scExact.nd (RZ.pi_zipA (by rfl) gZ (pa_cons (pv 0) (pa_cons (pv 1) pa_nil))) (blkOk_by (own := [("_law_a", 3), ("_law_b", 4)]) (N := NX) (sc := defScope sExact) (by decide +kernel))
              (fun _ _ _ _ _ => pg_tup rfl (pgs_cons (pg_name (i := 3) scExact.nd rfl (Or.inl rfl)) (pgs_cons (pg_name (i := 4) scExact.nd rfl (Or.inl rfl)) pgs_nil))) (fun _ _ _ _ _ => pts_nil) (fun _ _ _ _ _ => pe_fz GR hr (by rfl) (pa_cons (pv 3) (pa_cons (pv 4) pa_nil)))) pa_nil)))))))) pss_nil)
        (pss_cons (ps_if (pt_val (pe_callB call_isi (by rfl) gIs (by decide +kernel) (pa_cons (pv 0) (pa_cons (pe_bltn (v := .ty "dict") (by rfl) gDi (by decide +kernel) rfl) pa_nil)))) (pss_cons ps_never (pss_one ps_never)) pss_nil)
        (pss_one (ps_ret (pe_and (pe_cmpR op_eq (pe_callB call_isi (by rfl) gIs (by decide +kernel) (pa_cons (pv 0) (pa_cons (pe_bltn (v := .ty "bool") (by rfl) gBo (by decide +kernel) rfl) pa_nil))) (pe_callB call_isi (by rfl) gIs (by decide +kernel) (pa_cons (pv 1) (pa_cons (pe_bltn (v := .ty "bool") (by rfl) gBo (by decide +kernel) rfl) pa_nil))) (nomark _)) (pe_one (pe_cmpR op_eq (pv 0) (pv 1) (nomark _)))))))), ?_⟩
      have kd : (∃ (t : String) (b : Bool), (∀ H, TyX K H x (.type t)) ∧ x = y ∧ scal x x = true ∧ kitB t "list" = some false ∧ kitB t "tuple" = some false ∧ kitB t "dict" = some false ∧ kitB t "bool" = some b) ∨ (∃ a b xs ys ds, x = .ref a ∧ y = .ref b ∧ H a = some (.lst xs) ∧ H b = some (.lst ys) ∧ DtAll H xs ds ∧ DtAll H ys ds ∧ PyData.depthAll ds ≤ n ∧ ds.length ≤ 1000 ∧ widAll ds ≤ 1000) ∨ (∃ a b xs ys ds, x = .ref a ∧ y = .ref b ∧ H a = some (.tup xs) ∧ H b = some (.tup ys) ∧ DtAll H xs ds ∧ DtAll H ys ds ∧ PyData.depthAll ds ≤ n ∧ ds.length ≤ 1000 ∧ widAll ds ≤ 1000) := by
        cases hx with
        | bl b =>
          cases hy
          exact .inl ⟨"bool", true, fun H => .base (.bl b), rfl, rfl, by decide +kernel, by decide +kernel, by decide +kernel, by decide +kernel⟩
        | int b =>
          cases hy
          exact .inl ⟨"int", false, fun H => .base (.int b), rfl, rfl, by decide +kernel, by decide +kernel, by decide +kernel, by decide +kernel⟩
        | str b =>
          cases hy
          exact .inl ⟨"str", false, fun H => .base (.str b), rfl, rfl, by decide +kernel, by decide +kernel, by decide +kernel, by decide +kernel⟩
        | lst h hs =>
          cases hy with
          | lst h2 hs2 =>
            rw [PyData.depth] at hd
            rw [wid] at hw
            exact .inr (.inl ⟨_, _, _, _, _, rfl, rfl, h, h2, hs, hs2, by omega, by omega, by omega⟩)
        | tup h hs =>
          cases hy with
          | tup h2 hs2 =>
            rw [PyData.depth] at hd
            rw [wid] at hw
            exact .inr (.inr ⟨_, _, _, _, _, rfl, rfl, h, h2, hs, hs2, by omega, by omega, by omega⟩)
      rcases kd with kd | ⟨a, b, xs, ys, ds, rfl, rfl, ha, hb', hs, hs2, hd, hl, hw⟩ | ⟨a, b, xs, ys, ds, rfl, rfl, ha, hb', hs, hs2, hd, hl, hw⟩
      · obtain ⟨t, b, ty, e, e2, k1, k2, k3, k4⟩ := kd
        subst e
        refine ⟨_, rfl, (by show 2 ≤ sizeLine; decide +kernel), fun tp ntp => ?_⟩
        refine ⟨_, _, _, _, _, _, rfl, upd_same, .cons (.ty _) (.cons (.ty _) .nil), ty _, kitAny_cons (kit_ty k1) (fun _ => kitAny_cons (kit_ty k2) (fun _ => kitAny_nil) (fun z => nomatch z)) (fun z => nomatch z), _, rfl, ifF (by decide) ?_⟩
        refine ⟨_, rfl, _, _, _, _, _, rfl, .ty _, ty _, kit_ty k3, _, rfl, ifF (by decide) ?_⟩
        refine ⟨_, rfl, _, _, _, _, _, rfl, .ty _, ty _, kit_ty k4, _, rfl, _, _, _, _, _, rfl, .ty _, ty _, kit_ty k4, rfl, _, rfl, ifT (by simp) ?_⟩
        refine ⟨_, rfl, _, rfl, e2, ?_⟩
        rw [decide_eq_true rfl]
        exact q _ (same_upd ntp)
      · have sl := sizeLine_eq
        have lx := hs.len
        have ly := hs2.len
        refine ⟨_, rfl, (by show 2 ≤ sizeLine; decide +kernel), fun tp ntp => ?_⟩
        have s0 := same_upd (o := HO.tup [V.ty "list", V.ty "tuple"]) ntp
        refine ⟨_, _, _, _, _, _, rfl, upd_same, .cons (.ty _) (.cons (.ty _) .nil), .base (.lst (s0 _ _ ha)), kitAny_cons (kit_ty (r := true) (by decide +kernel)) (fun z => nomatch z) (fun _ => rfl), _, rfl, ifT rfl ?_⟩
        generalize upd H tp (.tup [V.ty "list", V.ty "tuple"]) = H1 at s0 ⊢
        have ha1 := s0 _ _ ha
        have hb1 := s0 _ _ hb'
        refine ⟨_, rfl, _, _, _, _, _, rfl, .ty _, .base (.lst hb1), kit_ty (r := true) (by decide +kernel), _, rfl, _, _, _, _, _, rfl, .ty _, .base (.lst ha1), kit_ty (r := true) (by decide +kernel), rfl, _, rfl, ifT (by simp) ?_⟩
        refine ⟨_, rfl, _, _, _, _, _, rfl, .ty _, .base (.lst hb1), kit_ty (r := false) (by decide +kernel), _, rfl, _, _, _, _, _, rfl, .ty _, .base (.lst ha1), kit_ty (r := false) (by decide +kernel), rfl, ?_⟩
        refine ⟨_, rfl, _, rfl, ifT (by simp) ?_⟩
        refine ⟨_, rfl, a, xs, rfl, Or.inl (SqL.of ha1), _, rfl, b, ys, rfl, Or.inl (SqL.of hb1), rfl, _, rfl, ifT ?_ ?_⟩
        · rw [lx, ly]
          simp
        refine ⟨_, rfl, _, rfl, a, b, xs, ys, rfl, Or.inl ⟨SqL.of ha1, SqL.of hb1, fun D nD => ?_⟩⟩
        refine lc_it (walk_zip (K := K) (a := a) (b := b) (xs := xs) (ys := ys) (n := ds.length) (by omega)) (fun j H' => Same H1 H' ∧ H' D = some (.lst ((List.replicate j true).map V.bl))) ⟨same_upd nD, upd_same⟩ (fun j H' _ h => ⟨SqL.of (h.1 _ _ ha1), SqL.of (h.1 _ _ hb1)⟩) ?_ ?_
        · rintro j v H2 H3 hj ⟨s1, hD⟩ ⟨Tp, u, z, rfl, nT, rfl, hu, hz⟩
          obtain ⟨d, hd1, hd2⟩ := hs.get hu
          obtain ⟨d', hd3, hd4⟩ := hs2.get hz
          rw [hd1] at hd3
          cases hd3
          have s3 := same_upd (o := HO.tup [u, z]) nT
          have hT : upd H2 Tp (.tup [u, z]) Tp = some (.tup [u, z]) := upd_same
          generalize upd H2 Tp (.tup [u, z]) = H3 at s3 hT ⊢
          have s13 := same_trans s0 (same_trans s1 s3)
          refine ⟨Tp, _, rfl, SqT.of hT, rfl, _, _, rfl, _, _, rfl, rfl, rfl, _, rfl, _, rfl, u, z, d, rfl, hd2.keep s13, hd4.keep s13, Nat.le_trans (depthAll_get hd1) hd, Nat.le_trans (widAll_get hd1) hw, fun H4 s4 => ?_⟩
          have hD4 := s4 _ _ (s3 _ _ hD)
          refine ⟨_, hD4, by rw [List.length_map, List.length_replicate]; omega, fun b o eb => ?_, ?_⟩
          · rw [upd_ne (ne_of_none eb nD)]
            exact s4 _ _ (s3 _ _ (s1 _ _ eb))
          · rw [upd_same, List.replicate_succ', List.map_append]
            rfl
        · rintro H2 ⟨s1, hD⟩
          refine ⟨D, List.replicate _ true, rfl, SqL.of hD, ?_⟩
          have e : (List.replicate ds.length true).all id = true := by simp
          rw [e]
          exact q H2 (same_trans s0 s1)
      · have sl := sizeLine_eq
        have lx := hs.len
        have ly := hs2.len
        refine ⟨_, rfl, (by show 2 ≤ sizeLine; decide +kernel), fun tp ntp => ?_⟩
        have s0 := same_upd (o := HO.tup [V.ty "list", V.ty "tuple"]) ntp
        refine ⟨_, _, _, _, _, _, rfl, upd_same, .cons (.ty _) (.cons (.ty _) .nil), .base (.tup (s0 _ _ ha)), kitAny_cons (kit_ty (r := false) (by decide +kernel)) (fun _ => kitAny_cons (kit_ty (r := true) (by decide +kernel)) (fun z => nomatch z) (fun _ => rfl)) (fun z => nomatch z), _, rfl, ifT rfl ?_⟩
        generalize upd H tp (.tup [V.ty "list", V.ty "tuple"]) = H1 at s0 ⊢
        have ha1 := s0 _ _ ha
        have hb1 := s0 _ _ hb'
        refine ⟨_, rfl, _, _, _, _, _, rfl, .ty _, .base (.tup hb1), kit_ty (r := false) (by decide +kernel), _, rfl, _, _, _, _, _, rfl, .ty _, .base (.tup ha1), kit_ty (r := false) (by decide +kernel), rfl, _, rfl, ifT (by simp) ?_⟩
        refine ⟨_, rfl, _, _, _, _, _, rfl, .ty _, .base (.tup hb1), kit_ty (r := true) (by decide +kernel), _, rfl, _, _, _, _, _, rfl, .ty _, .base (.tup ha1), kit_ty (r := true) (by decide +kernel), rfl, ?_⟩
        refine ⟨_, rfl, _, rfl, ifT (by simp) ?_⟩
        refine ⟨_, rfl, a, xs, rfl, Or.inr (SqT.of ha1), _, rfl, b, ys, rfl, Or.inr (SqT.of hb1), rfl, _, rfl, ifT ?_ ?_⟩
        · rw [lx, ly]
          simp
        refine ⟨_, rfl, _, rfl, a, b, xs, ys, rfl, Or.inr ⟨SqT.of ha1, SqT.of hb1, fun D nD => ?_⟩⟩
        refine lc_it (walk_zipT (K := K) (a := a) (b := b) (xs := xs) (ys := ys) (n := ds.length) (by omega)) (fun j H' => Same H1 H' ∧ H' D = some (.lst ((List.replicate j true).map V.bl))) ⟨same_upd nD, upd_same⟩ (fun j H' _ h => ⟨SqT.of (h.1 _ _ ha1), SqT.of (h.1 _ _ hb1)⟩) ?_ ?_
        · rintro j v H2 H3 hj ⟨s1, hD⟩ ⟨Tp, u, z, rfl, nT, rfl, hu, hz⟩
          obtain ⟨d, hd1, hd2⟩ := hs.get hu
          obtain ⟨d', hd3, hd4⟩ := hs2.get hz
          rw [hd1] at hd3
          cases hd3
          have s3 := same_upd (o := HO.tup [u, z]) nT
          have hT : upd H2 Tp (.tup [u, z]) Tp = some (.tup [u, z]) := upd_same
          generalize upd H2 Tp (.tup [u, z]) = H3 at s3 hT ⊢
          have s13 := same_trans s0 (same_trans s1 s3)
          refine ⟨Tp, _, rfl, SqT.of hT, rfl, _, _, rfl, _, _, rfl, rfl, rfl, _, rfl, _, rfl, u, z, d, rfl, hd2.keep s13, hd4.keep s13, Nat.le_trans (depthAll_get hd1) hd, Nat.le_trans (widAll_get hd1) hw, fun H4 s4 => ?_⟩
          have hD4 := s4 _ _ (s3 _ _ hD)
          refine ⟨_, hD4, by rw [List.length_map, List.length_replicate]; omega, fun b o eb => ?_, ?_⟩
          · rw [upd_ne (ne_of_none eb nD)]
            exact s4 _ _ (s3 _ _ (s1 _ _ eb))
          · rw [upd_same, List.replicate_succ', List.map_append]
            rfl
        · rintro H2 ⟨s1, hD⟩
          refine ⟨D, List.replicate _ true, rfl, SqL.of hD, ?_⟩
          have e : (List.replicate ds.length true).all id = true := by simp
          rw [e]
          exact q H2 (same_trans s0 s1)
end
end K13
end
section
set_option Elab.async false
set_option linter.all false
set_option maxRecDepth 100000
set_option maxHeartbeats 4000000
/-! == and != where one side is an instance of a class with an own == (and no own !=), the other side anything of the common kinds. -/
namespace OwnQ
open PySem PySem.Spec PyProof.Rows PySem.W
/-- what is known of the class -/
structure Facts (K : Frag) (C fE : Addr) : Prop where
  eq : findIn K (.ref C) "__eq__" = some (some (.ref fE))
  fn : isFn K (.ref fE) = true
  ne : findIn K (.ref C) "__ne__" = some (some (.builtin "object.__ne__"))
  ob : subIn K (.ref C) (.type "object") = some true
  sN : subIn K (.ref C) (.type "NoneType") = some false
  sI : subIn K (.ref C) (.type "int") = some false
  sB : subIn K (.ref C) (.type "bool") = some false
  sS : subIn K (.ref C) (.type "str") = some false
  sL : subIn K (.ref C) (.type "list") = some false
  sT : subIn K (.ref C) (.type "tuple") = some false
  sD : subIn K (.ref C) (.type "dict") = some false
section
variable {prog : Program} {w : World} {A : Around} {E : Value → Shared → Prop} {s : Shared} {K : Frag} {x y C f : Addr} {ox oy : Obj} {od : Option Obj} {name : Str} {b tb : Value} {id : String}
theorem ifBound_B {M : Model} {args : List Value} {Q : Option Value → Shared → Prop} (X : K.In s.heap) (I : InstAt s.heap x ox C od) (hs : findIn K (.ref C) name = some (some (.builtin id))) (hb : ∀ self, bindSpecial (.builtin id) self = pure (.builtin id, [self]))
    (h : wpAny M A (call (.builtin id) (.ref x :: args)) (fun v => Q (some v)) E s) : wpAny M A (callSpecialIfBound? (.ref x) name args) Q E s := by
  simp only [callSpecialIfBound?, bindSpecialIfBound?]
  refine wpAny_holding (wpAny_bind (wpAny_bind (wpAny_bind (I.type.here ((looks_findIn X hs).here ?_)))))
  simp only [hb]
  refine wpAny_bind (wpAny_askSetting (wpAny_ite ?_))
  have fin : wpAny M A (call (.builtin id) ([.ref x] ++ args) >>= fun v => pure (some v)) Q E s := wpAny_bind (wpAny_mono h (fun v s' h' => wpAny_pure h') fun _ _ h' => h')
  split
  · exact wpAny_bind (wpAny_pure (wpAny_pure fin))
  · exact wpAny_tryCatch (wpAny_bind (wpAny_pure (wpAny_pure fin)))
theorem check_inst {M : Model} {owner n : String} {rest : List Value} {Q : Unit → Shared → Prop} (X : K.In s.heap) (I : InstAt s.heap x ox C od) (hk : builtinKind id = some .slot) (hs : splitId id = some (owner, n))
    (ha : argsOk id ⟨.ref x :: rest, []⟩) (hob : subIn K (.ref C) (.type owner) = some true) (hq : Q () s) : wpAny M A (checkBuiltinCall id ⟨.ref x :: rest, []⟩) Q E s := by
  simp only [checkBuiltinCall, hk, hs]
  refine wpAny_bind ?_
  unfold isInstance
  refine wpAny_bind (I.type.here ((looks_subIn X hob).here ?_))
  simp only [Bool.not_true, Bool.false_eq_true, if_false]
  cases hsig : Manifest.signature? id with
  | none => exact wpAny_pure hq
  | some sig =>
    simp only [argsOk, hsig] at ha
    have h2 : Bind.checkArgs id sig ⟨.ref x :: rest, []⟩ = pure () := ha
    show wpAny M A (Bind.checkArgs id sig ⟨.ref x :: rest, []⟩) Q E _
    rw [h2]; exact wpAny_pure hq
theorem ne_entry (X : K.In s.heap) (I : InstAt s.heap x ox C od) (Fa : Facts K C f) (hu : A.units < cLine) {Q : Fin → Shared → Prop}
    (hcall : wpAny (model prog w) A (call (.ref f) [.ref x, b]) (fun v s' => ∃ k, v = .bool k ∧ Q (.done (.ret (.bool (!k)))) s') E s) :
    wpAny (model prog w) A (Builtin.«object.__ne__» ⟨[.ref x, b], []⟩) Q E s := by
  unfold Builtin.«object.__ne__»
  repeat (first
    | with_reducible refine wpAny_cRoomFor hu ?_
    | (refine wpAny_bind (m := callSpecialIfBound? (.ref x) (Str.ofString "__eq__") [b])
        (ifBound_K X I Fa.eq Fa.fn (wpAny_mono hcall (fun r s' hr => by
          obtain ⟨k, rfl, hq⟩ := hr
          repeat (first | exact hq | exact wpAny_pure hq | exact wpAny_truthy_bool hq | (refine wpAny_bind (m := truthy (.bool _)) (wpAny_truthy_bool ?_)) | wp_step)) fun _ _ e => e)))
    | wp_step)
/-- how the instance's own way of comparing ends -/
theorem try_ne (X : K.In s.heap) (I : InstAt s.heap x ox C od) (Fa : Facts K C f) (hu : A.units + 1 < cLine) {Q : Option Value → Shared → Prop}
    (hcall : wpAny (model prog w) A.in1 (call (.ref f) [.ref x, b]) (fun v s' => ∃ k, v = .bool k ∧ Q (some (.bool (!k))) s') E s) : wpAny (model prog w) A (tryCompare (.ref x) "__ne__" b) Q E s := by
  simp only [tryCompare]
  refine wpAny_bind (ifBound_B X I Fa.ne F.cmp_object.ne.bind (wpAny_call (codeAny_call_builtin F.cmp_object.ne.plain F.cmpEntry_ne
    (check_inst X I F.cmpKind_ne F.cmpSplit_ne (F.cmpArgs_ne _ _) Fa.ob (ne_entry (A := A.in1) X I Fa hu (wpAny_mono hcall (fun v s' hv => ?_) fun _ _ e => e))))))
  obtain ⟨k, rfl, hq⟩ := hv
  first | exact ⟨k, rfl, wpAny_pure hq⟩ | exact ⟨k, rfl, wpAny_pure (wpAny_pure hq)⟩ | exact ⟨k, rfl, hq⟩
end
end OwnQ
namespace OwnQ
open PySem PySem.Spec PyProof.Rows PySem.W
section
variable {prog : Program} {w : World} {A : Around} {E : Value → Shared → Prop} {s : Shared} {K : Frag} {x y C f : Addr} {ox oy : Obj} {od : Option Obj} {name : Str} {a b tb : Value} {id T : String}
/-- the instance stands left -/
theorem cmp_left {op : CmpOp} {Q : Value → Shared → Prop} (hu : A.units < cLine) (X : K.In s.heap) (I : InstAt s.heap x ox C od) (hb : Looks (model prog w) s.heap (typeOf b) tb) (hn : notFirst K C tb = true)
    (one : wpAny (model prog w) A (tryCompare (.ref x) (cmpInfo op).2.1 b) (fun r s' => ∃ v, r = some v ∧ Q v s') E s) : wpAny (model prog w) A (richCompare op (.ref x) b) Q E s := by
  unfold richCompare
  simp only [oneThing_ref]
  refine wpAny_holding (wpAny_bind (wpAny_cRoomFor hu ?_))
  refine wpAny_bind (I.type.here (wpAny_bind (hb.here ?_)))
  split
  · rename_i q
    have e : subIn K tb (.ref C) = some false := by
      rcases Bool.or_eq_true_iff.mp hn with e | e
      · rw [beq_iff_eq.mp e] at q; simp at q
      · exact beq_iff_eq.mp e
    refine wpAny_bind ((looks_subIn X e).here ?_)
    simp only [Bool.false_eq_true, if_false]
    refine wpAny_bind (wpAny_mono one (fun r s' z => ?_) fun _ _ e => e)
    obtain ⟨v, rfl, hq⟩ := z
    exact wpAny_pure hq
  · refine wpAny_bind (wpAny_pure ?_)
    simp only [Bool.false_eq_true, if_false]
    refine wpAny_bind (wpAny_mono one (fun r s' z => ?_) fun _ _ e => e)
    obtain ⟨v, rfl, hq⟩ := z
    exact wpAny_pure hq
/-- the instance stands right of a value of a built-in type that declines -/
theorem cmp_right {op : CmpOp} {Q : Value → Shared → Prop} (hu : A.units < cLine) (X : K.In s.heap) (I : InstAt s.heap x ox C od) (ha : s.TypeIs a T) (hn : subIn K (.ref C) (.type T) = some false) (h1 : Slot T (cmpInfo op).2.1 id)
    (dec : ∀ Q' : Value → Shared → Prop, Q' .notImplemented s → wpAny (model prog w) A (call (.builtin id) [a, .ref x]) Q' E s)
    (one : wpAny (model prog w) A (tryCompare (.ref x) (cmpInfo op).2.2 a) (fun r s' => ∃ v, r = some v ∧ Q v s') E s) : wpAny (model prog w) A (richCompare op a (.ref x)) Q E s := by
  rcases hi : cmpInfo op with ⟨sym, g, r⟩
  rw [hi] at h1 one
  simp only [richCompare, hi, ha.oneThing_none]
  refine wpAny_holding (wpAny_bind (wpAny_cRoomFor hu ?_))
  refine wpAny_bind (wpAny_typeOf ha (wpAny_bind (I.type.here ?_)))
  have hne : (Value.type T != Value.ref C) = true := by
    simp
  simp only [hne, if_true]
  refine wpAny_bind ((looks_subIn X hn).here ?_)
  simp only [Bool.false_eq_true, if_false, Bool.not_false, if_true]
  refine wpAny_bind (m := tryCompare a _ _) (wpAny_tryCompare_declines ha h1 (dec _ ⟨rfl, ?_⟩))
  refine wpAny_bind (wpAny_mono one (fun r s' z => ?_) fun _ _ e => e)
  obtain ⟨v, rfl, hq⟩ := z
  exact wpAny_pure hq
/-- isinstance of the instance by a built-in type that it isn't of -/
theorem inst_no {M : Model} {U : String} {Q : Bool → Shared → Prop} (X : K.In s.heap) (I : InstAt s.heap x ox C od) (h : subIn K (.ref C) (.type U) = some false) (hq : Q false s) : wpAny M A (isInstance (.ref x) (.type U)) Q E s := by
  unfold isInstance
  exact wpAny_bind (I.type.here ((looks_subIn X h).here hq))
end
section
variable {prog : Program} {w : World} {A : Around} {E : Value → Shared → Prop} {s : Shared} {K : Frag} {x C f : Addr} {dx : Addr} {od : Option Obj}
open Builtin
theorem dec_none (i : String) {B : Builtin} {op : CmpOp} (S : Slot "NoneType" (cmpInfo op).2.1 i) (hB : entryFor table i = some B) (ha : argsOk i ⟨[.none, .ref x], []⟩) (hb : B = Builtin.«NoneType.__eq__» ∨ B = Builtin.«NoneType.__ne__»)
    (Q : Value → Shared → Prop) (q : Q .notImplemented s) : wpAny (model prog w) A (call (.builtin i) [.none, .ref x]) Q E s := by
  refine GQ.call_here S rfl hB ha ?_
  rcases hb with rfl | rfl
  · obtain ⟨hp, g, d, tk, os⟩ := s
    wp_walk
    exact q
  · obtain ⟨hp, g, d, tk, os⟩ := s
    wp_walk
    exact q
theorem dec_int {a : Value} {T : String} (hT : s.TypeIs a T) (hv : (∃ k t, a = .int k t) ∨ ∃ k, a = .bool k) (I : InstAt s.heap x (instObj C dx) C od) (i : String) {B : Builtin} {op : CmpOp} (S : Slot T (cmpInfo op).2.1 i) (hB : entryFor table i = some B) (ha : argsOk i ⟨[a, .ref x], []⟩) (hb : B = Builtin.«int.__eq__» ∨ B = Builtin.«int.__ne__»)
    (Q : Value → Shared → Prop) (q : Q .notImplemented s) : wpAny (model prog w) A (call (.builtin i) [a, .ref x]) Q E s := by
  refine GQ.call_here S hT hB ha ?_
  obtain ⟨hx, _, _, _⟩ := I
  rcases hb with rfl | rfl <;> rcases hv with ⟨k, t, rfl⟩ | ⟨k, rfl⟩ <;>
  · obtain ⟨hp, g, d, tk, os⟩ := s
    wp_walk using MeetsSeq.wpAny_loadPart' hx
    exact q
theorem dec_str {a : Str} {t : Tok} (I : InstAt s.heap x (instObj C dx) C od) (i : String) {B : Builtin} {op : CmpOp} (S : Slot "str" (cmpInfo op).2.1 i) (hB : entryFor table i = some B) (ha : argsOk i ⟨[.str a t, .ref x], []⟩) (hb : B = Builtin.«str.__eq__» ∨ B = Builtin.«str.__ne__»)
    (Q : Value → Shared → Prop) (q : Q .notImplemented s) : wpAny (model prog w) A (call (.builtin i) [.str a t, .ref x]) Q E s := by
  refine GQ.call_here S (typeIs_str _ _ _) hB ha ?_
  obtain ⟨hx, _, _, _⟩ := I
  rcases hb with rfl | rfl <;>
  · obtain ⟨hp, g, d, tk, os⟩ := s
    wp_walk using MeetsSeq.wpAny_loadPart' hx
    exact q
theorem dec_list {l : Addr} (X : K.In s.heap) (I : InstAt s.heap x (instObj C dx) C od) (hn : subIn K (.ref C) (.type "list") = some false) (hl : s.TypeIs (.ref l) "list") (i : String) {B : Builtin} {op : CmpOp} (S : Slot "list" (cmpInfo op).2.1 i) (hB : entryFor table i = some B) (ha : argsOk i ⟨[.ref l, .ref x], []⟩)
    (hb : B = Builtin.«list.__eq__» ∨ B = Builtin.«list.__ne__») (Q : Value → Shared → Prop) (q : Q .notImplemented s) : wpAny (model prog w) A (call (.builtin i) [.ref l, .ref x]) Q E s := by
  refine GQ.call_here S hl hB ha ?_
  have one : ∀ (A : Around) (E : Value → Shared → Prop) (Q : Bool → Shared → Prop), Q false s → wpAny (model prog w) A (isInstance (.ref x) (.type "list")) Q E s := fun A E Q q => inst_no X I hn q
  obtain ⟨hp, g, d, tk, os⟩ := s
  rcases hb with rfl | rfl <;>
  · wp_walk using one
    exact q
theorem dec_tuple {l : Addr} (X : K.In s.heap) (I : InstAt s.heap x (instObj C dx) C od) (hn : subIn K (.ref C) (.type "tuple") = some false) (hl : s.TypeIs (.ref l) "tuple") (i : String) {B : Builtin} {op : CmpOp} (S : Slot "tuple" (cmpInfo op).2.1 i) (hB : entryFor table i = some B) (ha : argsOk i ⟨[.ref l, .ref x], []⟩)
    (hb : B = Builtin.«tuple.__eq__» ∨ B = Builtin.«tuple.__ne__») (Q : Value → Shared → Prop) (q : Q .notImplemented s) : wpAny (model prog w) A (call (.builtin i) [.ref l, .ref x]) Q E s := by
  refine GQ.call_here S hl hB ha ?_
  have one : ∀ (A : Around) (E : Value → Shared → Prop) (Q : Bool → Shared → Prop), Q false s → wpAny (model prog w) A (isInstance (.ref x) (.type "tuple")) Q E s := fun A E Q q => inst_no X I hn q
  obtain ⟨hp, g, d, tk, os⟩ := s
  rcases hb with rfl | rfl <;>
  · wp_walk using one
    exact q
theorem dec_dict {l : Addr} (X : K.In s.heap) (I : InstAt s.heap x (instObj C dx) C od) (hn : subIn K (.ref C) (.type "dict") = some false) (hl : s.TypeIs (.ref l) "dict") (i : String) {B : Builtin} {op : CmpOp} (S : Slot "dict" (cmpInfo op).2.1 i) (hB : entryFor table i = some B) (ha : argsOk i ⟨[.ref l, .ref x], []⟩)
    (hb : B = Builtin.«dict.__eq__» ∨ B = Builtin.«dict.__ne__») (Q : Value → Shared → Prop) (q : Q .notImplemented s) : wpAny (model prog w) A (call (.builtin i) [.ref l, .ref x]) Q E s := by
  refine GQ.call_here S hl hB ha ?_
  have one : ∀ (A : Around) (E : Value → Shared → Prop) (Q : Bool → Shared → Prop), Q false s → wpAny (model prog w) A (isInstance (.ref x) (.type "dict")) Q E s := fun A E Q q => inst_no X I hn q
  obtain ⟨hp, g, d, tk, os⟩ := s
  rcases hb with rfl | rfl <;>
  · wp_walk using one
    exact q
end
end OwnQ
end
section


set_option Elab.async false
set_option linter.all false
set_option maxRecDepth 100000
set_option maxHeartbeats 4000000
namespace L2
open PySem PySem.Spec PyProof.Rows PySem.W
/-- of which type a value is, told by the abstract heap -/
inductive KindV (H : Hp) : V → Value → Prop
  | non : KindV H .non (.type "NoneType")
  | int (i : Int) : KindV H (.int i) (.type "int")
  | bl (b : Bool) : KindV H (.bl b) (.type "bool")
  | str (z : PySem.Str) : KindV H (.str z) (.type "str")
  | lst {a : Addr} {xs : List V} (h : H a = some (.lst xs)) : KindV H (.ref a) (.type "list")
  | tup {a : Addr} {xs : List V} (h : H a = some (.tup xs)) : KindV H (.ref a) (.type "tuple")
  | dct {a : Addr} {kvs : List (Key × V)} (h : H a = some (.dK kvs)) : KindV H (.ref a) (.type "dict")
  | ins {a D dx : Addr} {fs : List (PySem.Str × V)} (h : H a = some (.ins D dx fs)) : KindV H (.ref a) (.ref D)
theorem KindV.keep {H H' : Hp} {x : V} {t : Value} (k : KindV H x t) (h : ∀ a o, H a = some o → H' a = some o) : KindV H' x t := by
  cases k with
  | non => exact .non
  | int i => exact .int i
  | bl b => exact .bl b
  | str z => exact .str z
  | lst e => exact .lst (h _ _ e)
  | tup e => exact .tup (h _ _ e)
  | dct e => exact .dct (h _ _ e)
  | ins e => exact .ins (h _ _ e)
section
variable {X : Cx} {pins : List (Addr × Obj)} {σ : St} {H : Hp} {s : Shared} {x : V} {u t : Value} {T : String}
theorem kind_type (I : Inv X pins σ H s) (r : RelV x u) (k : KindV H x (.type T)) : s.TypeIs u T := by
  cases k with
  | non => cases r; rfl
  | int i => obtain ⟨t, rfl⟩ := r; exact typeIs_int s i t
  | bl b => cases r; rfl
  | str z => obtain ⟨t, rfl⟩ := r; exact typeIs_str s z t
  | lst e =>
    cases r
    obtain ⟨_, its, n, _, ho⟩ := I.hok _ _ e
    exact ⟨_, ho, rfl⟩
  | tup e =>
    cases r
    obtain ⟨_, its, _, ho⟩ := I.hok _ _ e
    exact ho.typeIs
  | dct e =>
    cases r
    obtain ⟨_, _, vs, _, ho⟩ := I.hok _ _ e
    exact ho.typeIs
theorem kind_looks {M : Model} (I : Inv X pins σ H s) (r : RelV x u) (k : KindV H x t) : Looks M s.heap (typeOf u) t := by
  have rf : ∀ (a : Addr) (T : String), s.TypeIs (.ref a) T → Looks M s.heap (typeOf (.ref a)) (.type T) := fun a T h => by
    obtain ⟨o, ho, hc⟩ := h
    exact hc ▸ (Looks.ld ho).andThen .now
  cases k with
  | non => cases r; exact Looks.of_pure rfl
  | int i => obtain ⟨t, rfl⟩ := r; exact Looks.of_pure rfl
  | bl b => cases r; exact Looks.of_pure rfl
  | str z => obtain ⟨t, rfl⟩ := r; exact Looks.of_pure rfl
  | lst e => have h := kind_type I r (.lst e); cases r; exact rf _ _ h
  | tup e => have h := kind_type I r (.tup e); cases r; exact rf _ _ h
  | dct e => have h := kind_type I r (.dct e); cases r; exact rf _ _ h
  | ins e =>
    cases r
    obtain ⟨mA, J, _⟩ := ins_get I.hok e
    obtain ⟨od, J, _⟩ := J.look
    exact J.type
end
/-- == (neg: !=) where the left or the right one is an instance of C with its own == -/
def rOwnEq (K : PySem.W.Frag) (C : Addr) (sp : Sp) (E : XK) (neg : Bool) : R2 := fun x y H Q =>
  (∃ a dx fs t, x = .ref a ∧ H a = some (.ins C dx fs) ∧ KindV H y t ∧ notFirst K C t = true ∧ sp [x, y] H (fun v H' => ∃ k, v = .bl k ∧ Q (.bl (k != neg)) H') E) ∨
  (∃ b dx fs T, y = .ref b ∧ H b = some (.ins C dx fs) ∧ KindV H x (.type T) ∧ sp [y, x] H (fun v H' => ∃ k, v = .bl k ∧ Q (.bl (k != neg)) H') E)
section
variable {X : Cx} {CX : CXT} {n : Nat} {C f : Addr} {fd : FuncData} {ps : List PySem.Str} {sp : Sp} {E : XK} {pins : List (Addr × Obj)} {σ : St} {H : Hp} {s : Shared} {A : Around}
theorem run_eqf (F : FnOk X.prog X.w X.K X.mg X.base CX n f fd ps sp) (hb : Binds X.K fd ps []) (hx : Passes CX X E) (sb : Sub X n A) (I : Inv X pins σ H s) {x y : V} {u v : Value} (ru : RelV x u) (rv : RelV y v) {Qv : VK} {R : Value → Shared → Prop}
    (h : sp [x, y] H Qv E) (fin : ∀ z w H' s', Inv X pins σ H' s' → RelV z w → Qv z H' → R w s') : wpAny (model X.prog X.w) A (call (.ref f) [u, v]) R X.xe s := by
  have e0 : Env0 X.prog X.w X.K X.mg X.base A X.stack s H := by
    have e := I.env0
    exact ⟨by rw [sb.fr]; exact e.frames, e.mod, e.bs, e.bsz, e.funs, e.frf, e.hok, e.bare⟩
  have hl := F.len _ _ _ _ h
  have r2 : Vals [x, y] [u, v] := .cons ru (.cons rv .nil)
  refine wpAny_call (codeAny_mono (F.run A X.stack s H ⟨[u, v], []⟩ [u, v] [x, y] _ E sb.room e0 (by
    have := hb s [u, v] I.kIn (by simpa using hl)
    simpa using this) r2 h) fun r s' hq => ?_)
  cases r with
  | error e => exact hx pins σ H s e s' I hq
  | ok fl =>
    cases fl with
    | ret w =>
      obtain ⟨z, H', I', rz, q⟩ := I.after hq
      exact fin z w H' s' I' rz q
    | next => exact False.elim hq
    | brk => exact False.elim hq
    | cont => exact False.elim hq
theorem call_decl {B : Builtin} {T id : String} {op : CmpOp} (Fa : OwnQ.Facts X.K C f) {x : V} {u : Value} {b dx : Addr} {fs : List (PySem.Str × V)} (I : Inv X pins σ H s) (r : RelV x u) (k : KindV H x (.type T)) (e : H b = some (.ins C dx fs)) (ho : op = .Eq ∨ op = .NotEq) :
    subIn X.K (.ref C) (.type T) = some false ∧ ∃ id, Slot T (cmpInfo op).2.1 id ∧ ∀ (A : Around) (E' Q' : Value → Shared → Prop), Q' .notImplemented s → wpAny (model X.prog X.w) A (call (.builtin id) [u, .ref b]) Q' E' s := by
  have hT := kind_type I r k
  obtain ⟨mA, J, _⟩ := ins_get I.hok e
  obtain ⟨od, J, _⟩ := J.look
  cases k with
  | non =>
    cases r
    rcases ho with rfl | rfl
    · exact ⟨Fa.sN, _, PySem.F.slot_NoneType_eq, fun A E' Q' q => OwnQ.dec_none _ (op := .Eq) PySem.F.slot_NoneType_eq PySem.F.entry_NoneType_eq (PySem.F.args_NoneType_eq_2 _ _) (.inl rfl) Q' q⟩
    · exact ⟨Fa.sN, _, PySem.F.slot_NoneType_ne, fun A E' Q' q => OwnQ.dec_none _ (op := .NotEq) PySem.F.slot_NoneType_ne PySem.F.entry_NoneType_ne (PySem.F.args_NoneType_ne_2 _ _) (.inr rfl) Q' q⟩
  | int i =>
    obtain ⟨t, rfl⟩ := r
    rcases ho with rfl | rfl
    · exact ⟨Fa.sI, _, PySem.F.slot_int_eq, fun A E' Q' q => OwnQ.dec_int hT (.inl ⟨_, _, rfl⟩) J _ (op := .Eq) PySem.F.slot_int_eq PySem.F.entry_int_eq (PySem.F.args_int_eq_2 _ _) (.inl rfl) Q' q⟩
    · exact ⟨Fa.sI, _, PySem.F.slot_int_ne, fun A E' Q' q => OwnQ.dec_int hT (.inl ⟨_, _, rfl⟩) J _ (op := .NotEq) PySem.F.slot_int_ne PySem.F.entry_int_ne (PySem.F.args_int_ne_2 _ _) (.inr rfl) Q' q⟩
  | bl b =>
    cases r
    rcases ho with rfl | rfl
    · exact ⟨Fa.sB, _, PySem.F.slot_bool_eq, fun A E' Q' q => OwnQ.dec_int hT (.inr ⟨_, rfl⟩) J _ (op := .Eq) PySem.F.slot_bool_eq PySem.F.entry_int_eq (PySem.F.args_int_eq_2 _ _) (.inl rfl) Q' q⟩
    · exact ⟨Fa.sB, _, PySem.F.slot_bool_ne, fun A E' Q' q => OwnQ.dec_int hT (.inr ⟨_, rfl⟩) J _ (op := .NotEq) PySem.F.slot_bool_ne PySem.F.entry_int_ne (PySem.F.args_int_ne_2 _ _) (.inr rfl) Q' q⟩
  | str z =>
    obtain ⟨t, rfl⟩ := r
    rcases ho with rfl | rfl
    · exact ⟨Fa.sS, _, PySem.F.slot_str_eq, fun A E' Q' q => OwnQ.dec_str J _ (op := .Eq) PySem.F.slot_str_eq PySem.F.entry_str_eq (PySem.F.args_str_eq_2 _ _) (.inl rfl) Q' q⟩
    · exact ⟨Fa.sS, _, PySem.F.slot_str_ne, fun A E' Q' q => OwnQ.dec_str J _ (op := .NotEq) PySem.F.slot_str_ne PySem.F.entry_str_ne (PySem.F.args_str_ne_2 _ _) (.inr rfl) Q' q⟩
  | lst e =>
    cases r
    rcases ho with rfl | rfl
    · exact ⟨Fa.sL, _, PySem.F.slot_list_eq, fun A E' Q' q => OwnQ.dec_list I.kIn J Fa.sL hT _ (op := .Eq) PySem.F.slot_list_eq PySem.F.entry_list_eq (PySem.F.args_list_eq_2 _ _) (.inl rfl) Q' q⟩
    · exact ⟨Fa.sL, _, PySem.F.slot_list_ne, fun A E' Q' q => OwnQ.dec_list I.kIn J Fa.sL hT _ (op := .NotEq) PySem.F.slot_list_ne PySem.F.entry_list_ne (PySem.F.args_list_ne_2 _ _) (.inr rfl) Q' q⟩
  | tup e =>
    cases r
    rcases ho with rfl | rfl
    · exact ⟨Fa.sT, _, PySem.F.slot_tuple_eq, fun A E' Q' q => OwnQ.dec_tuple I.kIn J Fa.sT hT _ (op := .Eq) PySem.F.slot_tuple_eq PySem.F.entry_tuple_eq (PySem.F.args_tuple_eq_2 _ _) (.inl rfl) Q' q⟩
    · exact ⟨Fa.sT, _, PySem.F.slot_tuple_ne, fun A E' Q' q => OwnQ.dec_tuple I.kIn J Fa.sT hT _ (op := .NotEq) PySem.F.slot_tuple_ne PySem.F.entry_tuple_ne (PySem.F.args_tuple_ne_2 _ _) (.inr rfl) Q' q⟩
  | dct e =>
    cases r
    rcases ho with rfl | rfl
    · exact ⟨Fa.sD, _, PySem.F.slot_dict_eq, fun A E' Q' q => OwnQ.dec_dict I.kIn J Fa.sD hT _ (op := .Eq) PySem.F.slot_dict_eq PySem.F.entry_dict_eq (PySem.F.args_dict_eq_2 _ _) (.inl rfl) Q' q⟩
    · exact ⟨Fa.sD, _, PySem.F.slot_dict_ne, fun A E' Q' q => OwnQ.dec_dict I.kIn J Fa.sD hT _ (op := .NotEq) PySem.F.slot_dict_ne PySem.F.entry_dict_ne (PySem.F.args_dict_ne_2 _ _) (.inr rfl) Q' q⟩
theorem op_ownEq (F : FnOk X.prog X.w X.K X.mg X.base CX n f fd ps sp) (Fa : OwnQ.Facts X.K C f) (hb : Binds X.K fd ps []) (hx : Passes CX X E) (hr : Room n X.A) : OpR X (compareOp .Eq) (rOwnEq X.K C sp E false) := by
  intro pins s σ H x y v u Q I rx ry h
  have sb : Sub X n X.A := ⟨hr, rfl⟩
  have fin : ∀ z w H' s', Inv X pins σ H' s' → RelV z w → (∃ k, z = .bl k ∧ Q (.bl (k != false)) H') → ∃ v', some w = some v' ∧ EP X pins σ Q v' s' := fun z w H' s' I' rz q => by
    obtain ⟨k, rfl, q⟩ := q
    cases rz
    rw [Bool.bne_false] at q
    exact ⟨_, rfl, .bl k, H', I', rfl, q⟩
  show wpAny (model X.prog X.w) X.A (richCompare .Eq v u) (EP X pins σ Q) X.xe s
  rcases h with ⟨a, dx, fs, t, rfl, ha, hk, hn, q⟩ | ⟨b, dx, fs, T, rfl, hb', hk, q⟩
  · cases rx
    obtain ⟨mA, J, _⟩ := ins_get I.hok ha
    obtain ⟨od, J, _⟩ := J.look
    refine OwnQ.cmp_left (op := .Eq) hr.units0 I.kIn J (kind_looks I ry hk) hn ?_
    unfold tryCompare
    refine wpAny_bind (ifBound_K I.kIn J Fa.eq Fa.fn (run_eqf (x := .ref a) F hb hx sb I rfl ry q fun z w H' s' I' rz q' => ?_))
    obtain ⟨k, rfl, q'⟩ := q'
    cases rz
    exact wpAny_pure (fin (.bl k) _ _ _ I' rfl ⟨k, rfl, q'⟩)
  · cases ry
    obtain ⟨mA, J, _⟩ := ins_get I.hok hb'
    obtain ⟨od, J, _⟩ := J.look
    obtain ⟨hs, id, S, dec⟩ := call_decl (B := Builtin.«object.__ne__») (T := T) (id := "") Fa I rx hk hb' (op := .Eq) (.inl rfl)
    refine OwnQ.cmp_right (op := .Eq) hr.units0 I.kIn J (kind_type I rx hk) hs S (fun Q' q' => dec X.A X.xe Q' q') ?_
    unfold tryCompare
    refine wpAny_bind (ifBound_K I.kIn J Fa.eq Fa.fn (run_eqf (x := .ref b) F hb hx sb I rfl rx q fun z w H' s' I' rz q' => ?_))
    obtain ⟨k, rfl, q'⟩ := q'
    cases rz
    exact wpAny_pure (fin (.bl k) _ _ _ I' rfl ⟨k, rfl, q'⟩)
theorem op_ownNe (F : FnOk X.prog X.w X.K X.mg X.base CX n f fd ps sp) (Fa : OwnQ.Facts X.K C f) (hb : Binds X.K fd ps []) (hx : Passes CX X E) (hr : Room (n + 1) X.A) : OpR X (compareOp .NotEq) (rOwnEq X.K C sp E true) := by
  intro pins s σ H x y v u Q I rx ry h
  have sb : Sub X n X.A.in1 := ⟨hr.in1, rfl⟩
  have hu : X.A.units + 1 < cLine := by
    have := hr.units
    omega
  have fin : ∀ z w H' s', Inv X pins σ H' s' → RelV z w → (∃ k, z = .bl k ∧ Q (.bl (k != true)) H') → ∃ k, w = .bool k ∧ ∃ v', some (Value.bool (!k)) = some v' ∧ EP X pins σ Q v' s' := fun z w H' s' I' rz q => by
    obtain ⟨k, rfl, q⟩ := q
    cases rz
    rw [Bool.bne_true] at q
    exact ⟨k, rfl, _, rfl, .bl (!k), H', I', rfl, q⟩
  show wpAny (model X.prog X.w) X.A (richCompare .NotEq v u) (EP X pins σ Q) X.xe s
  rcases h with ⟨a, dx, fs, t, rfl, ha, hk, hn, q⟩ | ⟨b, dx, fs, T, rfl, hb', hk, q⟩
  · cases rx
    obtain ⟨mA, J, _⟩ := ins_get I.hok ha
    obtain ⟨od, J, _⟩ := J.look
    refine OwnQ.cmp_left (op := .NotEq) hr.units0 I.kIn J (kind_looks I ry hk) hn ?_
    exact OwnQ.try_ne I.kIn J Fa hu (run_eqf (x := .ref a) F hb hx sb I rfl ry q fun z w H' s' I' rz q' => fin z w H' s' I' rz q')
  · cases ry
    obtain ⟨mA, J, _⟩ := ins_get I.hok hb'
    obtain ⟨od, J, _⟩ := J.look
    obtain ⟨hs, id, S, dec⟩ := call_decl (B := Builtin.«object.__ne__») (T := T) (id := "") Fa I rx hk hb' (op := .NotEq) (.inr rfl)
    refine OwnQ.cmp_right (op := .NotEq) hr.units0 I.kIn J (kind_type I rx hk) hs S (fun Q' q' => dec X.A X.xe Q' q') ?_
    exact OwnQ.try_ne I.kIn J Fa hu (run_eqf (x := .ref b) F hb hx sb I rfl rx q fun z w H' s' I' rz q' => fin z w H' s' I' rz q')
end
end L2
end
section
set_option Elab.async false
set_option linter.all false
set_option maxRecDepth 100000
set_option maxHeartbeats 8000000
namespace K13
open PySem PySem.Spec PyProof.Rows L2
abbrev sQInit : Stmt := inClass (top 22) 0
abbrev sQStreets : Stmt := inClass (top 22) 1
abbrev sQGates : Stmt := inClass (top 22) 2
abbrev sQEq : Stmt := inClass (top 22) 3
abbrev sTInit : Stmt := inClass (top 23) 0
abbrev sTStreets : Stmt := inClass (top 23) 1
abbrev sTEq : Stmt := inClass (top 23) 2
abbrev FnM (K : PySem.W.Frag) (x q : Str) (st : Stmt) (f : Addr) (fd : FuncData) : Prop := FunD K x q (defArgs st) (defBody st) (defScope st) [] [] f fd
def kinds : List String := ["NoneType", "int", "bool", "str", "list", "tuple", "dict"]
/-- what is known of a class of the text -/
structure ClsF (K : PySem.W.Frag) (C fI fE : Addr) : Prop where
  cl : Cls K C
  mkr : Mk K C fI
  ow : OwnQ.Facts K C fE
  n1 : NoAttr K C "_streets"
  n2 : NoAttr K C "_gates"
  ha : PySem.W.findIn K (.ref C) "__class__" = some (some (.builtin "object.__class__"))
  hn : PySem.W.specialIn K (.builtin "object.__class__") "__get__" = some (some (.builtin "getset_descriptor.__get__"))
  htk : PySem.W.takesIn K (.builtin "object.__class__") = some true
  hm : PySem.W.mroIn K C (.type "object") = some true
  kC : PySem.W.kitOne K (.ref C) (.ref C) = some true
  kk : ∀ T ∈ kinds, PySem.W.kitOne K (.type T) (.ref C) = some false ∧ PySem.W.notFirst K C (.type T) = true
/-- both classes -/
structure Klz (K : PySem.W.Frag) (mg : Str → Option Value) (CQ CT iQ iT eQ eT sQ sT gQ : Addr) : Prop where
  q : ClsF K CQ iQ eQ
  t : ClsF K CT iT eT
  kQT : PySem.W.kitOne K (.ref CT) (.ref CQ) = some false
  kTQ : PySem.W.kitOne K (.ref CQ) (.ref CT) = some false
  nQT : PySem.W.notFirst K CQ (.ref CT) = true
  nTQ : PySem.W.notFirst K CT (.ref CQ) = true
  mQ : mg "Quarter" = some (.ref CQ)
  mT : mg "Town" = some (.ref CT)
  qs : Meth K CQ "streets" sQ
  qg : Meth K CQ "gates" gQ
  ts : Meth K CT "streets" sT
theorem ClsF.ty {K : PySem.W.Frag} {C fI fE a dx : Addr} {fs : List (Str × V)} {H : Hp} (c : ClsF K C fI fE) (e : H a = some (.ins C dx fs)) : TyX K H (.ref a) (.ref C) := .base (.ins e c.cl c.ha c.hn c.htk c.hm)
theorem kind_ty {K : PySem.W.Frag} {H : Hp} {x : V} {T : String} (k : KindV H x (.type T)) : TyX K H x (.type T) ∧ T ∈ kinds := by
  cases k with
  | non => exact ⟨.base .non, by decide +kernel⟩
  | int i => exact ⟨.base (.int i), by decide +kernel⟩
  | bl i => exact ⟨.base (.bl i), by decide +kernel⟩
  | str i => exact ⟨.base (.str i), by decide +kernel⟩
  | lst e => exact ⟨.base (.lst e), by decide +kernel⟩
  | tup e => exact ⟨.base (.tup e), by decide +kernel⟩
  | dct e => exact ⟨.base (.dK e), by decide +kernel⟩
/-- a quarter at q -/
structure QuP (H : Hp) (C q dx l g : Addr) (ts : List (Addr × S5)) (gs : List Str) : Prop where
  at_ : H q = some (.ins C dx [("_streets", .ref l), ("_gates", .ref g)])
  s : Sts H l ts
  g : Ws H g gs
/-- a town at q -/
structure TwP (H : Hp) (C q dx l : Addr) (ts : List (Addr × S5)) : Prop where
  at_ : H q = some (.ins C dx [("_streets", .ref l)])
  s : Sts H l ts
/-- right streets -/
structure SOk (ss : List S5) : Prop where
  ok : ∀ s ∈ ss, s.Ok
  nd : (nms ss).Nodup
  l : ss.length ≤ 60
/-- right gates -/
structure GOk (gs : List Str) : Prop where
  wd : ∀ x ∈ gs, Wd x
  nd : gs.Nodup
  ne : gs ≠ []
  l : gs.length ≤ 60
abbrev snds (ts : List (Addr × S5)) : List S5 := ts.map fun t => t.2
theorem nms_snds (ts : List (Addr × S5)) : (ts.map fun t => t.2.nm) = nms (snds ts) := by
  show _ = (ts.map fun t => t.2).map S5.nm
  rw [List.map_map]
  rfl
def nameAt (H : Hp) : V → Str
  | .ref a => match H a with
    | some (.tup (.str z :: _)) => z
    | _ => ""
  | _ => ""
theorem nameAt_sts {H : Hp} {l : Addr} {ts : List (Addr × S5)} (h : Sts H l ts) : ∀ t ∈ ts, nameAt H (.ref t.1) = t.2.nm := fun t ht => by
  have e := h.2 t ht
  unfold nameAt
  simp only [e, S5.vals]
theorem Sts.keep {H H' : Hp} {l : Addr} {ts : List (Addr × S5)} (h : Sts H l ts) (s : Same H H') : Sts H' l ts := ⟨s _ _ h.1, fun t ht => s _ _ (h.2 t ht)⟩
theorem QuP.keep {H H' : Hp} {C q dx l g : Addr} {ts : List (Addr × S5)} {gs : List Str} (h : QuP H C q dx l g ts gs) (s : Same H H') : QuP H' C q dx l g ts gs := ⟨s _ _ h.at_, h.s.keep s, s _ _ h.g⟩
theorem TwP.keep {H H' : Hp} {C q dx l : Addr} {ts : List (Addr × S5)} (h : TwP H C q dx l ts) (s : Same H H') : TwP H' C q dx l ts := ⟨s _ _ h.at_, h.s.keep s⟩
section
variable {P : Program} {w : World} {K : PySem.W.Frag} {mg : Str → Option Value} {base : Heap}
/-! ### check_gates, of right ones -/
def spChkGates : Sp := fun vs H Q _ => ∃ (l : Addr) (gs : List Str), vs = [.ref l] ∧ Ws H l gs ∧ GOk gs ∧ ∀ H', Same H H' → Q .non H'
abbrev NCG : List Str := ["value", "gate"]
/-- are_gates -/
def spAreGates : Sp := fun vs H Q _ => ∃ (l : Addr) (gs : List Str), vs = [.ref l] ∧ Ws H l gs ∧ GOk gs ∧ ∀ H', Same H H' → Q (.bl true) H'
theorem scAreGates : FnScope NCG ["value"] (defScope sAreGates) := ⟨rfl, rfl, rfl, by decide +kernel, rfl, by decide +kernel, by decide +kernel⟩
theorem ok_areGates {f : Addr} {fd : FuncData} (F : FnP K "are_gates" sAreGates f fd) (GW : Fz P w K mg base "is_word" 1 ["value"] spIsWord) (T : Tx K mg) : FnOk P w K mg base CX0 2 f fd ["value"] spAreGates := by
  refine F.ok scAreGates (fun vs H Q E h => ?_) (fun cdv A outer s H vs Q E hr h => ?_)
  · obtain ⟨_, _, rfl, _⟩ := h
    rfl
  · obtain ⟨l, gs, rfl, hl, ok, q⟩ := h
    have gIs := T.fr "isinstance" (by decide +kernel)
    have gLi := T.fr "list" (by decide +kernel)
    have gL := T.fr "len" (by decide +kernel)
    have gA := T.fr "all" (by decide +kernel)
    have gS := T.fr "set" (by decide +kernel)
    have sl := sizeLine_eq
    have h60 := ok.l
    refine ⟨_, PSs.nox (pss_cons (ps_if (PW.pt (pw_or (pt_not (pt_val (pe_callB call_isi (by rfl) gIs (by decide +kernel) (pa_cons (pv 0) (pa_cons (pe_bltn (v := .ty "list") (by rfl) gLi (by decide +kernel) rfl) pa_nil)))))
        (pw_or1 (pt_not (pt_val (pe_callB (cr_all rfl) (by rfl) gA (by decide +kernel) (pa_cons (pe_lc (own := [("gate", 1)]) (g := gName 1) (tt := tYes) rfl scAreGates.nd (pi_list (pv 0)) (blkOk_by (own := [("gate", 1)]) (N := NCG) (sc := defScope sAreGates) (by decide +kernel))
          (fun _ _ _ _ _ => pg_name (i := 1) scAreGates.nd rfl (Or.inl rfl)) (fun _ _ _ _ _ => pts_nil) (fun _ _ _ _ _ => pe_fz GW hr (by rfl) (pa_cons (pv 1) pa_nil))) pa_nil))))))) (pss_one (ps_ret pe_bl)) pss_nil)
      (pss_one (ps_ret (pe_chain op_lt op_eq pe_int (pe_callB call_len_seq (by rfl) gL PySem.boot_len (pa_cons (pv 0) pa_nil)) (pe_callB cr_lenX (by rfl) gL PySem.boot_len (pa_cons (pe_callTy (cr_setX rfl) (by rfl) gS (by decide +kernel) (pa_cons (pv 0) pa_nil)) pa_nil)))))), ?_⟩
    refine ⟨_, rfl, _, _, _, _, _, rfl, .ty _, .base (.lst hl), ktr (by decide +kernel), _, rfl, ifF (by decide) ?_⟩
    refine ⟨_, rfl, l, rfl, ⟨_, SqL.of hl⟩, fun D nD => ?_⟩
    refine lc_list (K := K) (a := l) (xs := gs.map V.str) (fun j H' => Same H H' ∧ H' D = some (.lst ((List.replicate j true).map V.bl))) ⟨same_upd nD, upd_same⟩ (fun j H' _ h => SqL.of (h.1 _ _ hl)) ?_ ?_
    · rintro j x H' hj ⟨s1, hD⟩
      rw [List.getElem?_map] at hj
      cases e : gs[j]? with
      | none =>
        rw [e] at hj
        cases hj
      | some t =>
        rw [e] at hj
        cases hj
        have tm := List.mem_of_getElem? e
        have lt := (List.getElem?_eq_some_iff.mp e).1
        refine ⟨rfl, _, rfl, t, rfl, ok.wd t tm, fun H2 s2 => ⟨_, s2 _ _ hD, by rw [List.length_map, List.length_replicate]; omega, fun b o eb => ?_, ?_⟩⟩
        · rw [upd_ne (ne_of_none eb nD)]
          exact s2 _ _ (s1 _ _ eb)
        · rw [upd_same, List.replicate_succ', List.map_append]
          rfl
    · rintro H1 ⟨s1, hD⟩
      refine ⟨D, List.replicate _ true, rfl, SqL.of hD, ?_⟩
      have e : (List.replicate (gs.map V.str).length true).all id = true := by simp
      rw [e]
      have hl1 := s1 _ _ hl
      have fl := TxSet.fold_fresh (ks := gs) (L := []) (by rw [List.append_nil]; exact ok.nd)
      have ne : 0 < gs.length := List.length_pos_iff.mpr ok.ne
      refine ⟨_, rfl, ifF (by decide) ?_⟩
      refine ⟨_, rfl, l, _, rfl, Or.inl (SqL.of hl1), _, _, rfl, rfl, _, rfl, ifT (decide_eq_true (by rw [List.length_map]; omega)) ?_⟩
      refine ⟨_, rfl, l, gs, rfl, SqL.of hl1, by unfold scanBound; omega, fun S nS => ?_⟩
      refine ⟨S, _, rfl, upd_same, by rw [fl]; unfold scanBound; simp only [List.length_nil]; omega, rfl, ?_⟩
      have e3 : decide (V.int ((gs.map V.str).length : Nat) = V.int (((gs.foldl TxSet.addL []).length : Nat) : Int)) = true := by
        rw [fl, List.length_map]
        simp
      show Q (.bl (decide (V.int _ = V.int _))) _
      rw [e3]
      exact q _ (same_trans s1 (same_upd nS))
theorem scChkGates : FnScope ["value"] ["value"] (defScope sChkGates) := ⟨rfl, rfl, rfl, by decide +kernel, rfl, by decide +kernel, by decide +kernel⟩
theorem ok_chkGates {f : Addr} {fd : FuncData} (F : FnP K "check_gates" sChkGates f fd) (GA : Fz P w K mg base "are_gates" 2 ["value"] spAreGates) (T : Tx K mg) : FnOk P w K mg base CX0 3 f fd ["value"] spChkGates := by
  refine F.ok scChkGates (fun vs H Q E h => ?_) (fun cdv A outer s H vs Q E hr h => ?_)
  · obtain ⟨_, _, rfl, _⟩ := h
    rfl
  · obtain ⟨l, gs, rfl, hl, ok, q⟩ := h
    refine ⟨_, PSs.nox (pss_one (ps_if (pt_not (pt_val (pe_fz GA hr (by rfl) (pa_cons (pv 0) pa_nil)))) (pss_one ps_never) pss_nil)), ?_⟩
    exact ⟨_, rfl, l, gs, rfl, hl, ok, fun H' s => ⟨_, rfl, ifF (by decide) (q H' s)⟩⟩
/-! ### Quarter and Town -/
def spInitQ (C : Addr) : Sp := fun vs H Q _ => ∃ (x dx l g : Addr) (ts : List (Addr × S5)) (gs : List Str), vs = [.ref x, .ref l, .ref g] ∧ H x = some (.ins C dx []) ∧ Sts H l ts ∧ SOk (snds ts) ∧ Ws H g gs ∧ GOk gs ∧
  ∀ H' l' g' ts' gs', But x H H' → H l' = none → H g' = none → QuP H' C x dx l' g' ts' gs' → ts'.Perm ts → Asc5 (snds ts') → gs'.Perm gs → Asc gs' → Q .non H'
def spInitT (C : Addr) : Sp := fun vs H Q _ => ∃ (x dx l : Addr) (ts : List (Addr × S5)), vs = [.ref x, .ref l] ∧ H x = some (.ins C dx []) ∧ Sts H l ts ∧ SOk (snds ts) ∧
  ∀ H' l' ts', But x H H' → H l' = none → TwP H' C x dx l' ts' → ts'.Perm ts → Asc5 (snds ts') → Q .non H'
theorem scQInit : FnScope ["self", "streets", "gates"] ["self", "streets", "gates"] (defScope sQInit) := ⟨rfl, rfl, rfl, by decide +kernel, rfl, by decide +kernel, by decide +kernel⟩
theorem scTInit : FnScope ["self", "streets"] ["self", "streets"] (defScope sTInit) := ⟨rfl, rfl, rfl, by decide +kernel, rfl, by decide +kernel, by decide +kernel⟩
/-- what sorted(streets) asks and tells -/
theorem sort_a {H : Hp} {l : Addr} {ts : List (Addr × S5)} (h : Sts H l ts) : ∀ x ∈ ts.map (fun t => V.ref t.1), ∃ t r, x = V.ref t ∧ SqT K H t (V.str (nameAt H x) :: r) := fun x hx => by
  have nm := nameAt_sts h
  obtain ⟨t, ht, rfl⟩ := List.mem_map.mp hx
  refine ⟨t.1, [.str t.2.st, .str t.2.en, .int t.2.wd, .int t.2.ln], rfl, ?_⟩
  rw [nm t ht]
  exact SqT.of (h.2 t ht)
theorem sort_b {H : Hp} {l : Addr} {ts : List (Addr × S5)} (h : Sts H l ts) (nd : (nms (snds ts)).Nodup) : ∀ x ∈ ts.map (fun t => V.ref t.1), ∀ y ∈ ts.map (fun t => V.ref t.1), nameAt H x = nameAt H y → x = y := fun x hx y hy e => by
  have nm := nameAt_sts h
  obtain ⟨t, ht, rfl⟩ := List.mem_map.mp hx
  obtain ⟨u, hu, rfl⟩ := List.mem_map.mp hy
  rw [nm t ht, nm u hu] at e
  rw [← nms_snds] at nd
  rw [nodup_inj nd t ht u hu e]
theorem sort_c {H : Hp} {l : Addr} {ts : List (Addr × S5)} {ys : List V} (h : Sts H l ts) (pm : ys.Perm (ts.map fun t => V.ref t.1)) (pw : ys.Pairwise fun x y => SrtX.ltS (nameAt H y) (nameAt H x) = false) : ∃ ts' : List (Addr × S5), ts'.Perm ts ∧ Asc5 (snds ts') ∧ ys = ts'.map fun t => V.ref t.1 := by
  have nm := nameAt_sts h
  obtain ⟨ts', pt, rfl⟩ := perm_map_inv pm ts rfl
  refine ⟨ts', pt, ?_, rfl⟩
  rw [List.pairwise_map] at pw
  show ((ts'.map fun t => t.2).Pairwise fun a b => leS a.nm b.nm)
  rw [List.pairwise_map]
  refine List.Pairwise.imp_of_mem (fun {a b} ha hb hab => ?_) pw
  rw [nm a (pt.mem_iff.mp ha), nm b (pt.mem_iff.mp hb)] at hab
  exact hab
theorem ok_qInit {C iQ eQ : Addr} {f : Addr} {fd : FuncData} (F : FnM K "__init__" "Quarter.__init__" sQInit f fd) (c : ClsF K C iQ eQ) (GS : Fz P w K mg base "check_streets" 5 ["value"] (spChkStreets K)) (GG : Fz P w K mg base "check_gates" 3 ["value"] spChkGates) (T : Tx K mg) :
    FnOk P w K mg base CX0 6 f fd ["self", "streets", "gates"] (spInitQ C) := by
  refine F.ok scQInit (fun vs H Q E h => ?_) (fun cdv A outer s H vs Q E hr h => ?_)
  · obtain ⟨_, _, _, _, _, _, rfl, _⟩ := h
    rfl
  · obtain ⟨x, dx, l, g, ts, gs, rfl, hx, hl, so, hg, go, q⟩ := h
    have gSo := T.fr "sorted" (by decide +kernel)
    have h60 := go.l
    have s60 := so.l
    refine ⟨_, PSs.nox (pss_cons (ps_expr (pe_fz GS hr (by rfl) (pa_cons (pv 1) pa_nil))) (pss_cons (ps_expr (pe_fz GG (hr.mono (by decide)) (by rfl) (pa_cons (pv 2) pa_nil)))
      (pss_cons (ps_fld (pv 0) (pe_callB cr_sortedTx (by rfl) gSo (by decide +kernel) (pa_cons (pv 1) pa_nil)) rfl) (pss_one (ps_fld (pv 0) (pe_callB cr_sortedS (by rfl) gSo (by decide +kernel) (pa_cons (pv 2) pa_nil)) rfl))))), ?_⟩
    refine ⟨_, rfl, l, ts, rfl, hl, fun t ht => so.ok _ (List.mem_map.mpr ⟨t, ht, rfl⟩), by rw [nms_snds]; exact so.nd, by rw [List.length_map] at s60; omega, fun H1 s1 => ?_⟩
    refine ⟨_, rfl, g, gs, rfl, s1 _ _ hg, go, fun H2 s2 => ?_⟩
    have s02 := same_trans s1 s2
    have hl2 := hl.keep s02
    refine ⟨_, rfl, l, _, nameAt H2, rfl, SqL.of hl2.1, sort_a hl2, sort_b hl2 so.nd, fun ys l' pm pw nl' => ?_⟩
    obtain ⟨ts', pt, as, rfl⟩ := sort_c hl2 pm pw
    have s3 := same_upd (o := .lst (ts'.map fun t => V.ref t.1)) nl'
    refine ⟨_, rfl, x, C, dx, _, rfl, s3 _ _ (s02 _ _ hx), c.cl, c.n1, by decide, ?_⟩
    have hl3 : upd H2 l' (.lst (ts'.map fun t => V.ref t.1)) l' = some (.lst (ts'.map fun t => V.ref t.1)) := upd_same
    have hx2 := s02 _ _ hx
    have s03 := same_trans s02 s3
    have nlx : l' ≠ x := fun e => by rw [e, hx2] at nl'; cases nl'
    have nl0 := s02.free nl'
    have hts : ∀ t ∈ ts', H t.1 = some (.tup t.2.vals) := fun t ht => hl.2 t (pt.mem_iff.mp ht)
    generalize upd H2 l' (.lst (ts'.map fun t => V.ref t.1)) = H3 at hl3 s03 ⊢
    have hg3 := s03 _ _ hg
    have ngx : g ≠ x := fun e => by rw [e] at hg; rw [hg] at hx; cases hx
    have b4 : But x H (upd H3 x (.ins C dx (putF "_streets" (.ref l') []))) := fun b o nb e => by
      rw [upd_ne nb]
      exact s03 _ _ e
    have hx4 : upd H3 x (.ins C dx (putF "_streets" (.ref l') [])) x = some (.ins C dx [("_streets", .ref l')]) := upd_same
    have hl4 : upd H3 x (.ins C dx (putF "_streets" (.ref l') [])) l' = some (.lst (ts'.map fun t => V.ref t.1)) := by
      rw [upd_ne nlx]
      exact hl3
    have hg4 := b4 _ _ ngx hg
    generalize upd H3 x (.ins C dx (putF "_streets" (.ref l') [])) = H4 at b4 hx4 hl4 hg4 ⊢
    refine ⟨_, rfl, g, gs, rfl, SqL.of hg4, by omega, fun gs' g' pg sg ng' => ?_⟩
    have s5 := same_upd (o := .lst (gs'.map V.str)) ng'
    refine ⟨_, rfl, x, C, dx, _, rfl, s5 _ _ hx4, c.cl, c.n2, (by show 1 < 1000; omega), ?_⟩
    have ngx' : g' ≠ x := fun e => by rw [e, hx4] at ng'; cases ng'
    have ng0 : H g' = none := b4.free ng' ngx'
    have b5 := b4.trans (Same.but (p := x) s5)
    have hg5 : upd H4 g' (.lst (gs'.map V.str)) g' = some (.lst (gs'.map V.str)) := upd_same
    have hl5 := s5 _ _ hl4
    generalize upd H4 g' (.lst (gs'.map V.str)) = H5 at b5 hg5 hl5 ⊢
    have b6 := b5.trans (but_self (p := x) (H := H5) (o := .ins C dx (putF "_gates" (.ref g') [("_streets", .ref l')])))
    refine q _ l' g' ts' gs' b6 nl0 ng0 ⟨?_, ⟨?_, fun t ht => b6 _ _ (fun e => ?_) (hts t ht)⟩, ?_⟩ pt as pg (asc_of_sortedS sg)
    · rw [upd_same]
      rfl
    · rw [upd_ne nlx]
      exact hl5
    · have h1 := hts t ht
      rw [e, hx] at h1
      cases h1
    · show upd _ _ _ g' = _
      rw [upd_ne ngx']
      exact hg5
end
end K13
end
section
set_option Elab.async false
set_option linter.all false
set_option maxRecDepth 100000
set_option maxHeartbeats 4000000
namespace K13
open PySem PySem.Spec PyProof.Rows L2
/-! ### what the written part must say -/
def qA (K : PySem.W.Frag) : Addr := He.ga K "Quarter"
def tA (K : PySem.W.Frag) : Addr := He.ga K "Town"
def gloB (K : PySem.W.Frag) (x : Str) : Bool := He.eqO (PySem.W.nsIn K mainGlobals x) (some (some (.ref (He.ga K x))))
def metB (K : PySem.W.Frag) (C : Addr) (m : Str) : Bool := He.eqO (PySem.W.findIn K (.ref C) m) (some (some (.ref (He.ma K C m)))) && (PySem.W.isFn K (.ref (He.ma K C m)) && PySem.W.keepIn K (.ref (He.ma K C m)))
theorem metB_ok {K : PySem.W.Frag} {C : Addr} {m : Str} (h : metB K C m = true) : Meth K C m (He.ma K C m) := by
  obtain ⟨h1, h⟩ := He.ba h
  obtain ⟨h2, h3⟩ := He.ba h
  exact ⟨He.eqO_ok h1, h2, h3⟩
def clsB (K : PySem.W.Frag) (C : Addr) : Bool := PySem.W.plainGet K C Str.empty && (PySem.W.hasDictIn K C && (PySem.W.plainOver K C && He.eqO (PySem.W.findIn K (.ref C) "__setattr__") (some (some (.builtin "object.__setattr__")))))
def mkB (K : PySem.W.Frag) (C : Addr) : Bool := PySem.W.makesIn K C && (metB K C "__init__" && PySem.W.keepIn K (.ref C))
def subB (K : PySem.W.Frag) (C : Addr) (T : String) (b : Bool) : Bool := decide (PySem.W.subIn K (.ref C) (.type T) = some b)
def owHB (K : PySem.W.Frag) (C : Addr) : Bool := metB K C "__eq__" && (He.eqO (PySem.W.findIn K (.ref C) "__ne__") (some (some (.builtin "object.__ne__"))) && (subB K C "object" true &&
  (subB K C "NoneType" false && (subB K C "int" false && (subB K C "bool" false && (subB K C "str" false && (subB K C "list" false && (subB K C "tuple" false && subB K C "dict" false))))))))
def oneHB (K : PySem.W.Frag) (C : Addr) : Bool := clsB K C && (mkB K C && (owHB K C && (He.eqO (PySem.W.findIn K (.ref C) "_streets") (some none) && (He.eqO (PySem.W.findIn K (.ref C) "_gates") (some none) &&
  (He.eqO (PySem.W.findIn K (.ref C) "__class__") (some (some (.builtin "object.__class__"))) && (He.eqO (PySem.W.specialIn K (.builtin "object.__class__") "__get__") (some (some (.builtin "getset_descriptor.__get__"))) &&
  (decide (PySem.W.takesIn K (.builtin "object.__class__") = some true) && (decide (PySem.W.mroIn K C (.type "object") = some true) && (decide (PySem.W.kitOne K (.ref C) (.ref C) = some true) &&
  kinds.all fun T => decide (PySem.W.kitOne K (.type T) (.ref C) = some false) && PySem.W.notFirst K C (.type T))))))))))
theorem oneHB_ok {K : PySem.W.Frag} {C : Addr} (h : oneHB K C = true) : ClsF K C (He.ma K C "__init__") (He.ma K C "__eq__") := by
  obtain ⟨h1, h⟩ := He.ba h
  obtain ⟨h2, h⟩ := He.ba h
  obtain ⟨h3, h⟩ := He.ba h
  obtain ⟨h4, h⟩ := He.ba h
  obtain ⟨h5, h⟩ := He.ba h
  obtain ⟨h6, h⟩ := He.ba h
  obtain ⟨h7, h⟩ := He.ba h
  obtain ⟨h8, h⟩ := He.ba h
  obtain ⟨h9, h⟩ := He.ba h
  obtain ⟨h10, h11⟩ := He.ba h
  obtain ⟨c1, c⟩ := He.ba h1
  obtain ⟨c2, c⟩ := He.ba c
  obtain ⟨c3, c4⟩ := He.ba c
  obtain ⟨m1, m⟩ := He.ba h2
  obtain ⟨m2, m3⟩ := He.ba m
  have mi := metB_ok m2
  obtain ⟨o1, o⟩ := He.ba h3
  obtain ⟨o2, o⟩ := He.ba o
  obtain ⟨o3, o⟩ := He.ba o
  obtain ⟨o4, o⟩ := He.ba o
  obtain ⟨o5, o⟩ := He.ba o
  obtain ⟨o6, o⟩ := He.ba o
  obtain ⟨o7, o⟩ := He.ba o
  obtain ⟨o8, o⟩ := He.ba o
  obtain ⟨o9, o10⟩ := He.ba o
  have me := metB_ok o1
  refine ⟨⟨c1, c2, c3, He.eqO_ok c4⟩, ⟨m1, mi.at_, mi.fn, m3⟩, ⟨me.at_, me.fn, He.eqO_ok o2, of_decide_eq_true o3, of_decide_eq_true o4, of_decide_eq_true o5, of_decide_eq_true o6, of_decide_eq_true o7, of_decide_eq_true o8, of_decide_eq_true o9, of_decide_eq_true o10⟩,
    He.eqO_ok h4, He.eqO_ok h5, He.eqO_ok h6, He.eqO_ok h7, of_decide_eq_true h8, of_decide_eq_true h9, of_decide_eq_true h10, fun T hT => ?_⟩
  obtain ⟨k1, k2⟩ := He.ba (List.all_eq_true.mp h11 T hT)
  exact ⟨of_decide_eq_true k1, k2⟩
def klzB (K : PySem.W.Frag) : Bool := oneHB K (qA K) && (oneHB K (tA K) && (decide (PySem.W.kitOne K (.ref (tA K)) (.ref (qA K)) = some false) && (decide (PySem.W.kitOne K (.ref (qA K)) (.ref (tA K)) = some false) &&
  (PySem.W.notFirst K (qA K) (.ref (tA K)) && (PySem.W.notFirst K (tA K) (.ref (qA K)) && (gloB K "Quarter" && (gloB K "Town" && (metB K (qA K) "streets" && (metB K (qA K) "gates" && metB K (tA K) "streets")))))))))
def defs1 : List Str := ["is_whole", "is_count", "turned", "shortest_rows", "_is_better", "is_word", "is_street", "are_streets", "check_streets", "are_gates", "check_gates", "check_quarter", "check_town", "ends_of", "crossings_of", "street_of", "places_of", "asked_of", "_place", "_side_streets", "streets_of_net", "check_places", "asked_net", "_best_way", "way_length", "used_streets", "needed_streets", "_law_purse", "_law_mixed", "_law_draw", "_law_purses", "_law_one_of"]
def defs2 : List Str := ["_law_shuffled", "_law_exact", "_law_word", "_law_words", "_law_width", "_law_length", "_law_pair", "_law_shape", "_law_streets_of", "_law_world", "_law_quarter", "_law_town_world", "_law_place", "_law_inner", "_law_net", "_law_places", "_law_asked", "_law_shut", "_law_far", "_law_ways", "_law_drawn_net", "_law_town", "_law_pairs", "_law_ends_of", "_law_unspoilt", "_law_rows_of", "_law_way_length", "_law_used", "_law_shut_one", "_law_pair_right", "_law_right", "law"]
def defs : List Str := defs1 ++ defs2
/-- the pair (None, None) of a module -/
def nwB (K : PySem.W.Frag) : Bool := match K.lookup (He.ga K "_NO_WAY") with
  | some o => (match o.cls with
    | .type t => decide (t = "tuple")
    | _ => false) && (match o.data with
    | .seq its _ => (match its.toList with
      | [.none, .none] => true
      | _ => false)
    | _ => false)
  | none => false
theorem nwB_ok {K : PySem.W.Frag} (h : nwB K = true) : ∀ H, SqT K H (He.ga K "_NO_WAY") [.non, .non] := fun H => by
  unfold nwB at h
  split at h
  · rename_i o ho
    obtain ⟨h1, h2⟩ := He.ba h
    split at h1
    · rename_i t ht
      split at h2
      · rename_i its n hd
        split at h2
        · rename_i hl
          refine Or.inr ⟨o, its, n, ho, ?_, hd, ?_, ?_⟩
          · rw [ht, of_decide_eq_true h1]
          · have : its.size = 2 := by rw [← Array.length_toList, hl]; rfl
            rw [this, sizeLine_eq]
            decide
          · rw [hl]
            exact .cons rfl (.cons rfl .nil)
        · cases h2
      · cases h2
    · cases h1
  · cases h
def chk (K : PySem.W.Frag) : Bool := (gloB K "_NO_WAY" && nwB K) && (klzB K && ((K.lookup sysModules).isSome && ((frees.all fun x => He.eqO (PySem.W.nsIn K mainGlobals x) (some none)) && defs.all fun x => gloB K x)))
/-! ### the head -/
def dM (C m : Str) (q : Str) (st : Stmt) : He.DefD := ⟨(C, some m), m, q, defArgs st, defBody st, defScope st, [], []⟩
def dF (x : Str) (st : Stmt) : He.DefD := ⟨(x, none), x, x, defArgs st, defBody st, defScope st, [], []⟩
def sts : List Stmt := [sWhole, sCount, sTurned, sShortest, sBetter, sIsWord, sIsStreet, sAreStreets, sChkStreets, sAreGates, sChkGates, sChkQuarter, sChkTown, sEndsOf, sCrossings, sStreetOf, sPlacesOf, sAskedOf, sPlace_, sSide, sNetStreets, sChkPlaces, sAskedNet, sBestWay, sWayLength, sUsed_, sNeeded_, sPurse, sMixed, sDraw, sPurses, sOneOf, sShuffled, sExact, sWord, sWords, sWidth, sLength, sPair, sShape, sStreetsOf, sWorld, sQuarter, sTownWorld, sPlace, sInner, sNet, sPlaces, sAsked, sShutW, sFar, sWays, sDrawnNet, sTown, sPairs, sEndsL, sUnspoilt, sRowsOf, sWayLen, sUsed, sShutOne, sPairR, sRight, sLaw]
def fn : List He.DefD := (defs.zip sts).map (fun p => dF p.1 p.2) ++ [dM "Quarter" "__init__" "Quarter.__init__" sQInit, dM "Quarter" "streets" "Quarter.streets" sQStreets, dM "Quarter" "gates" "Quarter.gates" sQGates, dM "Quarter" "__eq__" "Quarter.__eq__" sQEq, dM "Town" "__init__" "Town.__init__" sTInit, dM "Town" "streets" "Town.streets" sTStreets, dM "Town" "__eq__" "Town.__eq__" sTEq]
abbrev Al : Type := Bool × List He.FnW
def obsK (K : PySem.W.Frag) : Al := (chk K && fn.all fun d => d.ok K, fn.map fun d => He.fnW K d.at_)
def valK : Al := (true, fn.map He.DefD.val)
def Says (K : PySem.W.Frag) : Prop := obsK K = valK
def obsN (g : Addr → Option Obj) : Al := obsK (He.frG g (sysModules :: He.asD g 5))
abbrev hk : PySem.W.Hook where
  α := Al
  obs := fun s => obsN s.heap.get?
  val := fun _ => valK
  says := fun _ h => ∃ K : PySem.W.Frag, K.In h ∧ Says K
  of := fun _ _ e => ⟨_, He.frG_in, e⟩
  keeps := fun _ _ _ ⟨K, hK, c⟩ k => ⟨K, PySem.W.Frag.In.keeps hK k, c⟩
def ob (s : PySem.W.SharedT) : Al := obsN (HandSHeadRun.getT s)
theorem ob_eq (s : PySem.W.SharedT) : ob s = hk.obs s.abs := by
  have e : HandSHeadRun.getT s = s.abs.heap.get? := funext (HandSHeadRun.getT_eq s)
  show obsN (HandSHeadRun.getT s) = obsN s.abs.heap.get?
  rw [e]
section
variable {K : PySem.W.Frag}
theorem Says.chk (c : Says K) : chk K = true := (He.ba (show (K13.chk K && fn.all fun d => d.ok K) = true from congrArg (fun z : Al => z.1) c)).1
theorem Says.def_ (c : Says K) (i : Nat) {d : He.DefD} (h : fn[i]? = some d := by rfl) : ∃ fd, FunD K d.name d.qual d.params d.body d.scope (d.dvs K) (d.kws K) (He.fAd K d.at_) fd := by
  have c2 := (He.ba (show (K13.chk K && fn.all fun d => d.ok K) = true from congrArg (fun z : Al => z.1) c)).2
  have e : fn.map (fun d => He.fnW K d.at_) = fn.map He.DefD.val := congrArg (fun z : Al => z.2) c
  have e2 : (fn.map fun d => He.fnW K d.at_)[i]? = (fn.map He.DefD.val)[i]? := by rw [e]
  rw [List.getElem?_map, List.getElem?_map, h] at e2
  exact He.DefD.funD (Option.some.inj e2) (List.all_eq_true.mp c2 d (List.mem_of_getElem? h))
theorem tx_of {h : Heap} {mg : Str → Option Value} (X : K.In h) (G : h.Ns mainGlobals mg) (c : chk K = true) :
    Tx K mg ∧ (∀ x ∈ defs, mg x = some (.ref (He.ga K x))) ∧ Klz K mg (qA K) (tA K) (He.ma K (qA K) "__init__") (He.ma K (tA K) "__init__") (He.ma K (qA K) "__eq__") (He.ma K (tA K) "__eq__") (He.ma K (qA K) "streets") (He.ma K (tA K) "streets") (He.ma K (qA K) "gates") ∧ mg "_NO_WAY" = some (.ref (He.ga K "_NO_WAY")) ∧ (∀ H, SqT K H (He.ga K "_NO_WAY") [.non, .non]) := by
  obtain ⟨c0, c⟩ := He.ba c
  obtain ⟨w1, w2⟩ := He.ba c0
  obtain ⟨c1, c⟩ := He.ba c
  obtain ⟨c2, c⟩ := He.ba c
  obtain ⟨c3, c4⟩ := He.ba c
  obtain ⟨k1, k⟩ := He.ba c1
  obtain ⟨k2, k⟩ := He.ba k
  obtain ⟨k3, k⟩ := He.ba k
  obtain ⟨k4, k⟩ := He.ba k
  obtain ⟨k5, k⟩ := He.ba k
  obtain ⟨k6, k⟩ := He.ba k
  obtain ⟨k7, k⟩ := He.ba k
  obtain ⟨k8, k⟩ := He.ba k
  obtain ⟨k9, k⟩ := He.ba k
  obtain ⟨k10, k11⟩ := He.ba k
  refine ⟨⟨fun x hx => PySem.W.mg_none_of X G (He.eqO_ok (List.all_eq_true.mp c3 x hx))⟩, fun x hx => PySem.W.mg_of X G (He.eqO_ok (List.all_eq_true.mp c4 x hx)), ?_, PySem.W.mg_of X G (He.eqO_ok w1), nwB_ok w2⟩
  exact ⟨oneHB_ok k1, oneHB_ok k2, of_decide_eq_true k3, of_decide_eq_true k4, k5, k6, PySem.W.mg_of X G (He.eqO_ok k7), PySem.W.mg_of X G (He.eqO_ok k8), metB_ok k9, metB_ok k10, metB_ok k11⟩
end
end K13
end
section
set_option Elab.async false
set_option linter.all false
set_option maxRecDepth 100000
set_option maxHeartbeats 0
namespace K13
open PySem PySem.W PySem.Calls PyProof.Rows
abbrev R : OpenRow := OpenLaw.row PySem.Challenge.rw_gatequarters_k13_whole_used_and_needed_s
def n1 : List PySem.Str := ["GateError", "InvalidStreets", "InvalidGates", "InvalidQuarter", "InvalidTown", "InvalidPlace", "InvalidName", "is_whole", "is_count", "turned", "shortest_rows", "_is_better", "is_word", "is_street", "are_streets", "check_streets", "are_gates", "check_gates", "Quarter", "Town", "check_quarter", "check_town", "ends_of", "crossings_of"]
def n2 : List PySem.Str := ["street_of", "places_of", "asked_of", "_place", "_side_streets", "streets_of_net", "check_places", "asked_net", "_NO_WAY", "_best_way", "way_length", "used_streets", "needed_streets", "_law_purse", "_law_mixed", "_law_draw", "_law_purses", "_law_one_of", "_law_shuffled", "_law_exact", "_law_word", "_law_words", "_law_width", "_law_length"]
def n3 : List PySem.Str := ["_law_pair", "_law_shape", "_law_streets_of", "_law_world", "_law_quarter", "_law_town_world", "_law_place", "_law_inner", "_law_net", "_law_places", "_law_asked", "_law_shut", "_law_far", "_law_ways", "_law_drawn_net", "_law_town", "_law_pairs", "_law_ends_of", "_law_unspoilt", "_law_rows_of", "_law_way_length", "_law_used", "_law_shut_one", "_law_pair_right", "_law_right"]
def names : List PySem.Str := n1 ++ n2 ++ n3
abbrev qv : Program := view R.prog [80]
theorem run (w : World) : HandSHeadRun.RunEq R qv hk ob 12000 names w := by
  intro os
  kernel_rfl
end K13
end
section
set_option Elab.async false
set_option linter.all false
set_option maxRecDepth 100000
set_option maxHeartbeats 8000000
namespace K13
open PySem PySem.Spec PyProof.Rows L2
section
variable {P : Program} {w : World} {K : PySem.W.Frag} {mg : Str → Option Value} {base : Heap}
theorem ok_tInit {C iQ eQ : Addr} {f : Addr} {fd : FuncData} (F : FnM K "__init__" "Town.__init__" sTInit f fd) (c : ClsF K C iQ eQ) (GS : Fz P w K mg base "check_streets" 5 ["value"] (spChkStreets K)) (T : Tx K mg) :
    FnOk P w K mg base CX0 6 f fd ["self", "streets"] (spInitT C) := by
  refine F.ok scTInit (fun vs H Q E h => ?_) (fun cdv A outer s H vs Q E hr h => ?_)
  · obtain ⟨_, _, _, _, rfl, _⟩ := h
    rfl
  · obtain ⟨x, dx, l, ts, rfl, hx, hl, so, q⟩ := h
    have gSo := T.fr "sorted" (by decide +kernel)
    have s60 := so.l
    refine ⟨_, PSs.nox (pss_cons (ps_expr (pe_fz GS hr (by rfl) (pa_cons (pv 1) pa_nil))) (pss_one (ps_fld (pv 0) (pe_callB cr_sortedTx (by rfl) gSo (by decide +kernel) (pa_cons (pv 1) pa_nil)) rfl))), ?_⟩
    refine ⟨_, rfl, l, ts, rfl, hl, fun t ht => so.ok _ (List.mem_map.mpr ⟨t, ht, rfl⟩), by rw [nms_snds]; exact so.nd, by rw [List.length_map] at s60; omega, fun H1 s1 => ?_⟩
    have hl2 := hl.keep s1
    refine ⟨_, rfl, l, _, nameAt H1, rfl, SqL.of hl2.1, sort_a hl2, sort_b hl2 so.nd, fun ys l' pm pw nl' => ?_⟩
    obtain ⟨ts', pt, as, rfl⟩ := sort_c hl2 pm pw
    have s3 := same_upd (o := .lst (ts'.map fun t => V.ref t.1)) nl'
    refine ⟨_, rfl, x, C, dx, _, rfl, s3 _ _ (s1 _ _ hx), c.cl, c.n1, by decide, ?_⟩
    have hl3 : upd H1 l' (.lst (ts'.map fun t => V.ref t.1)) l' = some (.lst (ts'.map fun t => V.ref t.1)) := upd_same
    have hx2 := s1 _ _ hx
    have s03 := same_trans s1 s3
    have nlx : l' ≠ x := fun e => by rw [e, hx2] at nl'; cases nl'
    have nl0 := s1.free nl'
    have hts : ∀ t ∈ ts', H t.1 = some (.tup t.2.vals) := fun t ht => hl.2 t (pt.mem_iff.mp ht)
    generalize upd H1 l' (.lst (ts'.map fun t => V.ref t.1)) = H3 at hl3 s03 ⊢
    have b4 : But x H (upd H3 x (.ins C dx (putF "_streets" (.ref l') []))) := fun b o nb e => by
      rw [upd_ne nb]
      exact s03 _ _ e
    refine q _ l' ts' b4 nl0 ⟨?_, ⟨?_, fun t ht => b4 _ _ (fun e => ?_) (hts t ht)⟩⟩ pt as
    · rw [upd_same]
      rfl
    · rw [upd_ne nlx]
      exact hl3
    · have h1 := hts t ht
      rw [e, hx] at h1
      cases h1
/-! ### streets(), gates() -/
/-- the list of the field comes back as a new one -/
def spFld (C : Addr) (fl : Str) : Sp := fun vs H Q _ => ∃ (x dx l : Addr) (fs : List (Str × V)) (xs : List V), vs = [.ref x] ∧ H x = some (.ins C dx fs) ∧ fs.lookup fl = some (.ref l) ∧ H l = some (.lst xs) ∧ ∀ D, H D = none → Q (.ref D) (upd H D (.lst xs))
theorem scQS : FnScope ["self"] ["self"] (defScope sQStreets) := ⟨rfl, rfl, rfl, by decide +kernel, rfl, by decide +kernel, by decide +kernel⟩
theorem scQG : FnScope ["self"] ["self"] (defScope sQGates) := ⟨rfl, rfl, rfl, by decide +kernel, rfl, by decide +kernel, by decide +kernel⟩
theorem scTS : FnScope ["self"] ["self"] (defScope sTStreets) := ⟨rfl, rfl, rfl, by decide +kernel, rfl, by decide +kernel, by decide +kernel⟩
theorem ok_qStreets {C iQ eQ : Addr} {f : Addr} {fd : FuncData} (F : FnM K "streets" "Quarter.streets" sQStreets f fd) (c : ClsF K C iQ eQ) (T : Tx K mg) : FnOk P w K mg base CX0 1 f fd ["self"] (spFld C "_streets") := by
  refine F.ok scQS (fun vs H Q E h => ?_) (fun cdv A outer s H vs Q E hr h => ?_)
  · obtain ⟨_, _, _, _, _, rfl, _⟩ := h
    rfl
  · obtain ⟨x, dx, l, fs, xs, rfl, hx, hf, hl, q⟩ := h
    have gLi := T.fr "list" (by decide +kernel)
    refine ⟨_, PSs.nox (pss_one (ps_ret (pe_callTy call_list_of (by rfl) gLi (by decide +kernel) (pa_cons (pe_fld (pv 0) rfl) pa_nil)))), ?_⟩
    exact ⟨_, rfl, x, C, dx, fs, _, rfl, hx, c.cl, c.n1, hf, l, _, rfl, Or.inl (SqL.of hl), fun D nD => q D nD⟩
theorem ok_qGates {C iQ eQ : Addr} {f : Addr} {fd : FuncData} (F : FnM K "gates" "Quarter.gates" sQGates f fd) (c : ClsF K C iQ eQ) (T : Tx K mg) : FnOk P w K mg base CX0 1 f fd ["self"] (spFld C "_gates") := by
  refine F.ok scQG (fun vs H Q E h => ?_) (fun cdv A outer s H vs Q E hr h => ?_)
  · obtain ⟨_, _, _, _, _, rfl, _⟩ := h
    rfl
  · obtain ⟨x, dx, l, fs, xs, rfl, hx, hf, hl, q⟩ := h
    have gLi := T.fr "list" (by decide +kernel)
    refine ⟨_, PSs.nox (pss_one (ps_ret (pe_callTy call_list_of (by rfl) gLi (by decide +kernel) (pa_cons (pe_fld (pv 0) rfl) pa_nil)))), ?_⟩
    exact ⟨_, rfl, x, C, dx, fs, _, rfl, hx, c.cl, c.n2, hf, l, _, rfl, Or.inl (SqL.of hl), fun D nD => q D nD⟩
theorem ok_tStreets {C iQ eQ : Addr} {f : Addr} {fd : FuncData} (F : FnM K "streets" "Town.streets" sTStreets f fd) (c : ClsF K C iQ eQ) (T : Tx K mg) : FnOk P w K mg base CX0 1 f fd ["self"] (spFld C "_streets") := by
  refine F.ok scTS (fun vs H Q E h => ?_) (fun cdv A outer s H vs Q E hr h => ?_)
  · obtain ⟨_, _, _, _, _, rfl, _⟩ := h
    rfl
  · obtain ⟨x, dx, l, fs, xs, rfl, hx, hf, hl, q⟩ := h
    have gLi := T.fr "list" (by decide +kernel)
    refine ⟨_, PSs.nox (pss_one (ps_ret (pe_callTy call_list_of (by rfl) gLi (by decide +kernel) (pa_cons (pe_fld (pv 0) rfl) pa_nil)))), ?_⟩
    exact ⟨_, rfl, x, C, dx, fs, _, rfl, hx, c.cl, c.n1, hf, l, _, rfl, Or.inl (SqL.of hl), fun D nD => q D nD⟩
/-! ### == -/
/-- of two quarters, of a quarter and something else -/
def spEqQ (CQ CT : Addr) : Sp := fun vs H Q _ => ∃ (a : Addr) (y : V) (dx l g : Addr) (ts : List (Addr × S5)) (gs : List Str), vs = [.ref a, y] ∧ QuP H CQ a dx l g ts gs ∧ SOk (snds ts) ∧ GOk gs ∧
  ((∃ b dx' l' g' ts' gs', y = .ref b ∧ QuP H CQ b dx' l' g' ts' gs' ∧ SOk (snds ts') ∧ GOk gs' ∧ Q (.bl (decide (snds ts = snds ts' ∧ gs = gs'))) H) ∨
   (∃ T, KindV H y (.type T) ∧ Q (.bl false) H) ∨ ∃ b dx' fs, y = .ref b ∧ H b = some (.ins CT dx' fs) ∧ Q (.bl false) H)
def spEqT (CQ CT : Addr) : Sp := fun vs H Q _ => ∃ (a : Addr) (y : V) (dx l : Addr) (ts : List (Addr × S5)), vs = [.ref a, y] ∧ TwP H CT a dx l ts ∧ SOk (snds ts) ∧
  ((∃ b dx' l' ts', y = .ref b ∧ TwP H CT b dx' l' ts' ∧ SOk (snds ts') ∧ Q (.bl (decide (snds ts = snds ts'))) H) ∨
   (∃ T, KindV H y (.type T) ∧ Q (.bl false) H) ∨ ∃ b dx' fs, y = .ref b ∧ H b = some (.ins CQ dx' fs) ∧ Q (.bl false) H)
theorem scQEq : FnScope ["self", "other"] ["self", "other"] (defScope sQEq) := ⟨rfl, rfl, rfl, by decide +kernel, rfl, by decide +kernel, by decide +kernel⟩
theorem scTEq : FnScope ["self", "other"] ["self", "other"] (defScope sTEq) := ⟨rfl, rfl, rfl, by decide +kernel, rfl, by decide +kernel, by decide +kernel⟩
theorem dp_of {H : Hp} {l : Addr} {ts : List (Addr × S5)} (h : Sts H l ts) : Dp K H (.ref l) (.list ((snds ts).map S5.data)) := by
  refine .lst (SqL.of h.1) ?_
  have := dp_sts (K := K) h.2
  show DpAll K H _ ((ts.map fun t => t.2).map S5.data)
  rw [List.map_map]
  exact this
theorem dp_ws {H : Hp} {l : Addr} {gs : List Str} (h : Ws H l gs) : Dp K H (.ref l) (.list (gs.map PyData.str)) := .lst (SqL.of h) (dp_strs gs)
theorem ok_qEq {CQ CT iQ iT eQ eT sQ sT gQ : Addr} {f : Addr} {fd : FuncData} (F : FnM K "__eq__" "Quarter.__eq__" sQEq f fd) (Z : Klz K mg CQ CT iQ iT eQ eT sQ sT gQ) (T : Tx K mg) : FnOk P w K mg base CX0 1 f fd ["self", "other"] (spEqQ CQ CT) := by
  refine F.ok scQEq (fun vs H Q E h => ?_) (fun cdv A outer s H vs Q E hr h => ?_)
  · obtain ⟨_, _, _, _, _, _, _, rfl, _⟩ := h
    rfl
  · obtain ⟨a, y, dx, l, g, ts, gs, rfl, ha, so, go, h⟩ := h
    have gIs := T.fr "isinstance" (by decide +kernel)
    refine ⟨_, PSs.nox (pss_one (ps_ret (pe_and (pe_callB call_isi (by rfl) gIs (by decide +kernel) (pa_cons (pv 1) (pa_cons (C8.pe_gc (v := .ref CQ) (by rfl) ⟨_, Z.mQ, rfl⟩) pa_nil)))
      (pe_and (pe_cmpR (op_eqD hr.units) (pe_fld (pv 0) rfl) (pe_fld (pv 1) rfl) (nomark _)) (pe_one (pe_cmpR (op_eqD hr.units) (pe_fld (pv 0) rfl) (pe_fld (pv 1) rfl) (nomark _))))))), ?_⟩
    rcases h with ⟨b, dx', l', g', ts', gs', rfl, hb, so', go', q⟩ | ⟨T', k, q⟩ | ⟨b, dx', fs, rfl, hb, q⟩
    · refine ⟨_, rfl, _, _, _, _, _, rfl, .own _, Z.q.ty hb.at_, Z.q.kC, _, rfl, ifT rfl ?_⟩
      refine ⟨_, rfl, a, CQ, dx, _, _, rfl, ha.at_, Z.q.cl, Z.q.n1, rfl, _, rfl, b, CQ, dx', _, _, rfl, hb.at_, Z.q.cl, Z.q.n1, rfl, _, _, dp_of ha.s, dp_of hb.s, sts_shaped so.ok, sts_shaped so'.ok, ?_⟩
      rw [eqv_sts]
      refine ⟨_, rfl, ite2 (fun e => ?_) (fun e => ?_)⟩
      · have e1 := of_decide_eq_true e
        refine ⟨_, rfl, a, CQ, dx, _, _, rfl, ha.at_, Z.q.cl, Z.q.n2, rfl, _, rfl, b, CQ, dx', _, _, rfl, hb.at_, Z.q.cl, Z.q.n2, rfl, _, _, dp_ws ha.g, dp_ws hb.g, strs_shaped go.wd, strs_shaped go'.wd, ?_⟩
        rw [eqv_strs]
        have e2 : decide (gs = gs') = decide (snds ts = snds ts' ∧ gs = gs') := by
          congr 1
          exact propext ⟨fun z => ⟨e1, z⟩, fun z => z.2⟩
        rw [e2]
        exact q
      · have e1 : ¬ (snds ts = snds ts') := fun z => e (decide_eq_true z)
        rw [decide_eq_false (fun z => e1 z.1)] at q
        exact q
    · exact ⟨_, rfl, _, _, _, _, _, rfl, .own _, (kind_ty (K := K) k).1, (Z.q.kk _ (kind_ty (K := K) k).2).1, _, rfl, ifF (by decide) q⟩
    · exact ⟨_, rfl, _, _, _, _, _, rfl, .own _, Z.t.ty hb, Z.kQT, _, rfl, ifF (by decide) q⟩
theorem ok_tEq {CQ CT iQ iT eQ eT sQ sT gQ : Addr} {f : Addr} {fd : FuncData} (F : FnM K "__eq__" "Town.__eq__" sTEq f fd) (Z : Klz K mg CQ CT iQ iT eQ eT sQ sT gQ) (T : Tx K mg) : FnOk P w K mg base CX0 1 f fd ["self", "other"] (spEqT CQ CT) := by
  refine F.ok scTEq (fun vs H Q E h => ?_) (fun cdv A outer s H vs Q E hr h => ?_)
  · obtain ⟨_, _, _, _, _, rfl, _⟩ := h
    rfl
  · obtain ⟨a, y, dx, l, ts, rfl, ha, so, h⟩ := h
    have gIs := T.fr "isinstance" (by decide +kernel)
    refine ⟨_, PSs.nox (pss_one (ps_ret (pe_and (pe_callB call_isi (by rfl) gIs (by decide +kernel) (pa_cons (pv 1) (pa_cons (C8.pe_gc (v := .ref CT) (by rfl) ⟨_, Z.mT, rfl⟩) pa_nil)))
      (pe_one (pe_cmpR (op_eqD hr.units) (pe_fld (pv 0) rfl) (pe_fld (pv 1) rfl) (nomark _)))))), ?_⟩
    rcases h with ⟨b, dx', l', ts', rfl, hb, so', q⟩ | ⟨T', k, q⟩ | ⟨b, dx', fs, rfl, hb, q⟩
    · refine ⟨_, rfl, _, _, _, _, _, rfl, .own _, Z.t.ty hb.at_, Z.t.kC, _, rfl, ifT rfl ?_⟩
      refine ⟨_, rfl, a, CT, dx, _, _, rfl, ha.at_, Z.t.cl, Z.t.n1, rfl, _, rfl, b, CT, dx', _, _, rfl, hb.at_, Z.t.cl, Z.t.n1, rfl, _, _, dp_of ha.s, dp_of hb.s, sts_shaped so.ok, sts_shaped so'.ok, ?_⟩
      rw [eqv_sts]
      exact q
    · exact ⟨_, rfl, _, _, _, _, _, rfl, .own _, (kind_ty (K := K) k).1, (Z.t.kk _ (kind_ty (K := K) k).2).1, _, rfl, ifF (by decide) q⟩
    · exact ⟨_, rfl, _, _, _, _, _, rfl, .own _, Z.q.ty hb, Z.kTQ, _, rfl, ifF (by decide) q⟩
end
end K13
end
section
set_option Elab.async false
set_option linter.all false
set_option maxRecDepth 100000
set_option maxHeartbeats 8000000
namespace K13
open PySem PySem.Spec PyProof.Rows L2
/-- a method of the class as it is called -/
def Mz (P : Program) (w : World) (K : PySem.W.Frag) (mg : Str → Option Value) (base : Heap) (C : Addr) (m : Str) (k : Nat) (sp : Sp) : Prop :=
  Cls K C ∧ ∃ (g : Addr) (fd : FuncData), Meth K C m g ∧ FnOk P w K mg base CX0 k g fd ["self"] sp ∧ Binds K fd ["self"] []
section
variable {X : Cx} {m : Str} {k : Nat} {C : Addr} {sp : Sp} {pos apos : Pos} {o : Expr} {ta : TE}
theorem pe_mz {pl : Sem Bool} (Z : Mz X.prog X.w X.K X.mg X.base C m k sp) (he : PE X o ta) (hr : Room k X.A)
    (ht : eval (.Call (.Attribute o m apos) [] [] pos) X.env = (do
      let ov ← eval o X.env
      standAt apos.atName
      let (f, first) ← holding [ov] (getMethod ov m pl)
      callWith pos f first (backTo pos (starEach [] X.env)) (backToKw pos (keywordEach [] X.env))) := by rfl) :
    PE X (.Call (.Attribute o m apos) [] [] pos) (tMeth C m sp [] E0 ta tNil) := by
  obtain ⟨c, g, fd, M, F, b⟩ := Z
  exact pe_meth0 he c M F hr b .nil pass0 ht
end
theorem addL_nodup {L : List Str} {k : Str} (h : L.Nodup) : (TxSet.addL L k).Nodup := by
  unfold TxSet.addL
  split
  · exact h
  · rename_i e
    exact List.nodup_cons.mpr ⟨e, h⟩
theorem fold_nodup : ∀ {ks L : List Str}, L.Nodup → (ks.foldl TxSet.addL L).Nodup
  | [], _, h => h
  | k :: ks, L, h => fold_nodup (ks := ks) (addL_nodup h)
theorem fold_len : ∀ {ks L : List Str}, (ks.foldl TxSet.addL L).length ≤ ks.length + L.length
  | [], L => by simp
  | k :: ks, L => by
    have h1 := fold_len (ks := ks) (L := TxSet.addL L k)
    have h2 := TxSet.addL_len L k
    rw [List.foldl_cons, List.length_cons]
    omega
/-- the words of us are just those of ks, ascending -/
structure Told (us ks : List Str) : Prop where
  asc : Asc us
  nd : us.Nodup
  mem : ∀ x, x ∈ us ↔ x ∈ ks
theorem told_set {us ks : List Str} (p : us.Perm (ks.foldl TxSet.addL [])) (a : SrtX.Asc us) : Told us ks := ⟨a, p.nodup_iff.mpr (fold_nodup List.nodup_nil), fun x => by
  rw [p.mem_iff, TxSet.fold_mem]
  simp⟩
theorem Told.uniq {us vs ks ks' : List Str} (a : Told us ks) (b : Told vs ks') (h : ∀ x, x ∈ ks ↔ x ∈ ks') : us = vs := asc_ext a.nd b.nd (fun x => by rw [a.mem, b.mem, h]) a.asc b.asc
def ends (ss : List S5) : List Str := ss.map S5.st ++ ss.map S5.en
section
variable {P : Program} {w : World} {K : PySem.W.Frag} {mg : Str → Option Value} {base : Heap}
/-! ### check_quarter, check_town -/
def spIns (C : Addr) : Sp := fun vs H Q _ => ∃ (q dx : Addr) (fs : List (Str × V)), vs = [.ref q] ∧ H q = some (.ins C dx fs) ∧ Q .non H
theorem scChkQ : FnScope ["value"] ["value"] (defScope sChkQuarter) := ⟨rfl, rfl, rfl, by decide +kernel, rfl, by decide +kernel, by decide +kernel⟩
theorem scChkT : FnScope ["value"] ["value"] (defScope sChkTown) := ⟨rfl, rfl, rfl, by decide +kernel, rfl, by decide +kernel, by decide +kernel⟩
theorem ok_chkQ {CQ iQ eQ : Addr} {f : Addr} {fd : FuncData} (F : FnP K "check_quarter" sChkQuarter f fd) (c : ClsF K CQ iQ eQ) (hm : mg "Quarter" = some (.ref CQ)) (T : Tx K mg) : FnOk P w K mg base CX0 1 f fd ["value"] (spIns CQ) := by
  refine F.ok scChkQ (fun vs H Q E h => ?_) (fun cdv A outer s H vs Q E hr h => ?_)
  · obtain ⟨_, _, _, rfl, _⟩ := h
    rfl
  · obtain ⟨q, dx, fs, rfl, hq, z⟩ := h
    have gIs := T.fr "isinstance" (by decide +kernel)
    refine ⟨_, PSs.nox (pss_one (ps_if (pt_not (pt_val (pe_callB call_isi (by rfl) gIs (by decide +kernel) (pa_cons (pv 0) (pa_cons (C8.pe_gc (v := .ref CQ) (by rfl) ⟨_, hm, rfl⟩) pa_nil))))) (pss_one ps_never) pss_nil)), ?_⟩
    exact ⟨_, rfl, _, _, _, _, _, rfl, .own _, c.ty hq, c.kC, _, rfl, ifF (by decide) z⟩
theorem ok_chkT {CQ iQ eQ : Addr} {f : Addr} {fd : FuncData} (F : FnP K "check_town" sChkTown f fd) (c : ClsF K CQ iQ eQ) (hm : mg "Town" = some (.ref CQ)) (T : Tx K mg) : FnOk P w K mg base CX0 1 f fd ["value"] (spIns CQ) := by
  refine F.ok scChkT (fun vs H Q E h => ?_) (fun cdv A outer s H vs Q E hr h => ?_)
  · obtain ⟨_, _, _, rfl, _⟩ := h
    rfl
  · obtain ⟨q, dx, fs, rfl, hq, z⟩ := h
    have gIs := T.fr "isinstance" (by decide +kernel)
    refine ⟨_, PSs.nox (pss_one (ps_if (pt_not (pt_val (pe_callB call_isi (by rfl) gIs (by decide +kernel) (pa_cons (pv 0) (pa_cons (C8.pe_gc (v := .ref CQ) (by rfl) ⟨_, hm, rfl⟩) pa_nil))))) (pss_one ps_never) pss_nil)), ?_⟩
    exact ⟨_, rfl, _, _, _, _, _, rfl, .own _, c.ty hq, c.kC, _, rfl, ifF (by decide) z⟩
/-! ### ends_of -/
def spEndsOf : Sp := fun vs H Q _ => ∃ (l : Addr) (ts : List (Addr × S5)), vs = [.ref l] ∧ Sts H l ts ∧ ts.length ≤ 60 ∧ ∀ (D : Addr) (H' : Hp), Same H H' → H D = none → Ws H' D (ends (snds ts)) → Q (.ref D) H'
theorem scEndsOf : FnScope ["streets", "street"] ["streets"] (defScope sEndsOf) := ⟨rfl, rfl, rfl, by decide +kernel, rfl, by decide +kernel, by decide +kernel⟩
/-- [street[j] for street in streets] -/
theorem lc_part {H1 : Hp} {l : Addr} {ts : List (Addr × S5)} {g : S5 → Str} {j : Nat} (hj : ∀ s : S5, s.vals[j]? = some (.str (g s))) {σ : L2.St} {i : Nat} {D : Addr} {Qd : Hp → Prop} (nD : H1 D = none) (hl : Sts H1 l ts) (h60 : ts.length ≤ 60)
    (hi : ∀ v, ((wipe σ [i]).set i (some v))[i]? = some (some v)) (hw : ∀ v, wipe ((wipe σ [i]).set i (some v)) [i] = wipe σ [i]) (fin : ∀ H', Same H1 H' → Ws H' D (ts.map fun t => g t.2) → Qd H') :
    ∃ W : Nat → Nat → Hp → Prop, (∃ m, W 0 m (upd H1 D (.lst []))) ∧ ∀ n m H, W n m H →
      ((Itl K l).stop n H ∧ Qd H) ∨ ((Itl K l).go n H ∧ ∃ Nx : Hp → Prop, (∀ H', Nx H' → ∃ m', m' < m ∧ W (n + 1) m' H') ∧ ∀ x H', (Itl K l).yld n H x H' → gName i x (wipe σ [i]) H' fun σ2 H2 => wipe σ2 [i] = wipe σ [i] ∧ tYes σ2 H2 fun b H3 =>
        if b = true then tOp (rIxT K) (tVar i) (tC (.int (j : Nat))) σ2 H3 fun y H4 => ∃ acc, H4 D = some (.lst acc) ∧ acc.length < sizeLine ∧ Nx (upd H4 D (.lst (acc ++ [y]))) else Nx H3) := by
  have sl := sizeLine_eq
  refine lc_list (K := K) (a := l) (xs := ts.map fun t => V.ref t.1) (fun n H' => Same H1 H' ∧ H' D = some (.lst (((ts.map fun t => g t.2).take n).map V.str))) ⟨same_upd nD, upd_same⟩ (fun n H' _ h => SqL.of (h.1 _ _ hl.1)) ?_ ?_
  · rintro n x H' hn ⟨s1, hD⟩
    rw [List.getElem?_map] at hn
    cases e : ts[n]? with
    | none =>
      rw [e] at hn
      cases hn
    | some t =>
      rw [e] at hn
      cases hn
      have tm := List.mem_of_getElem? e
      have lt := (List.getElem?_eq_some_iff.mp e).1
      refine ⟨hw _, _, hi _, t.1, _, _, _, rfl, rfl, SqT.of (s1 _ _ (hl.2 t tm)), atI_nat (hj t.2), _, hD, ?_, fun b o eb => ?_, ?_⟩
      · rw [List.length_map, List.length_take, List.length_map]
        omega
      · rw [upd_ne (ne_of_none eb nD)]
        exact s1 _ _ eb
      · have et : (ts.map fun t => g t.2).take (n + 1) = (ts.map fun t => g t.2).take n ++ [g t.2] := by
          rw [List.take_add_one, List.getElem?_map, e]
          rfl
        rw [upd_same, et, List.map_append]
        rfl
  · rintro H' ⟨s1, hD⟩
    refine fin H' s1 ?_
    rw [List.take_of_length_le (by rw [List.length_map, List.length_map]; exact Nat.le_refl _)] at hD
    exact hD
theorem ok_endsOf {f : Addr} {fd : FuncData} (F : FnP K "ends_of" sEndsOf f fd) (T : Tx K mg) : FnOk P w K mg base CX0 1 f fd ["streets"] spEndsOf := by
  refine F.ok scEndsOf (fun vs H Q E h => ?_) (fun cdv A outer s H vs Q E hr h => ?_)
  · obtain ⟨_, _, rfl, _⟩ := h
    rfl
  · obtain ⟨l, ts, rfl, hl, h60, q⟩ := h
    refine ⟨_, PSs.nox (pss_one (ps_ret (pe_op op_cat
      (pe_lc (own := [("street", 1)]) (g := gName 1) (tt := tYes) (te := tOp (rIxT K) (tVar 1) (tC (.int ((1 : Nat) : Int)))) rfl scEndsOf.nd (pi_list (pv 0)) (blkOk_by (own := [("street", 1)]) (N := ["streets", "street"]) (sc := defScope sEndsOf) (by decide +kernel))
        (fun _ _ _ _ _ => pg_name (i := 1) scEndsOf.nd rfl (Or.inl rfl)) (fun _ _ _ _ _ => pts_nil) (fun _ _ _ _ _ => pe_ix ix_tup (pv 1) pe_int (fun _ _ => rfl)))
      (pe_lc (own := [("street", 1)]) (g := gName 1) (tt := tYes) (te := tOp (rIxT K) (tVar 1) (tC (.int ((2 : Nat) : Int)))) rfl scEndsOf.nd (pi_list (pv 0)) (blkOk_by (own := [("street", 1)]) (N := ["streets", "street"]) (sc := defScope sEndsOf) (by decide +kernel))
        (fun _ _ _ _ _ => pg_name (i := 1) scEndsOf.nd rfl (Or.inl rfl)) (fun _ _ _ _ _ => pts_nil) (fun _ _ _ _ _ => pe_ix ix_tup (pv 1) pe_int (fun _ _ => rfl)))))), ?_⟩
    have sl := sizeLine_eq
    refine ⟨_, rfl, l, rfl, ⟨_, SqL.of hl.1⟩, fun D nD => ?_⟩
    refine lc_part (K := K) (g := S5.st) (j := 1) (i := 1) (fun s => rfl) nD hl h60 (fun v => rfl) (fun v => rfl) fun H1 s1 hD => ?_
    have hl1 := hl.keep s1
    refine ⟨_, rfl, l, rfl, ⟨_, SqL.of hl1.1⟩, fun D2 nD2 => ?_⟩
    refine lc_part (K := K) (g := S5.en) (j := 2) (i := 1) (fun s => rfl) nD2 hl1 h60 (fun v => rfl) (fun v => rfl) fun H2 s2 hD2 => ?_
    refine ⟨D, D2, _, _, rfl, rfl, s2 _ _ hD, hD2, by simp only [List.length_map]; omega, fun p np => ?_⟩
    refine q p _ (same_trans (same_trans s1 s2) (same_upd np)) (s1.free (s2.free np)) ?_
    show upd H2 p _ p = _
    rw [upd_same, ← List.map_append]
    unfold ends
    show some (HO.lst (((ts.map fun t => t.2.st) ++ ts.map fun t => t.2.en).map V.str)) = some (.lst ((((ts.map fun t => t.2).map S5.st) ++ ((ts.map fun t => t.2).map S5.en)).map V.str))
    rw [List.map_map, List.map_map]
    rfl
end
end K13
end
section
set_option Elab.async false
set_option linter.all false
set_option maxRecDepth 100000
set_option maxHeartbeats 8000000
namespace K13
open PySem PySem.Spec PyProof.Rows L2
section
variable {P : Program} {w : World} {K : PySem.W.Frag} {mg : Str → Option Value} {base : Heap}
/-- what is told of both classes' methods and of the checks -/
structure Ms (P : Program) (w : World) (K : PySem.W.Frag) (mg : Str → Option Value) (base : Heap) (CQ CT : Addr) : Prop where
  qs : Mz P w K mg base CQ "streets" 1 (spFld CQ "_streets")
  qg : Mz P w K mg base CQ "gates" 1 (spFld CQ "_gates")
  ts : Mz P w K mg base CT "streets" 1 (spFld CT "_streets")
  cq : Fz P w K mg base "check_quarter" 1 ["value"] (spIns CQ)
  ct : Fz P w K mg base "check_town" 1 ["value"] (spIns CT)
  eo : Fz P w K mg base "ends_of" 1 ["streets"] spEndsOf
theorem ends_len (ss : List S5) : (ends ss).length = 2 * ss.length := by
  unfold ends
  rw [List.length_append, List.length_map, List.length_map]
  omega
/-! ### crossings_of -/
def spCross (CQ : Addr) : Sp := fun vs H Q _ => ∃ (q dx l g : Addr) (ts : List (Addr × S5)) (gs : List Str), vs = [.ref q] ∧ QuP H CQ q dx l g ts gs ∧ ts.length ≤ 60 ∧ gs.length ≤ 60 ∧
  ∀ (D : Addr) (us : List Str) (H' : Hp), Same H H' → H D = none → Told us (ends (snds ts) ++ gs) → Ws H' D us → Q (.ref D) H'
theorem scCross : FnScope ["quarter"] ["quarter"] (defScope sCrossings) := ⟨rfl, rfl, rfl, by decide +kernel, rfl, by decide +kernel, by decide +kernel⟩
theorem ok_cross {CQ CT : Addr} {f : Addr} {fd : FuncData} (F : FnP K "crossings_of" sCrossings f fd) (M : Ms P w K mg base CQ CT) (T : Tx K mg) : FnOk P w K mg base CX0 2 f fd ["quarter"] (spCross CQ) := by
  refine F.ok scCross (fun vs H Q E h => ?_) (fun cdv A outer s H vs Q E hr h => ?_)
  · obtain ⟨_, _, _, _, _, _, rfl, _⟩ := h
    rfl
  · obtain ⟨q, dx, l, g, ts, gs, rfl, hq, h60, g60, z⟩ := h
    have gSo := T.fr "sorted" (by decide +kernel)
    have gSe := T.fr "set" (by decide +kernel)
    have sl := sizeLine_eq
    refine ⟨_, PSs.nox (pss_cons (ps_expr (pe_fz M.cq hr (by rfl) (pa_cons (pv 0) pa_nil))) (pss_one (ps_ret (pe_callB (cr_sortedX rfl) (by rfl) gSo (by decide +kernel) (pa_cons
      (pe_callTy (cr_setX rfl) (by rfl) gSe (by decide +kernel) (pa_cons (pe_op op_cat (pe_fz M.eo hr (by rfl) (pa_cons (pe_mz M.qs (pv 0) hr) pa_nil)) (pe_mz M.qg (pv 0) hr)) pa_nil)) pa_nil))))), ?_⟩
    refine ⟨_, rfl, q, dx, _, rfl, hq.at_, ?_⟩
    refine ⟨_, rfl, q, dx, _, rfl, hq.at_, rfl, q, dx, l, _, _, rfl, hq.at_, rfl, hq.s.1, fun D1 n1 => ?_⟩
    have s1 := same_upd (o := .lst (ts.map fun t => V.ref t.1)) n1
    have hD1 : Sts (upd H D1 (.lst (ts.map fun t => V.ref t.1))) D1 ts := ⟨upd_same, fun t ht => s1 _ _ (hq.s.2 t ht)⟩
    generalize upd H D1 (.lst (ts.map fun t => V.ref t.1)) = H1 at s1 hD1 ⊢
    refine ⟨D1, ts, rfl, hD1, h60, fun D2 H2 s2 n2 hD2 => ?_⟩
    have hq2 := hq.keep (same_trans s1 s2)
    refine ⟨_, rfl, q, dx, _, rfl, hq2.at_, rfl, q, dx, g, _, _, rfl, hq2.at_, rfl, hq2.g, fun D3 n3 => ?_⟩
    have s3 := same_upd (o := .lst (gs.map V.str)) n3
    have e1 := ends_len (snds ts)
    rw [List.length_map] at e1
    refine ⟨D2, D3, _, _, rfl, rfl, s3 _ _ hD2, upd_same, by rw [List.length_map, List.length_map]; omega, fun D4 n4 => ?_⟩
    rw [← List.map_append]
    have s4 := same_upd (o := .lst ((ends (snds ts) ++ gs).map V.str)) n4
    have s04 := same_trans (same_trans s1 s2) (same_trans s3 s4)
    refine ⟨D4, _, rfl, SqL.of upd_same, ?_, fun D5 n5 => ?_⟩
    · rw [List.length_append]
      unfold scanBound
      omega
    have s5 := same_upd (o := SetX w D5 ((ends (snds ts) ++ gs).foldl TxSet.addL [])) n5
    have fl := fold_len (ks := ends (snds ts) ++ gs) (L := [])
    rw [List.length_append, List.length_nil] at fl
    refine ⟨D5, _, rfl, upd_same, by omega, fun us D6 pm as n6 => ?_⟩
    have s6 := same_upd (o := .lst (us.map V.str)) n6
    exact z D6 us _ (same_trans s04 (same_trans s5 s6)) (s04.free (s5.free n6)) (told_set pm as) upd_same
/-! ### places_of -/
def spPlaces (CT : Addr) : Sp := fun vs H Q _ => ∃ (q dx l : Addr) (ts : List (Addr × S5)), vs = [.ref q] ∧ TwP H CT q dx l ts ∧ ts.length ≤ 60 ∧
  ∀ (D : Addr) (us : List Str) (H' : Hp), Same H H' → H D = none → Told us (ends (snds ts)) → Ws H' D us → Q (.ref D) H'
theorem scPlaces : FnScope ["town"] ["town"] (defScope sPlacesOf) := ⟨rfl, rfl, rfl, by decide +kernel, rfl, by decide +kernel, by decide +kernel⟩
theorem ok_places {CQ CT : Addr} {f : Addr} {fd : FuncData} (F : FnP K "places_of" sPlacesOf f fd) (M : Ms P w K mg base CQ CT) (T : Tx K mg) : FnOk P w K mg base CX0 2 f fd ["town"] (spPlaces CT) := by
  refine F.ok scPlaces (fun vs H Q E h => ?_) (fun cdv A outer s H vs Q E hr h => ?_)
  · obtain ⟨_, _, _, _, rfl, _⟩ := h
    rfl
  · obtain ⟨q, dx, l, ts, rfl, hq, h60, z⟩ := h
    have gSo := T.fr "sorted" (by decide +kernel)
    have gSe := T.fr "set" (by decide +kernel)
    have sl := sizeLine_eq
    refine ⟨_, PSs.nox (pss_cons (ps_expr (pe_fz M.ct hr (by rfl) (pa_cons (pv 0) pa_nil))) (pss_one (ps_ret (pe_callB (cr_sortedX rfl) (by rfl) gSo (by decide +kernel) (pa_cons
      (pe_callTy (cr_setX rfl) (by rfl) gSe (by decide +kernel) (pa_cons (pe_fz M.eo hr (by rfl) (pa_cons (pe_mz M.ts (pv 0) hr) pa_nil)) pa_nil)) pa_nil))))), ?_⟩
    refine ⟨_, rfl, q, dx, _, rfl, hq.at_, ?_⟩
    refine ⟨_, rfl, q, dx, _, rfl, hq.at_, rfl, q, dx, l, _, _, rfl, hq.at_, rfl, hq.s.1, fun D1 n1 => ?_⟩
    have s1 := same_upd (o := .lst (ts.map fun t => V.ref t.1)) n1
    have hD1 : Sts (upd H D1 (.lst (ts.map fun t => V.ref t.1))) D1 ts := ⟨upd_same, fun t ht => s1 _ _ (hq.s.2 t ht)⟩
    generalize upd H D1 (.lst (ts.map fun t => V.ref t.1)) = H1 at s1 hD1 ⊢
    refine ⟨D1, ts, rfl, hD1, h60, fun D2 H2 s2 n2 hD2 => ?_⟩
    have e1 := ends_len (snds ts)
    rw [List.length_map] at e1
    have s04 := same_trans s1 s2
    refine ⟨D2, _, rfl, SqL.of hD2, by unfold scanBound; omega, fun D5 n5 => ?_⟩
    have s5 := same_upd (o := SetX w D5 ((ends (snds ts)).foldl TxSet.addL [])) n5
    have fl := fold_len (ks := ends (snds ts)) (L := [])
    rw [List.length_nil] at fl
    refine ⟨D5, _, rfl, upd_same, by omega, fun us D6 pm as n6 => ?_⟩
    have s6 := same_upd (o := .lst (us.map V.str)) n6
    exact z D6 us _ (same_trans s04 (same_trans s5 s6)) (s04.free (s5.free n6)) (told_set pm as) upd_same
/-! ### asked_of -/
def spAsked (CQ CT : Addr) : Sp := fun vs H Q _ => ∃ (q dx l g : Addr) (ts : List (Addr × S5)) (gs : List Str) (p dp lp : Addr) (us : List (Addr × S5)), vs = [.ref q, .ref p] ∧ QuP H CQ q dx l g ts gs ∧ gs.length ≤ 60 ∧ TwP H CT p dp lp us ∧ us.length ≤ 60 ∧
  ∀ (D : Addr) (zs : List Str) (H' : Hp), Same H H' → H D = none → Told zs (gs ++ ends (snds us)) → Ws H' D zs → Q (.ref D) H'
theorem scAsked : FnScope ["quarter", "town"] ["quarter", "town"] (defScope sAskedOf) := ⟨rfl, rfl, rfl, by decide +kernel, rfl, by decide +kernel, by decide +kernel⟩
theorem ok_asked {CQ CT : Addr} {f : Addr} {fd : FuncData} (F : FnP K "asked_of" sAskedOf f fd) (M : Ms P w K mg base CQ CT) (GP : Fz P w K mg base "places_of" 2 ["town"] (spPlaces CT)) (T : Tx K mg) : FnOk P w K mg base CX0 3 f fd ["quarter", "town"] (spAsked CQ CT) := by
  refine F.ok scAsked (fun vs H Q E h => ?_) (fun cdv A outer s H vs Q E hr h => ?_)
  · obtain ⟨_, _, _, _, _, _, _, _, _, _, rfl, _⟩ := h
    rfl
  · obtain ⟨q, dx, l, g, ts, gs, p, dp, lp, us, rfl, hq, g60, hp, u60, z⟩ := h
    have gSo := T.fr "sorted" (by decide +kernel)
    have gSe := T.fr "set" (by decide +kernel)
    have sl := sizeLine_eq
    have r1 : Room 1 (A.deeper (envOfC "asked_of" (defScope sAskedOf) s.heap.objs.size f cdv)) := hr.mono (by decide)
    refine ⟨_, PSs.nox (pss_cons (ps_expr (pe_fz M.cq r1 (by rfl) (pa_cons (pv 0) pa_nil))) (pss_cons (ps_expr (pe_fz M.ct r1 (by rfl) (pa_cons (pv 1) pa_nil))) (pss_one (ps_ret (pe_callB (cr_sortedX rfl) (by rfl) gSo (by decide +kernel) (pa_cons
      (pe_callTy (cr_setX rfl) (by rfl) gSe (by decide +kernel) (pa_cons (pe_op op_cat (pe_mz M.qg (pv 0) r1) (pe_fz GP hr (by rfl) (pa_cons (pv 1) pa_nil))) pa_nil)) pa_nil)))))), ?_⟩
    refine ⟨_, rfl, q, dx, _, rfl, hq.at_, _, rfl, p, dp, _, rfl, hp.at_, ?_⟩
    refine ⟨_, rfl, q, dx, _, rfl, hq.at_, rfl, q, dx, g, _, _, rfl, hq.at_, rfl, hq.g, fun D1 n1 => ?_⟩
    have s1 := same_upd (o := .lst (gs.map V.str)) n1
    have hD1 : Ws (upd H D1 (.lst (gs.map V.str))) D1 gs := upd_same
    generalize upd H D1 (.lst (gs.map V.str)) = H1 at s1 hD1 ⊢
    refine ⟨_, rfl, p, dp, lp, us, rfl, hp.keep s1, u60, fun D2 ps H2 s2 n2 tp hD2 => ?_⟩
    have e1 := ends_len (snds us)
    rw [List.length_map] at e1
    have pl : ps.length ≤ 120 := by
      have := len_le_of_sub ps (ends (snds us)) tp.nd fun x hx => (tp.mem x).mp hx
      omega
    refine ⟨D1, D2, _, _, rfl, rfl, s2 _ _ hD1, hD2, by rw [List.length_map, List.length_map]; omega, fun D4 n4 => ?_⟩
    rw [← List.map_append]
    have s4 := same_upd (o := .lst ((gs ++ ps).map V.str)) n4
    have s04 := same_trans (same_trans s1 s2) s4
    refine ⟨D4, _, rfl, SqL.of upd_same, ?_, fun D5 n5 => ?_⟩
    · rw [List.length_append]
      unfold scanBound
      omega
    have s5 := same_upd (o := SetX w D5 ((gs ++ ps).foldl TxSet.addL [])) n5
    have fl := fold_len (ks := gs ++ ps) (L := [])
    rw [List.length_append, List.length_nil] at fl
    refine ⟨D5, _, rfl, upd_same, by omega, fun zs D6 pm as n6 => ?_⟩
    have s6 := same_upd (o := .lst (zs.map V.str)) n6
    have tt := told_set pm as
    refine z D6 zs _ (same_trans s04 (same_trans s5 s6)) (s04.free (s5.free n6)) ⟨tt.asc, tt.nd, fun x => ?_⟩ upd_same
    rw [tt.mem, List.mem_append, List.mem_append, tp.mem]
/-! ### street_of -/
def spStreetOf (CQ : Addr) : Sp := fun vs H Q _ => ∃ (q dx l g : Addr) (ts : List (Addr × S5)) (gs : List Str) (t : Addr × S5), vs = [.ref q, .str t.2.nm] ∧ QuP H CQ q dx l g ts gs ∧ t ∈ ts ∧ (ts.map fun t => t.2.nm).Nodup ∧
  ∀ H', Same H H' → Q (.ref t.1) H'
theorem scStreetOf : FnScope ["quarter", "name", "street"] ["quarter", "name"] (defScope sStreetOf) := ⟨rfl, rfl, rfl, by decide +kernel, rfl, by decide +kernel, by decide +kernel⟩
theorem ok_streetOf {CQ CT : Addr} {f : Addr} {fd : FuncData} (F : FnP K "street_of" sStreetOf f fd) (M : Ms P w K mg base CQ CT) (T : Tx K mg) : FnOk P w K mg base CX0 2 f fd ["quarter", "name"] (spStreetOf CQ) := by
  refine F.ok scStreetOf (fun vs H Q E h => ?_) (fun cdv A outer s H vs Q E hr h => ?_)
  · obtain ⟨_, _, _, _, _, _, _, rfl, _⟩ := h
    rfl
  · obtain ⟨q, dx, l, g, ts, gs, t, rfl, hq, ht, nd, z⟩ := h
    refine ⟨_, PSs.nox (pss_cons (ps_expr (pe_fz M.cq hr (by rfl) (pa_cons (pv 0) pa_nil))) (pss_cons (ps_for PassesOwn.never rfl (pi_list (pe_mz M.qs (pv 0) hr)) (pg_name (i := 2) scStreetOf.nd rfl (Or.inl rfl))
      (pss_one (ps_if (pt_cmpR op_eq (pe_ix ix_tup (pv 2) pe_int (fun _ _ => rfl)) (pv 1) (nomark _)) (pss_one (ps_ret (pv 2))) pss_nil))) (pss_one ps_never))), ?_⟩
    refine ⟨_, rfl, q, dx, _, rfl, hq.at_, ?_⟩
    refine ⟨_, rfl, q, dx, _, rfl, hq.at_, rfl, q, dx, l, _, _, rfl, hq.at_, rfl, hq.s.1, fun D1 n1 => ?_⟩
    have s1 := same_upd (o := .lst (ts.map fun t => V.ref t.1)) n1
    have hD1 : Sts (upd H D1 (.lst (ts.map fun t => V.ref t.1))) D1 ts := ⟨upd_same, fun t ht => s1 _ _ (hq.s.2 t ht)⟩
    generalize upd H D1 (.lst (ts.map fun t => V.ref t.1)) = H1 at s1 hD1 ⊢
    obtain ⟨k, hk⟩ := List.mem_iff_getElem?.mp ht
    have kl := (List.getElem?_eq_some_iff.mp hk).1
    refine ⟨D1, rfl, ⟨_, SqL.of hD1.1⟩, ?_⟩
    refine for_list (K := K) (a := D1) (xs := ts.map fun t => V.ref t.1) (fun i σ H' => (∃ o, σ = [some (.ref q), some (.str t.2.nm), o]) ∧ H' = H1 ∧ i ≤ k) ⟨⟨_, rfl⟩, rfl, Nat.zero_le _⟩ (fun i σ H' _ h => by rw [h.2.1]; exact SqL.of hD1.1) ?_ ?_
    · rintro i x σ H' hi ⟨⟨o, rfl⟩, rfl, ik⟩
      rw [List.getElem?_map] at hi
      cases e : ts[i]? with
      | none =>
        rw [e] at hi
        cases hi
      | some u =>
        rw [e] at hi
        cases hi
        have um := List.mem_of_getElem? e
        refine ⟨_, rfl, u.1, _, ((0 : Nat) : Int), _, rfl, rfl, SqT.of (hD1.2 u um), atI_nat rfl, _, rfl, rfl, _, rfl, ite2 (fun c => ?_) (fun c => ?_)⟩
        · have en : u.2.nm = t.2.nm := by
            have := of_decide_eq_true c
            exact V.str.inj this
          have eu : u = t := nodup_inj nd u um t ht en
          rw [eu]
          exact ⟨_, rfl, z _ s1⟩
        · refine ⟨⟨_, rfl⟩, rfl, ?_⟩
          have : i ≠ k := fun z => by
            rw [z, hk] at e
            cases e
            exact c (decide_eq_true rfl)
          omega
    · rintro σ H' ⟨_, _, ik⟩
      rw [List.length_map] at ik
      omega
end
end K13
end
section
set_option Elab.async false
set_option linter.all false
set_option maxRecDepth 100000
set_option maxHeartbeats 8000000
namespace K13
open PySem PySem.Spec PyProof.Rows L2
theorem at_map {α : Type} {g : α → V} {l : List α} {i : Nat} {x : V} (h : (l.map g)[i]? = some x) : ∃ t, l[i]? = some t ∧ x = g t := by
  rw [List.getElem?_map] at h
  cases e : l[i]? with
  | none =>
    rw [e] at h
    cases h
  | some t =>
    rw [e] at h
    cases h
    exact ⟨t, rfl, rfl⟩
/-- [x for x in ws if x not in bs] -/
theorem lc_notin {K : PySem.W.Frag} {J : It} {G : Hp → Prop} {ws bs : List Str} (wk : Walk J ws.length G (YAt (ws.map V.str))) {σ : L2.St} {i f : Nat} {F D : Addr} {H1 : Hp} {Qd : Hp → Prop} (nD : H1 D = none) (hG : ∀ H', Same H1 H' → G H')
    (hF : Ws H1 F bs) (hl : ws.length ≤ 1000) (hi : ∀ v, ((wipe σ [i]).set i (some v))[i]? = some (some v)) (hf : ∀ v, ((wipe σ [i]).set i (some v))[f]? = some (some (.ref F))) (hw : ∀ v, wipe ((wipe σ [i]).set i (some v)) [i] = wipe σ [i])
    (fin : ∀ H', Same H1 H' → Ws H' D (ws.filter fun x => decide (x ∉ bs)) → Qd H') :
    ∃ W : Nat → Nat → Hp → Prop, (∃ m, W 0 m (upd H1 D (.lst []))) ∧ ∀ n m H, W n m H →
      (J.stop n H ∧ Qd H) ∨ (J.go n H ∧ ∃ Nx : Hp → Prop, (∀ H', Nx H' → ∃ m', m' < m ∧ W (n + 1) m' H') ∧ ∀ x H', J.yld n H x H' → gName i x (wipe σ [i]) H' fun σ2 H2 => wipe σ2 [i] = wipe σ [i] ∧ tTest (tOp (rIn K true) (tVar i) (tVar f)) σ2 H2 fun b H3 =>
        if b = true then tVar i σ2 H3 fun y H4 => ∃ acc, H4 D = some (.lst acc) ∧ acc.length < sizeLine ∧ Nx (upd H4 D (.lst (acc ++ [y]))) else Nx H3) := by
  have sl := sizeLine_eq
  refine lc_it wk (fun n H' => Same H1 H' ∧ H' D = some (.lst (((ws.take n).filter fun x => decide (x ∉ bs)).map V.str))) ⟨same_upd nD, upd_same⟩ (fun n H' _ h => hG H' h.1) ?_ ?_
  · rintro n x H' H2 hn ⟨s1, hD⟩ ⟨rfl, hx⟩
    obtain ⟨c, hc, rfl⟩ := at_map hx
    have et : ws.take (n + 1) = ws.take n ++ [c] := by
      rw [List.take_add_one, hc]
      rfl
    have ll : ((ws.take n).filter fun x => decide (x ∉ bs)).length ≤ n := Nat.le_trans (List.length_filter_le _ _) (by rw [List.length_take]; omega)
    refine ⟨hw _, _, hi _, _, hf _, F, bs.map V.str, rfl, Or.inl (SqL.of (s1 _ _ hF)), rfl, flat_strs bs, _, rfl, ?_⟩
    rw [inV_str]
    by_cases hb : c ∈ bs
    · refine ifF (by simpa using hb) ⟨s1, ?_⟩
      rw [et, List.filter_append]
      simp [hD, hb]
    · refine ifT (by simpa using hb) ⟨_, hi _, _, hD, by rw [List.length_map]; omega, fun b o eb => ?_, ?_⟩
      · rw [upd_ne (ne_of_none eb nD)]
        exact s1 _ _ eb
      · rw [upd_same, et, List.filter_append]
        simp [hb]
  · rintro H' ⟨s1, hD⟩
    rw [List.take_length] at hD
    exact fin H' s1 hD
theorem ends_take {ss : List S5} {i : Nat} {t : S5} (h : ss[i]? = some t) (x : Str) : x ∈ ends (ss.take (i + 1)) ↔ x ∈ ends (ss.take i) ∨ x = t.st ∨ x = t.en := by
  have et : ss.take (i + 1) = ss.take i ++ [t] := by
    rw [List.take_add_one, h]
    rfl
  rw [et]
  unfold ends
  simp only [List.map_append, List.mem_append, List.map_cons, List.map_nil, List.mem_singleton]
  constructor
  · rintro ((h | h) | (h | h))
    · exact .inl (.inl h)
    · exact .inr (.inl h)
    · exact .inl (.inr h)
    · exact .inr (.inr h)
  · rintro ((h | h) | (h | h))
    · exact .inl (.inl h)
    · exact .inr (.inl h)
    · exact .inl (.inr h)
    · exact .inr (.inr h)
theorem add_two {fs : List Str} {a b : Str} (nd : fs.Nodup) (ne : a ≠ b) : (fs ++ [a, b].filter fun x => decide (x ∉ fs)).Nodup ∧ ∀ x, x ∈ fs ++ [a, b].filter (fun x => decide (x ∉ fs)) ↔ x ∈ fs ∨ x = a ∨ x = b := by
  refine ⟨List.nodup_append.mpr ⟨nd, (by simp [ne] : [a, b].Nodup).sublist List.filter_sublist, fun x hx y hy e => ?_⟩, fun x => ?_⟩
  · subst e
    have := (List.mem_filter.mp hy).2
    exact of_decide_eq_true this hx
  · rw [List.mem_append, List.mem_filter]
    constructor
    · rintro (h | ⟨h, _⟩)
      · exact .inl h
      · refine .inr ?_
        simpa using h
    · intro h
      by_cases hx : x ∈ fs
      · exact .inl hx
      · refine .inr ⟨?_, decide_eq_true hx⟩
        rcases h with h | h
        · exact absurd h hx
        · simpa using h
section
variable {P : Program} {w : World} {K : PySem.W.Frag} {mg : Str → Option Value} {base : Heap}
theorem told_sorted {us fs ks : List Str} (p : us.Perm fs) (s : sortedS us = true) (nd : fs.Nodup) (m : ∀ x, x ∈ fs ↔ x ∈ ks) : Told us ks := ⟨asc_of_sortedS s, p.nodup_iff.mpr nd, fun x => by rw [p.mem_iff, m]⟩
theorem len_ends {fs gs : List Str} {ss : List S5} (nd : fs.Nodup) (m : ∀ x, x ∈ fs ↔ x ∈ gs ∨ x ∈ ends ss) : fs.length ≤ gs.length + 2 * ss.length := by
  have h := len_le_of_sub fs (gs ++ ends ss) nd fun x hx => List.mem_append.mpr ((m x).mp hx)
  rw [List.length_append, ends_len] at h
  exact h
theorem cut13 (t : S5) : cutV t.vals (some ((1 : Nat) : Int)) (some ((3 : Nat) : Int)) = [V.str t.st, V.str t.en] := rfl
end
end K13
end
section
set_option Elab.async false
set_option linter.all false
set_option maxRecDepth 100000
set_option maxHeartbeats 4000000
/-! list(reversed(xs)), xs a list: a new list. -/
namespace RT
open PySem PySem.Spec PyProof.Rows
section
variable {prog : Program} {w : World} {A : Around} {E : Value → Shared → Prop} {s : Shared} {R : Result → Shared → Prop}
theorem extend_rev {it l : Addr} {items : Array Value} (hh : A.handled = none) (hit : s.heap.IsRevIter it l ((items.size : Int) - 1)) (hl : s.heap.IsList l items) (hne : l ≠ it) (hn : items.size ≤ sizeLine) (S : Addr) (res : Value) (c₀ : Nat)
    (hSi : S ≠ it) (hSl : S ≠ l) (hS : s.heap.get? S = some { cls := .type "list", data := .seq #[] c₀ })
    (hR : ∀ s' acc' c', Moved [S, it] (fun a b => b = a) s s' → s'.heap.get? S = some { cls := .type "list", dict := none, data := .seq acc' c', slots := #[] } → ItemsOf (fun i v => items[items.size - 1 - i]? = some v) acc' items.size → R (.ok (.ret res)) s') :
    wpAny (model prog w) A.in1 (Builtin.List.listExtendWith (.ref S) (.ref it) res)
      (fun fin s' => match fin with | .done f => R (.ok f) s' | .again c' => c'.quiet = true ∧ codeAny (model prog w) A c' R s') (fun e s' => R (.error e) s') s := by
  have W := (Walks.listRev (prog := prog) (w := w) (A := A.in1) hh it l hne items).toS
  have hSf : S ∉ [it, l] := by simp only [List.mem_cons, List.not_mem_nil, or_false, not_or]; exact ⟨hSi, hSl⟩
  have hT : s.TypeIs (.ref it) "list_reverseiterator" := hit.typeIs
  have h1 : Builtin.List.listSameRef (.ref S) (.ref it) = false := by simp [Builtin.List.listSameRef, hSi]
  unfold Builtin.List.listExtendWith
  refine wpAny_bind (wpAny_typeOf hT ?_)
  rw [if_neg (by rw [h1]; decide)]
  refine wpAny_bind (wpAny_pyIter_revIter hit ?_)
  refine wpAny_bind (wpAny_holding ?_)
  unfold Builtin.List.listLengthHint
  refine wpAny_bind (wpAny_specialOf hT nolen_lri ?_)
  show wpAny _ A.in1 (specialOf (Value.ref it) (Str.ofString "__length_hint__") >>= _) _ _ _
  refine wpAny_bind (wpAny_specialOf hT hint_lri ?_)
  generalize hid : ("list_reverseiterator.__length_hint__" : String) = id0
  wp_delta
  rw [show splitId id0 = some ("list_reverseiterator", "__length_hint__") from by subst hid; decide +kernel]
  subst hid
  refine wpAny_bind (wpAny_isInstance (b := true) hT (by rw [isSubtype_type]; kernel_rfl) ?_)
  refine wpAny_pure ?_
  rw [if_neg (by decide)]
  have e0 : ((items.size : Nat) : Int) - 1 - ((0 : Nat) : Int) = (items.size : Int) - 1 := by omega
  refine wpAny_pure ⟨plainId_quiet F.plain_extend_loop _, codeAny_extend_loopS W hn _ hSf _ items.size 0 _ _ _ rfl (Nat.zero_le _) ⟨Nat.zero_le _, by rw [e0]; exact hit, hl⟩ hS (ItemsOf.nil _) fun s' acc' c' hm hS' hacc => ?_⟩
  exact hR s' acc' c' hm hS' hacc
theorem call_list_rev {it l : Addr} {items : Array Value} {Q : Value → Shared → Prop} (hh : A.handled = none) (hit : s.heap.IsRevIter it l ((items.size : Int) - 1)) (hl : s.heap.IsList l items) (hne : l ≠ it) (hn : items.size ≤ sizeLine)
    (hQ : ∀ (h' : Heap) (tk : Nat) (acc : Array Value) (c : Nat), (∀ b o, b ≠ it → s.heap.get? b = some o → h'.get? b = some o) → h'.get? s.heap.objs.size = some { cls := .type "list", dict := none, data := .seq acc c, slots := #[] } → ItemsOf (fun i v => items[items.size - 1 - i]? = some v) acc items.size →
      Q (.ref s.heap.objs.size) { s with heap := h', toks := tk }) :
    wpAny (model prog w) A (call (.type "list") [.ref it]) Q E s := by
  obtain ⟨oi, hoi, _⟩ := id hit
  obtain ⟨ol, hol, _⟩ := id hl
  have hSi : s.heap.objs.size ≠ it := Nat.ne_of_gt (Heap.lt_size hoi)
  have hSl : s.heap.objs.size ≠ l := Nat.ne_of_gt (Heap.lt_size hol)
  refine callType_codes (Q₁ := fun obj s₁ => obj = .ref s.heap.objs.size ∧ s₁ = { s with heap := s.heap.push { cls := .type "list", data := .seq #[] } }) F.called_list (F.typeCall_list_1 _) F.entry_list_init
    (code_list_new _ ⟨rfl, rfl⟩) fun obj s₁ h₁ => ?_
  obtain ⟨rfl, rfl⟩ := h₁
  have hS : (s.heap.push { cls := .type "list", data := .seq #[] }).get? s.heap.objs.size = some { cls := .type "list", data := .seq #[] } := Heap.get?_push_size _ rfl
  refine ⟨⟨_, hS, rfl⟩, F.args_list_init_2 _ _, ?_⟩
  show wpAny _ A.in1.in1 (do let old ← Builtin.List.listItems (.ref s.heap.objs.size); Builtin.List.listUpdate (.ref s.heap.objs.size) (fun _ => #[]); letGo old.toList.reverse; Builtin.List.listExtendWith (.ref s.heap.objs.size) (.ref it) .none) _ _ _
  refine wpAny_bind ?_
  unfold Builtin.List.listItems
  refine wpAny_bind (wpAny_seqItems hS rfl (wpAny_pure ?_))
  show wpAny _ A.in1.in1 (updateSeq s.heap.objs.size (fun _ => #[]) >>= fun _ => letGo (#[] : Array Value).toList.reverse >>= fun _ => Builtin.List.listExtendWith (.ref s.heap.objs.size) (.ref it) .none) _ _ _
  refine wpAny_bind (wpAny_updateSeq hS rfl ?_)
  have hS₂ := Heap.get?_update_self (Obj.mapSeq (fun _ => (#[] : Array Value))) hS rfl
  have oth : ∀ b o, b ≠ s.heap.objs.size → s.heap.get? b = some o → ((s.heap.push { cls := .type "list", data := .seq #[] }).update s.heap.objs.size (Obj.mapSeq (fun _ => (#[] : Array Value)))).get? b = some o :=
    fun b o hb e => (Heap.get?_update_other _ _ (Ne.symm hb)).trans (Heap.get?_push_of_some _ e)
  refine wpAny_bind (wpAny_letGo ?_)
  have hit1 : ((s.heap.push { cls := .type "list", data := .seq #[] }).update s.heap.objs.size (Obj.mapSeq (fun _ => (#[] : Array Value)))).IsRevIter it l ((items.size : Int) - 1) := hit.at fun o e => oth _ _ (Ne.symm hSi) e
  have hl1 : ((s.heap.push { cls := .type "list", data := .seq #[] }).update s.heap.objs.size (Obj.mapSeq (fun _ => (#[] : Array Value)))).IsList l items := by
    obtain ⟨o, ho, r⟩ := hl
    exact ⟨o, oth _ _ (Ne.symm hSl) ho, r⟩
  refine extend_rev (A := A.in1) (s := { s with heap := (s.heap.push { cls := .type "list", data := .seq #[] }).update s.heap.objs.size (Obj.mapSeq (fun _ => (#[] : Array Value))) }) (R := wants (fun r s₂ => r = .none ∧ Q (.ref s.heap.objs.size) s₂) E) hh hit1 hl1 hne hn _ .none _ hSi hSl hS₂ fun s' acc' c' hm hS' hacc => ?_
  refine ⟨rfl, ?_⟩
  rw [Moved.eq_with hm]
  refine hQ s'.heap s'.toks acc' c' (fun b o hb e => hm.heap b o (fun hmem => ?_) (oth b o ?_ e)) hS' hacc
  · rcases List.mem_cons.mp hmem with e' | hmem
    · exact absurd (Heap.lt_size e) (by rw [e']; exact Nat.lt_irrefl _)
    · exact hb (List.mem_singleton.mp hmem)
  · exact Nat.ne_of_lt (Heap.lt_size e)
end
end RT
namespace L2
open PySem PySem.Spec PyProof.Rows RT
/-- list(reversed(x)), x a list -/
def tLstRev (K : PySem.W.Frag) (te : TE) : TE := fun σ H Q => te σ H fun v H1 => ∃ (a : Addr) (xs : List V), v = .ref a ∧ SqL K H1 a xs ∧ ∀ q, H1 q = none → Q (.ref q) (upd H1 q (.lst xs.reverse))
section
variable {X : Cx}
theorem pe_lstRev {e : Expr} {te : TE} {p p2 pos pos2 : Pos} (hc : X.calm = true) (hg : Gl X "list") (hm : X.mg "list" = none) (hg2 : Gl X "reversed") (hm2 : X.mg "reversed" = none) (he : PE X e te)
    (hs : starEach [e] X.env = (false, eval e X.env) :: starEach [] X.env := by rfl)
    (hs2 : starEach [.Call (.Name "reversed" p2) [e] [] pos2] X.env = (false, eval (.Call (.Name "reversed" p2) [e] [] pos2) X.env) :: starEach [] X.env := by rfl) :
    PE X (.Call (.Name "list" p) [.Call (.Name "reversed" p2) [e] [] pos2] [] pos) (tLstRev X.K te) := by
  refine ⟨fun pins s σ H Q I h => ?_⟩
  refine Call_ (ld_blt I hg hm boot_list (PyProof.Rows.callWith_type1 (args_cons (Call_ (ld_blt I hg2 hm2 PyProof.Rows.boot_reversed (PyProof.Rows.callWith_type1 (args_cons (thn (he.run pins s σ H _ I h) fun u s1 ⟨v, H1, I1, r1, q1⟩ => args_nil ?_) hs) hs rfl))) hs2) hs2 rfl))
  obtain ⟨a, xs, ev, hq, q⟩ := q1
  subst ev
  obtain rfl : u = Value.ref a := r1
  obtain ⟨its, rv, p', hz⟩ := I1.list hq
  refine call_reversed_list p'.isList (args_nil ?_)
  have k0 : ∀ b o, s1.heap.get? b = some o → (s1.heap.push (revObj a ((its.toArray.size : Int) - 1))).get? b = some o := fun b o e => Heap.get?_push_of_some _ e
  have I2 : Inv X pins σ H1 { s1 with heap := s1.heap.push (revObj a ((its.toArray.size : Int) - 1)) } := I1.kept (t' := s1.toks) k0
  obtain ⟨f0, f1, f2, f3, f4, f5⟩ := I1.fpOk (H' := H1) (b := s1.heap.objs.size) (Nat.le_refl _) (I1.hok.fresh (Nat.le_refl _))
  have hl := p'.isList
  obtain ⟨ol, hol, _⟩ := id hl
  have hne : a ≠ s1.heap.objs.size := Nat.ne_of_lt (Heap.lt_size hol)
  have hn : its.toArray.size ≤ sizeLine := by rw [List.size_toArray, ← rv.length]; exact hz
  refine call_list_rev (s := { s1 with heap := s1.heap.push (revObj a ((its.toArray.size : Int) - 1)) }) (I1.ok.hd hc) ⟨_, Heap.get?_push_size _ rfl, rfl, rfl⟩ (hl.push _) hne hn fun h' tk acc c hk hS hi => ?_
  have I3 : Inv X pins σ (upd H1 (s1.heap.push (revObj a ((its.toArray.size : Int) - 1))).objs.size (.lst xs.reverse)) { s1 with heap := h', toks := tk } := by
    refine I2.turnedNew (t' := tk) (ch := [s1.heap.objs.size]) (fun b o hb e => hk b o (fun z => hb (by rw [z]; simp)) e) (fun b hb => ?_) (Nat.le_refl _) ?_
    · rw [List.mem_singleton.mp hb]
      exact ⟨f0, f1, f2, f3, f4, f5⟩
    · exact ⟨by rw [List.length_reverse]; exact hz, acc.toList, c, vals_rev rv hi, by rw [Array.toArray_toList]; exact hS⟩
  exact ⟨.ref _, _, I3, rfl, q _ (I2.hok.fresh (Nat.le_refl _))⟩
end
end L2
end
section
set_option Elab.async false
set_option linter.all false
set_option maxRecDepth 100000
set_option maxHeartbeats 8000000
namespace K13
open PySem PySem.Spec PyProof.Rows L2
theorem kbN {K : PySem.W.Frag} {x qual : Str} {params : Arguments} {body : List Stmt} {scope : Scope} {f : Addr} {fd : FuncData} {ps ks : List Str} {n : Nat} (F : FunD K x qual params body scope [] [] f fd) (g : {α : Type} → List α → List α → List α)
    (hrel : ∀ {vs zs : List V} {us ws : List Value}, Vals vs us → Vals zs ws → Vals (g vs zs) (g us ws))
    (h : ∀ (kV doc pm : Value) (an : Option Addr) (cdv ct : Value) (us ws : List Value), us.length = n → ws.length = ks.length → bindArgs (PySem.W.fnOf x qual params body scope .none kV doc pm an cdv ct) ⟨us, ks.zip ws⟩ = pure (ps.zip (g us ws))) :
    KBn K fd ps n ks (fun us ws => g us ws) (fun vs zs => g vs zs) := by
  obtain ⟨oc, od, dV, kV, doc, pm, an, cdv, ct, osl, rfl, lk, hcd, hD, hK⟩ := F.ex
  rcases hD with ⟨_, rfl⟩ | ⟨e, _⟩
  · exact ⟨fun s us ws _ l1 l2 => .of_eq (h kV doc pm an cdv ct us ws l1 l2), fun r1 r2 => hrel r1 r2⟩
  · exact absurd rfl e
/-- a new quarter of right lists -/
def spQuarter (CQ : Addr) : Sp := fun vs H Q _ => ∃ (l g : Addr) (ts : List (Addr × S5)) (gs : List Str), vs = [.ref l, .ref g] ∧ Sts H l ts ∧ SOk (snds ts) ∧ Ws H g gs ∧ GOk gs ∧
  ∀ q dx l' g' ts' gs' H', Same H H' → H q = none → H l' = none → H g' = none → QuP H' CQ q dx l' g' ts' gs' → ts'.Perm ts → Asc5 (snds ts') → gs'.Perm gs → Asc gs' → Q (.ref q) H'
def spTown (CT : Addr) : Sp := fun vs H Q _ => ∃ (l : Addr) (ts : List (Addr × S5)), vs = [.ref l] ∧ Sts H l ts ∧ SOk (snds ts) ∧
  ∀ q dx l' ts' H', Same H H' → H q = none → H l' = none → TwP H' CT q dx l' ts' → ts'.Perm ts → Asc5 (snds ts') → Q (.ref q) H'
theorem init_of {CQ : Addr} {H1 : Hp} {vs : List V} {Q : VK} (q : spQuarter CQ vs H1 Q E0) (x dx : Addr) (nx : H1 x = none) (ndx : H1 dx = none) (nex : dx ≠ x) :
    spInitQ CQ (.ref x :: vs) (upd (upd H1 dx (.own x)) x (.ins CQ dx [])) (fun v H2 => v = .non ∧ Q (.ref x) H2) E0 := by
  obtain ⟨l, g, ts, gs, rfl, hl, so, hg, go, q⟩ := q
  have s1 : Same H1 (upd (upd H1 dx (.own x)) x (.ins CQ dx [])) := same_trans (same_upd ndx) (same_upd (by rw [upd_ne (Ne.symm nex)]; exact nx))
  refine ⟨x, dx, l, g, ts, gs, rfl, upd_same, hl.keep s1, so, s1 _ _ hg, go, fun H' l' g' ts' gs' b nl ng hq pt as pg ag => ⟨rfl, ?_⟩⟩
  refine q x dx l' g' ts' gs' H' (fun a o e => b a o (ne_of_none e nx) (s1 _ _ e)) nx (s1.free nl) (s1.free ng) hq pt as pg ag
theorem init_ofT {CQ : Addr} {H1 : Hp} {vs : List V} {Q : VK} (q : spTown CQ vs H1 Q E0) (x dx : Addr) (nx : H1 x = none) (ndx : H1 dx = none) (nex : dx ≠ x) :
    spInitT CQ (.ref x :: vs) (upd (upd H1 dx (.own x)) x (.ins CQ dx [])) (fun v H2 => v = .non ∧ Q (.ref x) H2) E0 := by
  obtain ⟨l, ts, rfl, hl, so, q⟩ := q
  have s1 : Same H1 (upd (upd H1 dx (.own x)) x (.ins CQ dx [])) := same_trans (same_upd ndx) (same_upd (by rw [upd_ne (Ne.symm nex)]; exact nx))
  refine ⟨x, dx, l, ts, rfl, upd_same, hl.keep s1, so, fun H' l' ts' b nl hq pt as => ⟨rfl, ?_⟩⟩
  refine q x dx l' ts' H' (fun a o e => b a o (ne_of_none e nx) (s1 _ _ e)) nx (s1.free nl) hq pt as
/-- how a class is made -/
structure MkZ (P : Program) (w : World) (K : PySem.W.Frag) (mg : Str → Option Value) (base : Heap) (x : Str) (C : Addr) (ps : List Str) (ks : List Str) (sp : Sp) : Prop where
  ex : ∃ (f : Addr) (fd : FuncData), Mk K C f ∧ FnOk P w K mg base CX0 6 f fd ps sp ∧ Binds K fd ps [] ∧ (∃ (g : List Value → List Value → List Value) (gV : List V → List V → List V), KBn K fd ps 1 ks g gV ∧ (∀ x a b, ks.length = 2 → gV [x] [a, b] = [x, b, a]) ∧ ∀ x a, ks.length = 1 → gV [x] [a] = [x, a])
  mg : mg x = some (.ref C)
section
variable {X : Cx} {x : Str} {C : Addr} {p pos : Pos} {e : Expr} {es : List Expr} {kws : List Keyword} {t tk : TA} {ks : List Str}
theorem pe_qu (Z : MkZ X.prog X.w X.K X.mg X.base "Quarter" C ["self", "streets", "gates"] ks (spInitQ C)) (hr : Room 7 X.A) (hg : Gl X "Quarter") (ha : PA X (e :: es) t)
    (he : starEach (e :: es) X.env = (false, eval e X.env) :: starEach es X.env := by rfl) (hpl : (backTo pos (starEach es X.env)).any (·.1) = false := by rfl) :
    PE X (.Call (.Name "Quarter" p) (e :: es) [] pos) (tCall (spQuarter C) [] E0 t) := by
  obtain ⟨f, fd, M, F, hb, _⟩ := Z.ex
  refine ⟨fun pins s σ H Q I h => ?_⟩
  refine wpAny_Call_Name_kw (ld_glob I hg Z.mg ?_ (by decide))
  refine PySem.W.callWith_K (h₀ := X.base) I.ok.mod.kin M.kp (thn (ha.run pos pins s σ H _ I h) fun us s1 ⟨vs, H1, I1, r, q⟩ => ⟨I1.kIn, ?_⟩) he hpl
  have q : spQuarter C vs H1 Q E0 := by
    have q' : spQuarter C (vs ++ []) H1 Q E0 := q
    rw [List.append_nil] at q'
    exact q'
  refine run_make M F hr hb (dvs := []) .nil pass0 I1 r fun x dx nx ndx nex => ?_
  rw [List.append_nil]
  exact init_of q x dx nx ndx nex
theorem pe_tw (Z : MkZ X.prog X.w X.K X.mg X.base "Town" C ["self", "streets"] ks (spInitT C)) (hr : Room 7 X.A) (hg : Gl X "Town") (ha : PA X (e :: es) t)
    (he : starEach (e :: es) X.env = (false, eval e X.env) :: starEach es X.env := by rfl) (hpl : (backTo pos (starEach es X.env)).any (·.1) = false := by rfl) :
    PE X (.Call (.Name "Town" p) (e :: es) [] pos) (tCall (spTown C) [] E0 t) := by
  obtain ⟨f, fd, M, F, hb, _⟩ := Z.ex
  refine ⟨fun pins s σ H Q I h => ?_⟩
  refine wpAny_Call_Name_kw (ld_glob I hg Z.mg ?_ (by decide))
  refine PySem.W.callWith_K (h₀ := X.base) I.ok.mod.kin M.kp (thn (ha.run pos pins s σ H _ I h) fun us s1 ⟨vs, H1, I1, r, q⟩ => ⟨I1.kIn, ?_⟩) he hpl
  have q : spTown C vs H1 Q E0 := by
    have q' : spTown C (vs ++ []) H1 Q E0 := q
    rw [List.append_nil] at q'
    exact q'
  refine run_make M F hr hb (dvs := []) .nil pass0 I1 r fun x dx nx ndx nex => ?_
  rw [List.append_nil]
  exact init_ofT q x dx nx ndx nex
/-- Quarter(gates=g, streets=l) -/
def tQuK (C : Addr) (tk : TA) : TE := fun σ H Q => tk σ H fun zs H2 => ∃ g l, zs = [g, l] ∧ spQuarter C [l, g] H2 Q E0
def tTwK (C : Addr) (tk : TA) : TE := fun σ H Q => tk σ H fun zs H2 => ∃ l, zs = [l] ∧ spTown C [l] H2 Q E0
theorem pe_quK (Z : MkZ X.prog X.w X.K X.mg X.base "Quarter" C ["self", "streets", "gates"] ["gates", "streets"] (spInitQ C)) (hr : Room 7 X.A) (hg : Gl X "Quarter") (hkw : PK X kws tk)
    (hall : (backToKw pos (keywordEach kws X.env)).all (·.1.isSome) = true := by rfl) (hks : (backToKw pos (keywordEach kws X.env)).filterMap (·.1) = (["gates", "streets"] : List Str) := by rfl)
    (hpl : ((backTo pos (starEach [] X.env)).any (·.1) || (backToKw pos (keywordEach kws X.env)).any (·.1.isNone)) = false := by rfl) : PE X (.Call (.Name "Quarter" p) [] kws pos) (tQuK C tk) := by
  obtain ⟨f, fd, M, F, _, g, gV, hb, e2, _⟩ := Z.ex
  refine ⟨fun pins s σ H Q I h => ?_⟩
  refine wpAny_Call_Name_kw (ld_glob I hg Z.mg ?_ (by decide))
  refine PySem.W.callWith_KW0 (h₀ := X.base) I.ok.mod.kin M.kp hall ?_ hpl
  refine thn (hkw.run pos pins s σ H _ I h) fun ws s2 ⟨zs, H2, I2, rz, q2⟩ => ⟨I2.kIn, ?_⟩
  obtain ⟨a, b, rfl, q⟩ := q2
  rw [hks]
  refine run_makeK (n := 0) (us := []) (vs := []) M F hr hb pass0 I2 .nil rz rfl rfl fun x dx nx ndx nex => ?_
  rw [e2 _ _ _ rfl]
  exact init_of q x dx nx ndx nex
theorem pe_twK (Z : MkZ X.prog X.w X.K X.mg X.base "Town" C ["self", "streets"] ["streets"] (spInitT C)) (hr : Room 7 X.A) (hg : Gl X "Town") (hkw : PK X kws tk)
    (hall : (backToKw pos (keywordEach kws X.env)).all (·.1.isSome) = true := by rfl) (hks : (backToKw pos (keywordEach kws X.env)).filterMap (·.1) = (["streets"] : List Str) := by rfl)
    (hpl : ((backTo pos (starEach [] X.env)).any (·.1) || (backToKw pos (keywordEach kws X.env)).any (·.1.isNone)) = false := by rfl) : PE X (.Call (.Name "Town" p) [] kws pos) (tTwK C tk) := by
  obtain ⟨f, fd, M, F, _, g, gV, hb, _, e2⟩ := Z.ex
  refine ⟨fun pins s σ H Q I h => ?_⟩
  refine wpAny_Call_Name_kw (ld_glob I hg Z.mg ?_ (by decide))
  refine PySem.W.callWith_KW0 (h₀ := X.base) I.ok.mod.kin M.kp hall ?_ hpl
  refine thn (hkw.run pos pins s σ H _ I h) fun ws s2 ⟨zs, H2, I2, rz, q2⟩ => ⟨I2.kIn, ?_⟩
  obtain ⟨a, rfl, q⟩ := q2
  rw [hks]
  refine run_makeK (n := 0) (us := []) (vs := []) M F hr hb pass0 I2 .nil rz rfl rfl fun x dx nx ndx nex => ?_
  rw [e2 _ _ rfl]
  exact init_ofT q x dx nx ndx nex
end
section
variable {P : Program} {w : World} {K : PySem.W.Frag} {mg : Str → Option Value} {base : Heap}
abbrev MkQ (P : Program) (w : World) (K : PySem.W.Frag) (mg : Str → Option Value) (base : Heap) (CQ : Addr) : Prop := MkZ P w K mg base "Quarter" CQ ["self", "streets", "gates"] ["gates", "streets"] (spInitQ CQ)
abbrev MkT (P : Program) (w : World) (K : PySem.W.Frag) (mg : Str → Option Value) (base : Heap) (CT : Addr) : Prop := MkZ P w K mg base "Town" CT ["self", "streets"] ["streets"] (spInitT CT)
theorem mkQ_of {CQ f : Addr} {fd : FuncData} (F : FnM K "__init__" "Quarter.__init__" sQInit f fd) (M : Mk K CQ f) (hm : mg "Quarter" = some (.ref CQ)) (G : FnOk P w K mg base CX0 6 f fd ["self", "streets", "gates"] (spInitQ CQ)) : MkQ P w K mg base CQ := by
  refine ⟨⟨f, fd, M, G, FunD.bindsN F fun _ _ _ _ _ _ us hl => match us, hl with | [_, _, _], _ => rfl, _, _, kbN (n := 1) (ks := ["gates", "streets"]) F (fun us ws => us ++ ws.reverse) (fun r1 r2 => r1.append r2.reverse) (fun _ _ _ _ _ _ us ws h1 h2 => match us, ws, h1, h2 with | [_], [_, _], _, _ => rfl), fun _ _ _ _ => rfl, fun _ _ z => absurd z (by decide)⟩, hm⟩
theorem mkT_of {CT f : Addr} {fd : FuncData} (F : FnM K "__init__" "Town.__init__" sTInit f fd) (M : Mk K CT f) (hm : mg "Town" = some (.ref CT)) (G : FnOk P w K mg base CX0 6 f fd ["self", "streets"] (spInitT CT)) : MkT P w K mg base CT := by
  refine ⟨⟨f, fd, M, G, FunD.bindsN F fun _ _ _ _ _ _ us hl => match us, hl with | [_, _], _ => rfl, _, _, kbN (n := 1) (ks := ["streets"]) F (fun us ws => us ++ ws) (fun r1 r2 => r1.append r2) (fun _ _ _ _ _ _ us ws h1 h2 => match us, ws, h1, h2 with | [_], [_], _, _ => rfl), fun _ _ _ z => absurd z (by decide), fun _ _ _ => rfl⟩, hm⟩
end
end K13
end
section
set_option Elab.async false
set_option linter.all false
set_option maxRecDepth 100000
set_option maxHeartbeats 8000000
namespace K13
open PySem PySem.Spec PyProof.Rows L2
/-! ### lists as data -/
theorem dt_sts {H : Hp} : ∀ {ts : List (Addr × S5)}, (∀ t ∈ ts, H t.1 = some (.tup t.2.vals)) → DtAll H (ts.map fun t => V.ref t.1) ((snds ts).map S5.data)
  | [], _ => .nil
  | t :: ts, h => .cons (.tup (h t List.mem_cons_self) (.cons (.str _) (.cons (.str _) (.cons (.str _) (.cons (.int _) (.cons (.int _) .nil)))))) (dt_sts fun u hu => h u (List.mem_cons_of_mem _ hu))
theorem Sts.dt {H : Hp} {l : Addr} {ts : List (Addr × S5)} (h : Sts H l ts) : Dt H (.ref l) (.list ((snds ts).map S5.data)) := .lst h.1 (dt_sts h.2)
theorem dt_strs {H : Hp} : ∀ ws : List Str, DtAll H (ws.map V.str) (ws.map PyData.str)
  | [] => .nil
  | w :: ws => .cons (.str w) (dt_strs ws)
theorem dt_ws {H : Hp} {l : Addr} {gs : List Str} (h : Ws H l gs) : Dt H (.ref l) (.list (gs.map PyData.str)) := .lst h (dt_strs gs)
theorem widAll_sts : ∀ ss : List S5, widAll (ss.map S5.data) ≤ 5
  | [] => by simp [widAll]
  | s :: ss => by
    have ih := widAll_sts ss
    have h : wid s.data ≤ 5 := by simp [S5.data, wid, widAll]
    rw [List.map_cons, widAll]
    omega
theorem widAll_strs : ∀ ws : List Str, widAll (ws.map PyData.str) = 0
  | [] => by simp [widAll]
  | s :: ss => by
    have h : wid (.str s) = 0 := by simp [wid]
    rw [List.map_cons, widAll, widAll_strs ss, h]
    rfl
theorem wid_sts {ss : List S5} (h : ss.length ≤ 1000) : wid (.list (ss.map S5.data)) ≤ 1000 := by
  have := widAll_sts ss
  rw [wid, List.length_map]
  omega
theorem wid_strs {ws : List Str} (h : ws.length ≤ 1000) : wid (.list (ws.map PyData.str)) ≤ 1000 := by
  rw [wid, List.length_map, widAll_strs]
  omega
theorem dep_sts (ss : List S5) : PyData.depth (.list (ss.map S5.data)) ≤ 4 := by
  have := depth_sts ss
  rw [PyData.depth]
  omega
theorem dep_strs (ws : List Str) : PyData.depth (.list (ws.map PyData.str)) ≤ 4 := by
  have := depth_strs ws
  rw [PyData.depth]
  omega
theorem dep_two {a b : PyData} (ha : PyData.depth a ≤ 4) (hb : PyData.depth b ≤ 4) : PyData.depth (.list [a, b]) ≤ 5 := by
  simp only [PyData.depth, PyData.depthAll]
  omega
theorem dep_three {a b c : PyData} (ha : PyData.depth a ≤ 4) (hb : PyData.depth b ≤ 4) (hc : PyData.depth c ≤ 4) : PyData.depth (.list [a, b, c]) ≤ 5 := by
  simp only [PyData.depth, PyData.depthAll]
  omega
theorem wid_two {a b : PyData} (ha : wid a ≤ 1000) (hb : wid b ≤ 1000) : wid (.list [a, b]) ≤ 1000 := by
  simp only [wid, widAll, List.length_cons, List.length_nil]
  omega
theorem wid_three {a b c : PyData} (ha : wid a ≤ 1000) (hb : wid b ≤ 1000) (hc : wid c ≤ 1000) : wid (.list [a, b, c]) ≤ 1000 := by
  simp only [wid, widAll, List.length_cons, List.length_nil]
  omega
theorem ends_perm {ss ss' : List S5} (p : ss.Perm ss') (x : Str) : x ∈ ends ss ↔ x ∈ ends ss' := by
  unfold ends
  rw [List.mem_append, List.mem_append, (p.map S5.st).mem_iff, (p.map S5.en).mem_iff]
section
variable {P : Program} {w : World} {K : PySem.W.Frag} {mg : Str → Option Value} {base : Heap}
/-- q is the quarter of these -/
structure IsQ (H : Hp) (CQ q : Addr) (ss : List S5) (gs : List Str) : Prop where
  ex : ∃ dx l g ts hs, QuP H CQ q dx l g ts hs ∧ (snds ts).Perm ss ∧ Asc5 (snds ts) ∧ hs.Perm gs ∧ Asc hs
  so : SOk ss
  go : GOk gs
structure IsT (H : Hp) (CT q : Addr) (ss : List S5) : Prop where
  ex : ∃ dx l ts, TwP H CT q dx l ts ∧ (snds ts).Perm ss ∧ Asc5 (snds ts)
  so : SOk ss
theorem IsQ.keep {H H' : Hp} {CQ q : Addr} {ss : List S5} {gs : List Str} (h : IsQ H CQ q ss gs) (s : Same H H') : IsQ H' CQ q ss gs := by
  obtain ⟨⟨dx, l, g, ts, hs, a, r⟩, so, go⟩ := h
  exact ⟨⟨dx, l, g, ts, hs, a.keep s, r⟩, so, go⟩
theorem IsT.keep {H H' : Hp} {CQ q : Addr} {ss : List S5} (h : IsT H CQ q ss) (s : Same H H') : IsT H' CQ q ss := by
  obtain ⟨⟨dx, l, ts, a, r⟩, so⟩ := h
  exact ⟨⟨dx, l, ts, a.keep s, r⟩, so⟩
theorem SOk.perm {ss ss' : List S5} (h : SOk ss) (p : ss'.Perm ss) : SOk ss' := ⟨fun s hs => h.ok s (p.mem_iff.mp hs), (p.map S5.nm).nodup_iff.mpr h.nd, by rw [p.length_eq]; exact h.l⟩
theorem GOk.perm {gs gs' : List Str} (h : GOk gs) (p : gs'.Perm gs) : GOk gs' := ⟨fun s hs => h.wd s (p.mem_iff.mp hs), p.nodup_iff.mpr h.nd, fun e => h.ne (by rw [e] at p; exact p.symm.eq_nil), by rw [p.length_eq]; exact h.l⟩
end
end K13
end
section
set_option Elab.async false
set_option linter.all false
set_option maxRecDepth 100000
set_option maxHeartbeats 8000000
namespace K13
open PySem PySem.Spec PyProof.Rows L2
/-- what two things that are compared are -/
inductive OD where
  | q (ss : List S5) (gs : List Str)
  | t (ss : List S5)
  | f
inductive Ob (H : Hp) (CQ CT : Addr) : V → OD → Prop
  | q {b : Addr} {ss : List S5} {gs : List Str} (h : IsQ H CQ b ss gs) : Ob H CQ CT (.ref b) (.q ss gs)
  | t {b : Addr} {ss : List S5} (h : IsT H CT b ss) : Ob H CQ CT (.ref b) (.t ss)
  | f {x : V} {T : String} (h : KindV H x (.type T)) : Ob H CQ CT x .f
def Oeq : OD → OD → Prop
  | .q ss gs, .q ss' gs' => ss.Perm ss' ∧ gs.Perm gs'
  | .t ss, .t ss' => ss.Perm ss'
  | _, _ => False
theorem nev {a b : OD} (h : ¬ Oeq a b) : (false = true) ↔ Oeq a b := ⟨fun z => Bool.noConfusion z, fun z => absurd z h⟩
theorem Ob.keep {H H' : Hp} {CQ CT : Addr} {x : V} {d : OD} (h : Ob H CQ CT x d) (s : Same H H') : Ob H' CQ CT x d := by
  cases h with
  | q h => exact .q (h.keep s)
  | t h => exact .t (h.keep s)
  | f h => exact .f (h.keep s)
theorem asc5_eq {ss ss' ts ts' : List S5} (so : SOk ss) (so' : SOk ss') (p : ts.Perm ss) (p' : ts'.Perm ss') (a : Asc5 ts) (a' : Asc5 ts') : ts = ts' ↔ ss.Perm ss' := by
  constructor
  · intro e
    exact p.symm.trans (by rw [e]; exact p')
  · intro h
    exact asc5_uniq (so.perm p).nd (p.trans (h.trans p'.symm)) a a'
theorem asc_eq {ss ss' ts ts' : List Str} (p : ts.Perm ss) (p' : ts'.Perm ss') (a : Asc ts) (a' : Asc ts') : ts = ts' ↔ ss.Perm ss' := by
  constructor
  · intro e
    exact p.symm.trans (by rw [e]; exact p')
  · intro h
    exact asc_uniq (p.trans (h.trans p'.symm)) a a'
section
variable {P : Program} {w : World} {K : PySem.W.Frag} {mg : Str → Option Value} {base : Heap}
variable {CQ CT iQ iT eQ eT sQ sT gQ : Addr}
theorem first_self {C : Addr} : PySem.W.notFirst K C (.ref C) = true := by simp [PySem.W.notFirst]
/-- == of two things, one of them a quarter or a town -/
theorem eq_ob (Z : Klz K mg CQ CT iQ iT eQ eT sQ sT gQ) {H : Hp} {x y : V} {a b : OD} {Q : VK} {neg : Bool} (hx : Ob H CQ CT x a) (hy : Ob H CQ CT y b) (hn : a ≠ .f ∨ b ≠ .f) (q : ∀ k : Bool, (k = true ↔ Oeq a b) → Q (.bl (k != neg)) H) :
    rOwnEq K CQ (spEqQ CQ CT) E0 neg x y H Q ∨ rOwnEq K CT (spEqT CQ CT) E0 neg x y H Q := by
  cases hx with
  | q h =>
    rename_i b1 ss gs
    obtain ⟨⟨dx, l, g, ts, hs, hq, pt, as, pg, ag⟩, so, go⟩ := h
    have so' := so.perm pt
    have go' := go.perm pg
    refine .inl (.inl ?_)
    cases hy with
    | q h2 =>
      rename_i b2 ss2 gs2
      obtain ⟨⟨dx2, l2, g2, ts2, hs2, hq2, pt2, as2, pg2, ag2⟩, so2, go2⟩ := h2
      refine ⟨_, _, _, _, rfl, hq.at_, .ins hq2.at_, first_self, _, _, _, _, _, _, _, rfl, hq, so', go', .inl ⟨_, _, _, _, _, _, rfl, hq2, so2.perm pt2, go2.perm pg2, _, rfl, q _ ?_⟩⟩
      rw [decide_eq_true_eq, asc5_eq so so2 pt pt2 as as2, asc_eq pg pg2 ag ag2]
      rfl
    | t h2 =>
      obtain ⟨⟨dx2, l2, ts2, hq2, _⟩, _⟩ := h2
      exact ⟨_, _, _, _, rfl, hq.at_, .ins hq2.at_, Z.nQT, _, _, _, _, _, _, _, rfl, hq, so', go', .inr (.inr ⟨_, _, _, rfl, hq2.at_, _, rfl, q _ (nev fun z => z)⟩)⟩
    | f h2 =>
      exact ⟨_, _, _, _, rfl, hq.at_, h2, (Z.q.kk _ (kind_ty (K := K) h2).2).2, _, _, _, _, _, _, _, rfl, hq, so', go', .inr (.inl ⟨_, h2, _, rfl, q _ (nev fun z => z)⟩)⟩
  | t h =>
    rename_i b1 ss
    obtain ⟨⟨dx, l, ts, hq, pt, as⟩, so⟩ := h
    have so' := so.perm pt
    refine .inr (.inl ?_)
    cases hy with
    | q h2 =>
      obtain ⟨⟨dx2, l2, g2, ts2, hs2, hq2, _⟩, _⟩ := h2
      exact ⟨_, _, _, _, rfl, hq.at_, .ins hq2.at_, Z.nTQ, _, _, _, _, _, rfl, hq, so', .inr (.inr ⟨_, _, _, rfl, hq2.at_, _, rfl, q _ (nev fun z => z)⟩)⟩
    | t h2 =>
      rename_i b2 ss2
      obtain ⟨⟨dx2, l2, ts2, hq2, pt2, as2⟩, so2⟩ := h2
      refine ⟨_, _, _, _, rfl, hq.at_, .ins hq2.at_, first_self, _, _, _, _, _, rfl, hq, so', .inl ⟨_, _, _, _, rfl, hq2, so2.perm pt2, _, rfl, q _ ?_⟩⟩
      rw [decide_eq_true_eq, asc5_eq so so2 pt pt2 as as2]
      rfl
    | f h2 =>
      exact ⟨_, _, _, _, rfl, hq.at_, h2, (Z.t.kk _ (kind_ty (K := K) h2).2).2, _, _, _, _, _, rfl, hq, so', .inr (.inl ⟨_, h2, _, rfl, q _ (nev fun z => z)⟩)⟩
  | f h =>
    cases hy with
    | q h2 =>
      obtain ⟨⟨dx, l, g, ts, hs, hq, pt, as, pg, ag⟩, so, go⟩ := h2
      exact .inl (.inr ⟨_, _, _, _, rfl, hq.at_, h, _, _, _, _, _, _, _, rfl, hq, so.perm pt, go.perm pg, .inr (.inl ⟨_, h, _, rfl, q _ (nev fun z => z)⟩)⟩)
    | t h2 =>
      obtain ⟨⟨dx, l, ts, hq, pt, as⟩, so⟩ := h2
      exact .inr (.inr ⟨_, _, _, _, rfl, hq.at_, h, _, _, _, _, _, rfl, hq, so.perm pt, .inr (.inl ⟨_, h, _, rfl, q _ (nev fun z => z)⟩)⟩)
    | f h2 =>
      rcases hn with hn | hn
      · exact absurd rfl hn
      · exact absurd rfl hn
/-- both classes' own == as they are run -/
structure EqZ (P : Program) (w : World) (K : PySem.W.Frag) (mg : Str → Option Value) (base : Heap) (CQ CT : Addr) : Prop where
  ex : ∃ (iQ iT eQ eT sQ sT gQ : Addr) (fQ fT : FuncData), Klz K mg CQ CT iQ iT eQ eT sQ sT gQ ∧ FnOk P w K mg base CX0 1 eQ fQ ["self", "other"] (spEqQ CQ CT) ∧ Binds K fQ ["self", "other"] [] ∧ FnOk P w K mg base CX0 1 eT fT ["self", "other"] (spEqT CQ CT) ∧ Binds K fT ["self", "other"] []
end
/-- == of two things -/
def rOb (CQ CT : Addr) (neg : Bool) : R2 := fun x y H Q => ∃ a b, Ob H CQ CT x a ∧ Ob H CQ CT y b ∧ (a ≠ .f ∨ b ≠ .f) ∧ ∀ k : Bool, (k = true ↔ Oeq a b) → Q (.bl (k != neg)) H
section
variable {X : Cx} {CQ CT : Addr}
theorem op_obEq (Z : EqZ X.prog X.w X.K X.mg X.base CQ CT) (hr : Room 1 X.A) : OpR X (compareOp .Eq) (rOb CQ CT false) := by
  obtain ⟨iQ, iT, eQ, eT, sQ, sT, gQ, fQ, fT, k, F1, b1, F2, b2⟩ := Z.ex
  intro pins s σ H x y v u Q I rx ry ⟨a, b, ha, hb, hn, q⟩
  exact OpR.or (op_ownEq F1 k.q.ow b1 pass0 hr) (op_ownEq F2 k.t.ow b2 pass0 hr) pins s σ H x y v u Q I rx ry (eq_ob k ha hb hn q)
theorem op_obNe (Z : EqZ X.prog X.w X.K X.mg X.base CQ CT) (hr : Room 2 X.A) : OpR X (compareOp .NotEq) (rOb CQ CT true) := by
  obtain ⟨iQ, iT, eQ, eT, sQ, sT, gQ, fQ, fT, k, F1, b1, F2, b2⟩ := Z.ex
  intro pins s σ H x y v u Q I rx ry ⟨a, b, ha, hb, hn, q⟩
  exact OpR.or (op_ownNe F1 k.q.ow b1 pass0 hr) (op_ownNe F2 k.t.ow b2 pass0 hr) pins s σ H x y v u Q I rx ry (eq_ob k ha hb hn q)
end
end K13
end
section
set_option Elab.async false
set_option linter.all false
set_option maxRecDepth 100000
set_option maxHeartbeats 4000000
namespace H3
open PySem PySem.Spec PyProof.Rows L2
theorem same_upd {H : Hp} {a : Addr} {o : HO} (h : H a = none) : Same H (upd H a o) := fun b u e => by
  rw [upd_ne (ne_of_none e h)]
  exact e
theorem same_trans {A B C : Hp} (x : Same A B) (y : Same B C) : Same A C := fun b u e => y b u (x b u e)
/-- a comprehension over a list: what it makes, told of each item by R -/
theorem lc_gen {α : Type} {K : PySem.W.Frag} {l : Addr} {us : List α} {vf : α → V} {p : α → Bool} {R : α → V → Hp → Prop} {g : TG} {tt : TT} {te : TE} {vs : List Nat} {σ : L2.St} {H1 : Hp} {D : Addr} {Qd : Hp → Prop}
    (nD : H1 D = none) (hl : H1 l = some (.lst (us.map vf))) (hz : us.length < sizeLine) (mono : ∀ u y H H', R u y H → (∀ b o, b ≠ D → H b = some o → H' b = some o) → R u y H')
    (hs : ∀ u ∈ us, ∀ H', Same H1 H' → (∃ acc, H' D = some (.lst acc)) → ∀ (N : V → Hp → Prop) (N0 : Hp → Prop), (p u = true → ∀ y H4, Same H' H4 → R u y H4 → N y H4) → (p u = false → ∀ H3, Same H' H3 → N0 H3) →
      g (vf u) (wipe σ vs) H' fun σ2 H2 => wipe σ2 vs = wipe σ vs ∧ tt σ2 H2 fun b H3 => if b = true then te σ2 H3 N else N0 H3)
    (fin : ∀ H' (zs : List (α × V)), Same H1 H' → H' D = some (.lst (zs.map fun z => z.2)) → (zs.map fun z => z.1) = us.filter p → (∀ z ∈ zs, R z.1 z.2 H') → Qd H') :
    ∃ W : Nat → Nat → Hp → Prop, (∃ m, W 0 m (upd H1 D (.lst []))) ∧ ∀ i m H, W i m H →
      ((Itl K l).stop i H ∧ Qd H) ∨ ((Itl K l).go i H ∧ ∃ Nx : Hp → Prop, (∀ H', Nx H' → ∃ m', m' < m ∧ W (i + 1) m' H') ∧ ∀ x H', (Itl K l).yld i H x H' → g x (wipe σ vs) H' fun σ2 H2 => wipe σ2 vs = wipe σ vs ∧ tt σ2 H2 fun b H3 =>
        if b = true then te σ2 H3 fun y H4 => ∃ acc, H4 D = some (.lst acc) ∧ acc.length < sizeLine ∧ Nx (upd H4 D (.lst (acc ++ [y]))) else Nx H3) := by
  refine lc_list (K := K) (a := l) (xs := us.map vf) (fun n H' => Same H1 H' ∧ ∃ zs : List (α × V), H' D = some (.lst (zs.map fun z => z.2)) ∧ (zs.map fun z => z.1) = (us.take n).filter p ∧ ∀ z ∈ zs, R z.1 z.2 H')
    ⟨same_upd nD, [], upd_same, rfl, fun z h => by simp at h⟩ (fun n H' _ h => SqL.of (h.1 _ _ hl)) ?_ ?_
  · rintro n x H' hn ⟨s1, zs, hD, hz1, hR⟩
    rw [List.getElem?_map] at hn
    cases e : us[n]? with
    | none =>
      rw [e] at hn
      cases hn
    | some u =>
      rw [e] at hn
      cases hn
      have um := List.mem_of_getElem? e
      have lt := (List.getElem?_eq_some_iff.mp e).1
      have et : us.take (n + 1) = us.take n ++ [u] := by
        rw [List.take_add_one, e]
        rfl
      have zl : zs.length ≤ n := by
        have h1 := congrArg List.length hz1
        rw [List.length_map] at h1
        have h2 := List.length_filter_le p (us.take n)
        rw [List.length_take] at h2
        omega
      refine hs u um H' s1 ⟨_, hD⟩ _ _ (fun hp y H4 s4 r => ?_) (fun hp H3 s3 => ?_)
      · have ex : Same H1 (upd H4 D (.lst ((zs.map fun z => z.2) ++ [y]))) := fun b o eb => by
          rw [upd_ne (ne_of_none eb nD)]
          exact s4 _ _ (s1 _ _ eb)
        have bu : ∀ b o, b ≠ D → H4 b = some o → upd H4 D (.lst ((zs.map fun z => z.2) ++ [y])) b = some o := fun b o nb eb => by
          rw [upd_ne nb]
          exact eb
        refine ⟨zs.map fun z => z.2, s4 _ _ hD, by rw [List.length_map]; omega, ex, zs ++ [(u, y)], ?_, ?_, ?_⟩
        · rw [upd_same, List.map_append]
          rfl
        · rw [List.map_append, hz1, et, List.filter_append]
          simp [hp]
        · intro z hz
          rcases List.mem_append.mp hz with h | h
          · exact mono _ _ _ _ (mono _ _ _ _ (hR z h) fun b o _ eb => s4 _ _ eb) bu
          · rw [List.mem_singleton.mp h]
            exact mono _ _ _ _ r bu
      · refine ⟨same_trans s1 s3, zs, s3 _ _ hD, ?_, fun z hz => mono _ _ _ _ (hR z hz) fun b o _ eb => s3 _ _ eb⟩
        rw [hz1, et, List.filter_append]
        simp [hp]
  · rintro H' ⟨s1, zs, hD, hz1, hR⟩
    rw [List.length_map, List.take_length] at hz1
    exact fin H' zs s1 hD hz1 hR
/-- the items are told outright -/
theorem lc_val {α : Type} {K : PySem.W.Frag} {l : Addr} {us : List α} {vf : α → V} {p : α → Bool} {gv : α → V} {g : TG} {tt : TT} {te : TE} {vs : List Nat} {σ : L2.St} {H1 : Hp} {D : Addr} {Qd : Hp → Prop}
    (nD : H1 D = none) (hl : H1 l = some (.lst (us.map vf))) (hz : us.length < sizeLine)
    (hs : ∀ u ∈ us, ∀ H', Same H1 H' → ∀ (N : V → Hp → Prop) (N0 : Hp → Prop), (p u = true → ∀ H4, Same H' H4 → N (gv u) H4) → (p u = false → ∀ H3, Same H' H3 → N0 H3) →
      g (vf u) (wipe σ vs) H' fun σ2 H2 => wipe σ2 vs = wipe σ vs ∧ tt σ2 H2 fun b H3 => if b = true then te σ2 H3 N else N0 H3)
    (fin : ∀ H', Same H1 H' → H' D = some (.lst ((us.filter p).map gv)) → Qd H') :
    ∃ W : Nat → Nat → Hp → Prop, (∃ m, W 0 m (upd H1 D (.lst []))) ∧ ∀ i m H, W i m H →
      ((Itl K l).stop i H ∧ Qd H) ∨ ((Itl K l).go i H ∧ ∃ Nx : Hp → Prop, (∀ H', Nx H' → ∃ m', m' < m ∧ W (i + 1) m' H') ∧ ∀ x H', (Itl K l).yld i H x H' → g x (wipe σ vs) H' fun σ2 H2 => wipe σ2 vs = wipe σ vs ∧ tt σ2 H2 fun b H3 =>
        if b = true then te σ2 H3 fun y H4 => ∃ acc, H4 D = some (.lst acc) ∧ acc.length < sizeLine ∧ Nx (upd H4 D (.lst (acc ++ [y]))) else Nx H3) := by
  refine lc_gen (vf := vf) (p := p) (R := fun u y _ => y = gv u) nD hl hz (fun _ _ _ _ h _ => h) (fun u hu H' s1 _ N N0 h1 h2 => hs u hu H' s1 N N0 (fun hp H4 s4 => h1 hp _ H4 s4 rfl) h2) (fun H' zs s1 hD e hR => fin H' s1 ?_)
  have e2 : (zs.map fun z => z.2) = (zs.map fun z => z.1).map gv := by
    rw [List.map_map]
    exact List.map_congr_left fun z hz => hR z hz
  rw [hD, e2, e]
/-! ### lists of ints as data -/
theorem inV_int (x : Int) (ws : List Int) : inV (.int x) (ws.map V.int) = decide (x ∈ ws) := by
  unfold inV
  induction ws with
  | nil => rfl
  | cons y ws ih =>
    rw [List.map_cons, List.any_cons, ih]
    show ((y == x) || decide (x ∈ ws)) = decide (x ∈ y :: ws)
    by_cases h : y = x
    · subst h
      simp
    · have h' : ¬ x = y := fun e => h e.symm
      simp [h, h']
theorem flat_ints (ws : List Int) : (ws.map V.int).all flatV = true := by
  rw [List.all_map]
  exact List.all_eq_true.mpr fun x _ => rfl
theorem dp_ints {K : PySem.W.Frag} {H : Hp} : ∀ ws : List Int, DpAll K H (ws.map V.int) (ws.map PyData.int)
  | [] => .nil
  | w :: ws => .cons (.int w) (dp_ints ws)
theorem lay_ints : ∀ ws : List Int, PyData.canLayAll0 (ws.map PyData.int) = true
  | [] => rfl
  | w :: ws => by
    have ih := lay_ints ws
    simp [PyData.canLayAll0, PyData.canLay0, ih]
theorem depth_ints : ∀ ws : List Int, PyData.depthAll (ws.map PyData.int) ≤ 1
  | [] => Nat.zero_le _
  | w :: ws => by
    have ih := depth_ints ws
    show max (PyData.depth (.int w)) (PyData.depthAll (ws.map PyData.int)) ≤ 1
    exact Nat.max_le.mpr ⟨by simp [PyData.depth], ih⟩
theorem ints_shaped (ws : List Int) : SeqAt.shaped (.list (ws.map PyData.int)) = true := by
  have h1 : PyData.canLay0 (.list (ws.map PyData.int)) = true := lay_ints ws
  have h2 : PyData.depth (.list (ws.map PyData.int)) ≤ 64 := by
    show PyData.depthAll (ws.map PyData.int) + 1 ≤ 64
    have := depth_ints ws
    omega
  unfold SeqAt.shaped
  rw [h1, decide_eq_true h2]
  rfl
theorem eqvAll_ints : ∀ us vs : List Int, PyData.eqvAll (us.map PyData.int) (vs.map PyData.int) = decide (us = vs)
  | [], [] => by simp [PyData.eqvAll]
  | [], _ :: _ => by simp [PyData.eqvAll]
  | _ :: _, [] => by simp [PyData.eqvAll]
  | a :: ss, b :: ss' => by
    rw [List.map_cons, List.map_cons, PyData.eqvAll, eqvAll_ints ss ss', PyData.eqv]
    by_cases h1 : a = b
    · by_cases h2 : ss = ss'
      · simp [h1, h2]
      · simp [h1, h2]
    · simp [h1]
theorem eqv_ints (us vs : List Int) : PyData.eqv (.list (us.map PyData.int)) (.list (vs.map PyData.int)) = decide (us = vs) := by
  rw [PyData.eqv, eqvAll_ints]
/-! ### lots: ascending lists of positions -/
/-- xs tells ascending positions below n -/
structure Lot (n : Nat) (xs : List Int) : Prop where
  asc : xs.Pairwise (· < ·)
  lo : ∀ x ∈ xs, 0 ≤ x
  hi : ∀ x ∈ xs, x < (n : Int)
theorem asc_ext_int : ∀ {us vs : List Int}, us.Pairwise (· < ·) → vs.Pairwise (· < ·) → (∀ x, x ∈ us ↔ x ∈ vs) → us = vs
  | [], [], _, _, _ => rfl
  | [], b :: vs, _, _, h => by
    have := (h b).mpr List.mem_cons_self
    simp at this
  | a :: us, [], _, _, h => by
    have := (h a).mp List.mem_cons_self
    simp at this
  | a :: us, b :: vs, h1, h2, h => by
    obtain ⟨a1, a2⟩ := List.pairwise_cons.mp h1
    obtain ⟨b1, b2⟩ := List.pairwise_cons.mp h2
    have ab : a = b := by
      rcases List.mem_cons.mp ((h a).mp List.mem_cons_self) with e | m
      · exact e
      · rcases List.mem_cons.mp ((h b).mpr List.mem_cons_self) with e | m2
        · exact e.symm
        · have := b1 a m
          have := a1 b m2
          omega
    subst ab
    rw [asc_ext_int a2 b2 fun x => ?_]
    constructor
    · intro hx
      rcases List.mem_cons.mp ((h x).mp (List.mem_cons_of_mem _ hx)) with e | m
      · have := a1 x hx
        omega
      · exact m
    · intro hx
      rcases List.mem_cons.mp ((h x).mpr (List.mem_cons_of_mem _ hx)) with e | m
      · have := b1 x hx
        omega
      · exact m
/-- the ints 0 .. n - 1 -/
abbrev rgI (n : Nat) : List Int := (List.range n).map fun i : Nat => (i : Int)
theorem rgV_nat (n : Nat) : rgV 0 (n : Int) = (rgI n).map V.int := by
  unfold rgV
  rw [List.map_map]
  have e : ((n : Int) - 0).toNat = n := by omega
  rw [e]
  exact List.map_congr_left fun i _ => by simp
theorem rgI_asc (n : Nat) : (rgI n).Pairwise (· < ·) := by
  rw [List.pairwise_map]
  exact List.pairwise_lt_range.imp fun h => by omega
theorem mem_rgI {n : Nat} {x : Int} : x ∈ rgI n ↔ 0 ≤ x ∧ x < (n : Int) := by
  constructor
  · intro h
    obtain ⟨i, hi, rfl⟩ := List.mem_map.mp h
    have := List.mem_range.mp hi
    omega
  · rintro ⟨h0, h1⟩
    exact List.mem_map.mpr ⟨x.toNat, List.mem_range.mpr (by omega), by omega⟩
theorem rgI_lot (n : Nat) : Lot n (rgI n) := ⟨rgI_asc n, fun x h => (mem_rgI.mp h).1, fun x h => (mem_rgI.mp h).2⟩
theorem Lot.sub {n : Nat} {xs : List Int} (h : Lot n xs) : (rgI n).filter (fun x => decide (x ∈ xs)) = xs := by
  refine asc_ext_int ((rgI_asc n).sublist List.filter_sublist) h.asc fun x => ?_
  rw [List.mem_filter, mem_rgI, decide_eq_true_eq]
  exact ⟨fun z => z.2, fun z => ⟨⟨h.lo x z, h.hi x z⟩, z⟩⟩
theorem Lot.mono {n m : Nat} {xs : List Int} (h : Lot n xs) (k : n ≤ m) : Lot m xs := ⟨h.asc, h.lo, fun x hx => by have := h.hi x hx; omega⟩
theorem Lot.len {n : Nat} {xs : List Int} (h : Lot n xs) : xs.length ≤ n := by
  have e := h.sub
  have h2 := List.length_filter_le (fun x => decide (x ∈ xs)) (rgI n)
  rw [e, List.length_map, List.length_range] at h2
  exact h2
end H3
end
section
set_option Elab.async false
set_option linter.all false
set_option maxRecDepth 100000
set_option maxHeartbeats 16000000
namespace K13
open PySem PySem.Spec PyProof.Rows L2
/-- [x for x in ws if x not in (an expression)] -/
theorem lc_notinE {K : PySem.W.Frag} {J : It} {G : Hp → Prop} {ws bs : List Str} (wk : Walk J ws.length G (YAt (ws.map V.str))) {σ : L2.St} {i : Nat} {F D : Addr} {H1 : Hp} {Qd : Hp → Prop} {tb : TE} (nD : H1 D = none) (hG : ∀ H', Same H1 H' → G H')
    (hF : Ws H1 F bs) (hl : ws.length ≤ 1000) (hi : ∀ v, ((wipe σ [i]).set i (some v))[i]? = some (some v)) (hb : ∀ v H' Q, Same H1 H' → Q (.ref F) H' → tb ((wipe σ [i]).set i (some v)) H' Q) (hw : ∀ v, wipe ((wipe σ [i]).set i (some v)) [i] = wipe σ [i])
    (fin : ∀ H', Same H1 H' → Ws H' D (ws.filter fun x => decide (x ∉ bs)) → Qd H') :
    ∃ W : Nat → Nat → Hp → Prop, (∃ m, W 0 m (upd H1 D (.lst []))) ∧ ∀ n m H, W n m H →
      (J.stop n H ∧ Qd H) ∨ (J.go n H ∧ ∃ Nx : Hp → Prop, (∀ H', Nx H' → ∃ m', m' < m ∧ W (n + 1) m' H') ∧ ∀ x H', J.yld n H x H' → gName i x (wipe σ [i]) H' fun σ2 H2 => wipe σ2 [i] = wipe σ [i] ∧ tTest (tOp (rIn K true) (tVar i) tb) σ2 H2 fun b H3 =>
        if b = true then tVar i σ2 H3 fun y H4 => ∃ acc, H4 D = some (.lst acc) ∧ acc.length < sizeLine ∧ Nx (upd H4 D (.lst (acc ++ [y]))) else Nx H3) := by
  have sl := sizeLine_eq
  refine lc_it wk (fun n H' => Same H1 H' ∧ H' D = some (.lst (((ws.take n).filter fun x => decide (x ∉ bs)).map V.str))) ⟨same_upd nD, upd_same⟩ (fun n H' _ h => hG H' h.1) ?_ ?_
  · rintro n x H' H2 hn ⟨s1, hD⟩ ⟨rfl, hx⟩
    obtain ⟨c, hc, rfl⟩ := at_map hx
    have et : ws.take (n + 1) = ws.take n ++ [c] := by
      rw [List.take_add_one, hc]
      rfl
    have ll : ((ws.take n).filter fun x => decide (x ∉ bs)).length ≤ n := Nat.le_trans (List.length_filter_le _ _) (by rw [List.length_take]; omega)
    refine ⟨hw _, _, hi _, hb _ _ _ s1 ⟨F, bs.map V.str, rfl, Or.inl (SqL.of (s1 _ _ hF)), rfl, flat_strs bs, _, rfl, ?_⟩⟩
    rw [inV_str]
    by_cases hb : c ∈ bs
    · refine ifF (by show ¬ (!decide (c ∈ bs)) = true; rw [decide_eq_true hb]; decide) ⟨s1, ?_⟩
      rw [et, List.filter_append]
      simp [hD, hb]
    · refine ifT (by show (!decide (c ∈ bs)) = true; rw [decide_eq_false hb]; rfl) ⟨_, hi _, _, hD, by rw [List.length_map]; omega, fun b o eb => ?_, ?_⟩
      · rw [upd_ne (ne_of_none eb nD)]
        exact s1 _ _ eb
      · rw [upd_same, et, List.filter_append]
        simp [hb]
  · rintro H' ⟨s1, hD⟩
    rw [List.take_length] at hD
    exact fin H' s1 hD
/-- a world at W whose parts aren't the purse -/
structure WoP (H : Hp) (p W ls lg lc ln : Addr) (ts : List (Addr × S5)) (gs cs ns : List Str) : Prop where
  at_ : H W = some (.lst [.ref ls, .ref lg, .ref lc, .ref ln])
  wo : Wo H ls lg lc ln ts gs cs ns
  nW : W ≠ p
  ns_ : ls ≠ p
  ng : lg ≠ p
  nc : lc ≠ p
  nn : ln ≠ p
theorem Sts.but {H H' : Hp} {p l : Addr} {ts : List (Addr × S5)} (h : Sts H l ts) (b : But p H H') (nl : l ≠ p) (hp : ∃ xs, H p = some (.lst xs)) : Sts H' l ts := by
  refine ⟨b _ _ nl h.1, fun t ht => b _ _ (fun e => ?_) (h.2 t ht)⟩
  obtain ⟨xs, hp⟩ := hp
  have e1 := h.2 t ht
  rw [e, hp] at e1
  cases e1
theorem WoP.but {H H' : Hp} {p W ls lg lc ln : Addr} {ts : List (Addr × S5)} {gs cs ns : List Str} (h : WoP H p W ls lg lc ln ts gs cs ns) (b : But p H H') (hp : ∃ xs, H p = some (.lst xs)) : WoP H' p W ls lg lc ln ts gs cs ns := by
  obtain ⟨h1, ⟨s, g, c, n, r1, r2, r3, r4, r5, r6, r7, r8, r9, r10⟩, a, a1, a2, a3, a4⟩ := h
  exact ⟨b _ _ a h1, ⟨s.but b a1 hp, b _ _ a2 g, b _ _ a3 c, b _ _ a4 n, r1, r2, r3, r4, r5, r6, r7, r8, r9, r10⟩, a, a1, a2, a3, a4⟩
theorem WoP.keep {H H' : Hp} {p W ls lg lc ln : Addr} {ts : List (Addr × S5)} {gs cs ns : List Str} (h : WoP H p W ls lg lc ln ts gs cs ns) (b : Same H H') : WoP H' p W ls lg lc ln ts gs cs ns := by
  obtain ⟨h1, ⟨s, g, c, n, r1, r2, r3, r4, r5, r6, r7, r8, r9, r10⟩, a, a1, a2, a3, a4⟩ := h
  exact ⟨b _ _ h1, ⟨s.keep b, b _ _ g, b _ _ c, b _ _ n, r1, r2, r3, r4, r5, r6, r7, r8, r9, r10⟩, a, a1, a2, a3, a4⟩
theorem Pu.lst {H : Hp} {p : Addr} {n : Int} (h : Pu H p n) : ∃ xs, H p = some (.lst xs) := by
  obtain ⟨xs, h, _⟩ := h
  exact ⟨xs, h⟩
theorem Wo.gnd {H : Hp} {ls lg lc ln : Addr} {ts : List (Addr × S5)} {gs cs ns : List Str} (h : Wo H ls lg lc ln ts gs cs ns) : gs.Nodup ∧ (∀ x ∈ gs, x ∈ cs) ∧ gs ≠ [] ∧ gs.length ≤ 5 := by
  obtain ⟨k, k1, k5, kc, rfl⟩ := h.gp
  refine ⟨(List.take_sublist _ _).nodup h.cd, fun x hx => List.mem_of_mem_take hx, fun e => ?_, by rw [List.length_take]; omega⟩
  have := congrArg List.length e
  rw [List.length_take, List.length_nil] at this
  omega
theorem Wo.sok {H : Hp} {ls lg lc ln : Addr} {ts : List (Addr × S5)} {gs cs ns : List Str} (h : Wo H ls lg lc ln ts gs cs ns) : SOk (snds ts) := by
  refine ⟨fun s hs => ?_, ?_, ?_⟩
  · obtain ⟨t, ht, rfl⟩ := List.mem_map.mp hs
    exact (h.ok t ht).1
  · rw [← nms_snds]
    exact h.nd
  · have := h.l2
    have := h.l3
    rw [List.length_map]
    omega
theorem Wo.gok {H : Hp} {ls lg lc ln : Addr} {ts : List (Addr × S5)} {gs cs ns : List Str} (h : Wo H ls lg lc ln ts gs cs ns) : GOk gs := by
  obtain ⟨h1, h2, h3, h4⟩ := h.gnd
  exact ⟨fun x hx => h.cw x (h2 x hx), h1, h3, by omega⟩
theorem nodup_filter_app {α : Type} [DecidableEq α] {cs ws : List α} (h1 : cs.Nodup) (h2 : ws.Nodup) : (cs ++ ws.filter fun x => decide (x ∉ cs)).Nodup :=
  List.nodup_append.mpr ⟨h1, List.filter_sublist.nodup h2, fun x hx y hy e => by
    subst e
    exact of_decide_eq_true (List.mem_filter.mp hy).2 hx⟩
section
variable {P : Program} {w : World} {K : PySem.W.Frag} {mg : Str → Option Value} {base : Heap}
/-- the quarter's part of a world -/
structure Wq (H : Hp) (W ls lg : Addr) (ts : List (Addr × S5)) (gs : List Str) : Prop where
  at_ : ∃ r, H W = some (.lst (.ref ls :: .ref lg :: r))
  s : Sts H ls ts
  g : Ws H lg gs
  so : SOk (snds ts)
  go : GOk gs
theorem Wq.keep {H H' : Hp} {W ls lg : Addr} {ts : List (Addr × S5)} {gs : List Str} (h : Wq H W ls lg ts gs) (b : Same H H') : Wq H' W ls lg ts gs := by
  obtain ⟨⟨x, h1⟩, h2, h3, h4, h5⟩ := h
  exact ⟨⟨x, b _ _ h1⟩, h2.keep b, b _ _ h3, h4, h5⟩
theorem WoP.wq {H : Hp} {p W ls lg lc ln : Addr} {ts : List (Addr × S5)} {gs cs ns : List Str} (h : WoP H p W ls lg lc ln ts gs cs ns) : Wq H W ls lg ts gs := ⟨⟨_, h.at_⟩, h.wo.s, h.wo.g, h.wo.sok, h.wo.gok⟩
/-! ### _law_quarter -/
def spLQuarter (CQ : Addr) : Sp := fun vs H Q _ => ∃ (W ls lg : Addr) (ts : List (Addr × S5)) (gs : List Str), vs = [.ref W] ∧ Wq H W ls lg ts gs ∧ ∀ q H', Same H H' → H q = none → IsQ H' CQ q (snds ts) gs → Q (.ref q) H'
theorem scLQuarter : FnScope ["_law_world_here"] ["_law_world_here"] (defScope sQuarter) := ⟨rfl, rfl, rfl, by decide +kernel, rfl, by decide +kernel, by decide +kernel⟩
theorem ok_lQuarter {CQ : Addr} {f : Addr} {fd : FuncData} (F : FnP K "_law_quarter" sQuarter f fd) (M : MkQ P w K mg base CQ) (T : Tx K mg) : FnOk P w K mg base CX0 8 f fd ["_law_world_here"] (spLQuarter CQ) := by
  refine F.ok scLQuarter (fun vs H Q E h => ?_) (fun cdv A outer s H vs Q E hr h => ?_)
  · obtain ⟨_, _, _, _, _, rfl, _⟩ := h
    rfl
  · obtain ⟨W, ls, lg, ts, gs, rfl, hW, q⟩ := h
    have gLi := T.fr "list" (by decide +kernel)
    refine ⟨_, PSs.nox (pss_one (ps_ret (pe_qu M hr (by rfl) (pa_cons (pe_callTy call_list_of (by rfl) gLi (by decide +kernel) (pa_cons (pe_ix ix_list (pv 0) pe_int (fun _ _ => rfl)) pa_nil)) (pa_cons (pe_callTy call_list_of (by rfl) gLi (by decide +kernel) (pa_cons (pe_ix ix_list (pv 0) pe_int (fun _ _ => rfl)) pa_nil)) pa_nil))))), ?_⟩
    obtain ⟨⟨x, h0⟩, hs, hg, so, go⟩ := hW
    refine ⟨_, rfl, W, _, ((0 : Nat) : Int), _, rfl, rfl, SqL.of h0, atI_nat rfl, ls, _, rfl, Or.inl (SqL.of hs.1), fun D1 n1 => ?_⟩
    have s1 := same_upd (o := .lst (ts.map fun t => V.ref t.1)) n1
    have h1 : Sts (upd H D1 (.lst (ts.map fun t => V.ref t.1))) D1 ts := ⟨upd_same, fun t ht => s1 _ _ (hs.2 t ht)⟩
    generalize upd H D1 (.lst (ts.map fun t => V.ref t.1)) = H1 at s1 h1 ⊢
    refine ⟨_, rfl, W, _, ((1 : Nat) : Int), _, rfl, rfl, SqL.of (s1 _ _ h0), atI_nat rfl, lg, _, rfl, Or.inl (SqL.of (s1 _ _ hg)), fun D2 n2 => ?_⟩
    have s2 := same_upd (o := .lst (gs.map V.str)) n2
    have h2 : Ws (upd H1 D2 (.lst (gs.map V.str))) D2 gs := upd_same
    generalize upd H1 D2 (.lst (gs.map V.str)) = H2 at s2 h2 ⊢
    have s02 := same_trans s1 s2
    exact ⟨D1, D2, ts, gs, rfl, h1.keep s2, so, h2, go, fun q' dx l' g' ts' gs' H' s3 nq _ _ hq pt as pg ag => q q' H' (same_trans s02 s3) (s02.free nq) ⟨⟨dx, l', g', ts', gs', hq, pt.map fun t => t.2, as, pg, ag⟩, so, go⟩⟩
end
end K13
end
section
set_option Elab.async false
set_option linter.all false
set_option maxRecDepth 100000
set_option maxHeartbeats 16000000
namespace K13
open PySem PySem.Spec PyProof.Rows L2
def spTownWorld : Sp := fun vs H Q _ => ∃ (p W ls lg lc ln : Addr) (ts : List (Addr × S5)) (gs cs ns : List Str) (own most n : Int), vs = [.ref p, .ref W, .int own, .int most] ∧ WoP H p W ls lg lc ln ts gs cs ns ∧ Pu H p n ∧ n ≤ 400000 ∧ 0 ≤ own ∧ own ≤ 6 ∧ 0 ≤ most ∧ most ≤ 10 ∧
  ∀ (D : Addr) (us : List (Addr × S5)) (H' : Hp), Pu H' p (n + 500) → But p H H' → H D = none → Sts H' D us → SOk (snds us) → us.length ≤ 10 → (∃ zs : List Str, (zs.length : Int) ≤ own ∧ ∀ s ∈ snds us, s.st ∈ gs ++ zs ∧ s.en ∈ gs ++ zs) → Q (.ref D) H'
abbrev NTw : List Str := ["_law_purse_here", "_law_world_here", "_law_own", "_law_top", "_law_pool", "_law_inner_here", "_law_places_here", "_law_names", "_law_many", "_law_word_here", "_law_name"]
theorem scTownWorld : FnScope NTw ["_law_purse_here", "_law_world_here", "_law_own", "_law_top"] (defScope sTownWorld) := ⟨rfl, rfl, rfl, by decide +kernel, rfl, by decide +kernel, by decide +kernel⟩
theorem walk_strs {K : PySem.W.Frag} {a : Addr} {ws : List Str} : Walk (Itl K a) ws.length (fun H => SqL K H a (ws.map V.str)) (YAt (ws.map V.str)) := by
  have h := walk_list (K := K) (a := a) (xs := ws.map V.str)
  rw [List.length_map] at h
  exact h
theorem take_app_nodup {gs xs : List Str} {k : Nat} (h1 : gs.Nodup) (h2 : xs.Nodup) (hd : ∀ x ∈ xs, x ∉ gs) : (gs ++ xs.take k).Nodup :=
  List.nodup_append.mpr ⟨h1, (List.take_sublist _ _).nodup h2, fun x hx y hy e => by
    subst e
    exact hd x (List.mem_of_mem_take hy) hx⟩
section
variable {P : Program} {w : World} {K : PySem.W.Frag} {mg : Str → Option Value} {base : Heap}
theorem ok_townWorld {f : Addr} {fd : FuncData} (F : FnP K "_law_town_world" sTownWorld f fd) (G : DrawZ P w K mg base) (GWs : Fz P w K mg base "_law_words" 4 ["_law_purse_here", "_law_many"] spWords) (GSh : Fz P w K mg base "_law_shuffled" 3 ["_law_purse_here", "_law_some"] spShuffled)
    (GSt : Fz P w K mg base "_law_streets_of" 5 ["_law_purse_here", "_law_crossings", "_law_names", "_law_pairs_here", "_law_many"] spStreetsOf) (T : Tx K mg) :
    FnOk P w K mg base CX0 6 f fd ["_law_purse_here", "_law_world_here", "_law_own", "_law_top"] spTownWorld := by
  refine F.ok scTownWorld (fun vs H Q E h => ?_) (fun cdv A outer s H vs Q E hr h => ?_)
  · obtain ⟨_, _, _, _, _, _, _, _, _, _, _, _, _, rfl, _⟩ := h
    rfl
  · obtain ⟨p, W, ls, lg, lc, ln, ts, gs, cs, ns, own, most, n, rfl, hW, hp, hn, o0, o6, m0, m10, q⟩ := h
    have gL := T.fr "len" (by decide +kernel)
    have gMi := T.fr "min" (by decide +kernel)
    have gLi := T.fr "list" (by decide +kernel)
    have sl := sizeLine_eq
    have r4 : Room 4 (A.deeper (envOfC "_law_town_world" (defScope sTownWorld) s.heap.objs.size f cdv)) := hr.mono (by decide)
    have r3 : Room 3 (A.deeper (envOfC "_law_town_world" (defScope sTownWorld) s.heap.objs.size f cdv)) := hr.mono (by decide)
    have r2 : Room 2 (A.deeper (envOfC "_law_town_world" (defScope sTownWorld) s.heap.objs.size f cdv)) := hr.mono (by decide)
    refine ⟨_, PSs.nox (pss_cons (ps_set (i := 4) scTownWorld.nd rfl (Or.inr rfl) (pe_op op_cat (pe_ix ix_list (pv 1) pe_int (fun _ _ => rfl))
        (pe_lc (own := [("_law_word_here", 9)]) (g := gName 9) (tt := tTest (tOp (rIn K true) (tVar 9) (tOp (rIxL K) (tVar 1) (tC (.int ((2 : Nat) : Int)))))) rfl scTownWorld.nd (pi_list (pe_fz GWs r4 (by rfl) (pa_cons (pv 0) (pa_cons pe_int pa_nil)))) (blkOk_by (own := [("_law_word_here", 9)]) (N := NTw) (sc := defScope sTownWorld) (by decide +kernel))
          (fun _ _ _ _ _ => pg_name (i := 9) scTownWorld.nd rfl (Or.inl rfl)) (fun _ _ _ _ _ => pts_one (pt_cmpR op_notIn_seq (pv 9) (pe_ix ix_list (pv 1) pe_int (fun _ _ => rfl)) rfl)) (fun _ _ _ _ _ => pv 9))))
      (pss_cons (ps_setLc (i := 5) (own := [("_law_word_here", 9)]) (g := gName 9) (tt := tTest (tOp (rIn K true) (tVar 9) (tOp (rIxL K) (tVar 1) (tC (.int ((1 : Nat) : Int)))))) rfl scTownWorld.nd rfl rfl (sw_true rfl rfl rfl (by decide +kernel)) (pi_list (pe_ix ix_list (pv 1) pe_int (fun _ _ => rfl))) (blkOk_by (own := [("_law_word_here", 9)]) (N := NTw) (sc := defScope sTownWorld) (by decide +kernel))
          (fun _ _ _ _ _ => pg_name (i := 9) scTownWorld.nd rfl (Or.inl rfl)) (fun _ _ _ _ _ => pts_one (pt_cmpR op_notIn_seq (pv 9) (pe_ix ix_list (pv 1) pe_int (fun _ _ => rfl)) rfl)) (fun _ _ _ _ _ => pv 9))
      (pss_cons (ps_set (i := 6) scTownWorld.nd rfl (Or.inl rfl) (pe_op op_cat (pe_callTy call_list_of (by rfl) gLi (by decide +kernel) (pa_cons (pe_ix ix_list (pv 1) pe_int (fun _ _ => rfl)) pa_nil))
          (pe_slice sl_list (pe_op op_cat (pv 5) (pe_slice sl_list (pv 4) (po_some (pe_callB call_len_seq (by rfl) gL PySem.boot_len (pa_cons (pe_ix ix_list (pv 1) pe_int (fun _ _ => rfl)) pa_nil))) po_none)) po_none (po_some (pv 2)))))
      (C8.pss_cut (ps_if (pt_cmpR op_eq (pe_fz G r2 (by rfl) (pa_cons (pv 0) (pa_cons pe_int pa_nil))) pe_int (nomark _)) (pss_one (ps_set (i := 6) scTownWorld.nd rfl (Or.inl rfl) (pe_op op_cat (pe_callTy call_list_of (by rfl) gLi (by decide +kernel) (pa_cons (pe_ix ix_list (pv 1) pe_int (fun _ _ => rfl)) pa_nil))
          (pe_slice sl_list (pe_slice sl_list (pv 4) (po_some (pe_callB call_len_seq (by rfl) gL PySem.boot_len (pa_cons (pe_ix ix_list (pv 1) pe_int (fun _ _ => rfl)) pa_nil))) po_none) po_none (po_some (pv 2)))))) pss_nil)
      (pss_cons (ps_set (i := 7) scTownWorld.nd rfl (Or.inl rfl) (pe_fz GSh r3 (by rfl) (pa_cons (pv 0) (pa_cons (pe_op op_cat (pv 4)
          (pe_lc (own := [("_law_name", 10)]) (g := gName 10) (tt := tTest (tOp (rIn K true) (tVar 10) (tVar 4))) rfl scTownWorld.nd (pi_list (pe_ix ix_list (pv 1) pe_int (fun _ _ => rfl))) (blkOk_by (own := [("_law_name", 10)]) (N := NTw) (sc := defScope sTownWorld) (by decide +kernel))
            (fun _ _ _ _ _ => pg_name (i := 10) scTownWorld.nd rfl (Or.inl rfl)) (fun _ _ _ _ _ => pts_one (pt_cmpR op_notIn_seq (pv 10) (pv 4) rfl)) (fun _ _ _ _ _ => pv 10))) pa_nil))))
      (pss_cons (ps_set (i := 8) scTownWorld.nd rfl (Or.inl rfl) (pe_fz G r2 (by rfl) (pa_cons (pv 0) (pa_cons (pe_op op_add (pv 3) pe_int) pa_nil))))
      (pss_one (ps_ret (pe_fz GSt hr (by rfl) (pa_cons (pv 0) (pa_cons (pv 6) (pa_cons (pv 7) (pa_cons (pe_lst pa_nil) (pa_cons (pe_callB (call_min2 rfl) (by rfl) gMi (by decide +kernel) (pa_cons (pv 8) (pa_cons (pe_callB call_len_seq (by rfl) gL PySem.boot_len (pa_cons (pv 7) pa_nil)) pa_nil))) pa_nil)))))))))))))), ?_⟩
    have c9 := hW.wo.l1
    have n14 := hW.wo.l2
    obtain ⟨gnd, gsub, gne, g5⟩ := hW.wo.gnd
    -- pool
    refine ⟨_, rfl, W, _, ((2 : Nat) : Int), _, rfl, rfl, SqL.of hW.at_, atI_nat rfl, ?_⟩
    refine ⟨_, rfl, p, 8, n, rfl, hp, by omega, by decide, by decide, fun D1 ws H1 wl wnd wwd hp1 b1 fD1 hD1 => ?_⟩
    have hW1 := hW.but b1 hp.lst
    refine ⟨D1, rfl, ⟨_, SqL.of hD1⟩, fun D2 nD2 => ?_⟩
    refine lc_notinE (K := K) (i := 9) (F := lc) (bs := cs) (ws := ws) (walk_strs (K := K) (a := D1) (ws := ws)) nD2 (fun H' s => SqL.of (s _ _ hD1)) hW1.wo.c (by omega) (fun v => rfl) (fun v H' Q' s q' => ⟨_, rfl, W, _, ((2 : Nat) : Int), _, rfl, rfl, SqL.of (s _ _ hW1.at_), atI_nat rfl, q'⟩) (fun v => rfl) fun H2 s2 hD2 => ?_
    have hW2 := hW1.keep s2
    have hp2 := hp1.same s2
    have b2 := b1.trans (Same.but (p := p) s2)
    have w8 : (ws.filter fun x => decide (x ∉ cs)).length ≤ 8 := Nat.le_trans (List.length_filter_le _ _) (by omega)
    have w8nd : (ws.filter fun x => decide (x ∉ cs)).Nodup := List.filter_sublist.nodup wnd
    have w8wd : ∀ x ∈ ws.filter (fun x => decide (x ∉ cs)), Wd x := fun x hx => wwd x (List.mem_filter.mp hx).1
    have w8n : ∀ x ∈ ws.filter (fun x => decide (x ∉ cs)), x ∉ cs := fun x hx => of_decide_eq_true (List.mem_filter.mp hx).2
    have pnd : (cs ++ ws.filter fun x => decide (x ∉ cs)).Nodup := nodup_filter_app hW.wo.cd wnd
    generalize (ws.filter fun x => decide (x ∉ cs)) = vs at hD2 w8 w8nd w8wd w8n pnd
    refine ⟨lc, D2, _, _, rfl, rfl, hW2.wo.c, hD2, by rw [List.length_map, List.length_map]; omega, fun L nL => ?_⟩
    rw [← List.map_append]
    have s3 := same_upd (o := .lst ((cs ++ vs).map V.str)) nL
    have hL : Ws (upd H2 L (.lst ((cs ++ vs).map V.str))) L (cs ++ vs) := upd_same
    have nLp : L ≠ p := fun e => by
      obtain ⟨xs, hx⟩ := hp2.lst
      rw [e, hx] at nL
      cases nL
    generalize upd H2 L (.lst ((cs ++ vs).map V.str)) = H3 at s3 hL ⊢
    have hW3 := hW2.keep s3
    have hp3 := hp2.same s3
    have b3 := b2.trans (Same.but (p := p) s3)
    -- inner
    refine ⟨_, rfl, W, _, ((2 : Nat) : Int), _, rfl, rfl, SqL.of hW3.at_, atI_nat rfl, lc, rfl, ⟨_, SqL.of hW3.wo.c⟩, fun D4 nD4 => ?_⟩
    refine lc_notinE (K := K) (i := 9) (F := lg) (bs := gs) (ws := cs) (walk_strs (K := K) (a := lc) (ws := cs)) nD4 (fun H' s => SqL.of (s _ _ hW3.wo.c)) hW3.wo.g (by omega) (fun v => rfl) (fun v H' Q' s q' => ⟨_, rfl, W, _, ((1 : Nat) : Int), _, rfl, rfl, SqL.of (s _ _ hW3.at_), atI_nat rfl, q'⟩) (fun v => rfl) fun H4 s4 hD4 => ?_
    have inl : (cs.filter fun x => decide (x ∉ gs)).length ≤ 9 := Nat.le_trans (List.length_filter_le _ _) c9
    have ind : (cs.filter fun x => decide (x ∉ gs)).Nodup := List.filter_sublist.nodup hW.wo.cd
    have ins : ∀ x ∈ cs.filter (fun x => decide (x ∉ gs)), x ∈ cs ∧ x ∉ gs := fun x hx => ⟨(List.mem_filter.mp hx).1, of_decide_eq_true (List.mem_filter.mp hx).2⟩
    generalize (cs.filter fun x => decide (x ∉ gs)) = is at hD4 inl ind ins
    have hW4 := hW3.keep s4
    have hL4 := s4 _ _ hL
    obtain ⟨ow, rfl⟩ := Int.eq_ofNat_of_zero_le o0
    have edrop : cutV ((cs ++ vs).map V.str) (some ((cs.map V.str).length : Int)) none = vs.map V.str := by
      rw [cut_drop, List.length_map, ← List.map_drop, List.drop_append_of_le_length (Nat.le_refl _), List.drop_length, List.nil_append]
    -- places
    refine ⟨_, rfl, W, _, ((1 : Nat) : Int), _, rfl, rfl, SqL.of hW4.at_, atI_nat rfl, lg, _, rfl, Or.inl (SqL.of hW4.wo.g), fun A1 nA1 => ?_⟩
    have s5 := same_upd (o := .lst (gs.map V.str)) nA1
    have hA1 : Ws (upd H4 A1 (.lst (gs.map V.str))) A1 gs := upd_same
    generalize upd H4 A1 (.lst (gs.map V.str)) = H5 at s5 hA1 ⊢
    have hW5 := hW4.keep s5
    refine ⟨_, rfl, _, rfl, _, rfl, W, _, ((2 : Nat) : Int), _, rfl, rfl, SqL.of hW5.at_, atI_nat rfl, lc, _, rfl, Or.inl (SqL.of hW5.wo.c), _, rfl, L, _, rfl, SqL.of (s5 _ _ hL4), fun A2 nA2 => ?_⟩
    rw [edrop]
    have s6 := same_upd (o := .lst (vs.map V.str)) nA2
    have hA2 : Ws (upd H5 A2 (.lst (vs.map V.str))) A2 vs := upd_same
    generalize upd H5 A2 (.lst (vs.map V.str)) = H6 at s6 hA2 ⊢
    refine ⟨D4, A2, _, _, rfl, rfl, s6 _ _ (s5 _ _ hD4), hA2, by rw [List.length_map, List.length_map]; omega, fun A3 nA3 => ?_⟩
    rw [← List.map_append]
    have s7 := same_upd (o := .lst ((is ++ vs).map V.str)) nA3
    have hA3 : Ws (upd H6 A3 (.lst ((is ++ vs).map V.str))) A3 (is ++ vs) := upd_same
    generalize upd H6 A3 (.lst ((is ++ vs).map V.str)) = H7 at s7 hA3 ⊢
    refine ⟨_, rfl, _, rfl, A3, _, rfl, SqL.of hA3, fun A4 nA4 => ?_⟩
    rw [cut_take, ← List.map_take]
    have s8 := same_upd (o := .lst (((is ++ vs).take ow).map V.str)) nA4
    have hA4 : Ws (upd H7 A4 (.lst (((is ++ vs).take ow).map V.str))) A4 ((is ++ vs).take ow) := upd_same
    generalize upd H7 A4 (.lst (((is ++ vs).take ow).map V.str)) = H8 at s8 hA4 ⊢
    have s58 := same_trans s6 (same_trans s7 s8)
    refine ⟨A1, A4, _, _, rfl, rfl, s58 _ _ hA1, hA4, ?_, fun A5 nA5 => ?_⟩
    · rw [List.length_map, List.length_map, List.length_take]
      omega
    rw [← List.map_append]
    have s9 := same_upd (o := .lst ((gs ++ (is ++ vs).take ow).map V.str)) nA5
    have hA5 : Ws (upd H8 A5 (.lst ((gs ++ (is ++ vs).take ow).map V.str))) A5 (gs ++ (is ++ vs).take ow) := upd_same
    generalize upd H8 A5 (.lst ((gs ++ (is ++ vs).take ow).map V.str)) = H9 at s9 hA5 ⊢
    have s39 := same_trans s4 (same_trans s5 (same_trans s58 s9))
    have hW9 := hW3.keep s39
    have hp9 := hp3.same s39
    have b9 := b3.trans (Same.but (p := p) s39)
    have hL9 := s39 _ _ hL
    have dis1 : ∀ x ∈ is ++ vs, x ∉ gs := fun x hx => by
      rcases List.mem_append.mp hx with h | h
      · exact (ins x h).2
      · exact fun z => w8n x h (gsub x z)
    have nd1 : (is ++ vs).Nodup := List.nodup_append.mpr ⟨ind, w8nd, fun x hx y hy e => by
      subst e
      exact w8n x hy (ins x hx).1⟩
    have wd1 : ∀ x ∈ is ++ vs, Wd x := fun x hx => by
      rcases List.mem_append.mp hx with h | h
      · exact hW.wo.cw x (ins x h).1
      · exact w8wd x h
    have wdg : ∀ {xs : List Str}, (∀ x ∈ xs, Wd x) → ∀ x ∈ gs ++ xs.take ow, Wd x := fun {xs} h x hx => by
      rcases List.mem_append.mp hx with h2 | h2
      · exact hW.wo.cw x (gsub x h2)
      · exact h x (List.mem_of_mem_take h2)
    have nA5p : A5 ≠ p := fun e => by
      obtain ⟨xs, hx⟩ := hp3.lst
      have := (same_trans s4 (same_trans s5 s58)) _ _ hx
      rw [← e, nA5] at this
      cases this
    refine ⟨fun σ' H' => ∃ (LP : Addr) (pl : List Str) (o7 o8 o9 o10 : Option V), σ' = [some (.ref p), some (.ref W), some (.int (ow : Int)), some (.int most), some (.ref L), some (.ref D4), some (.ref LP), o7, o8, o9, o10] ∧ Ws H' LP pl ∧ LP ≠ p ∧ pl.Nodup ∧ (∀ x ∈ pl, Wd x) ∧ pl.length ≤ 30 ∧ (∃ zs, pl = gs ++ zs ∧ zs.length ≤ ow) ∧ WoP H' p W ls lg lc ln ts gs cs ns ∧ Pu H' p (n + 101) ∧ But p H H' ∧ Ws H' L (cs ++ vs), ?_, ?_⟩
    · obtain ⟨xs, hpx, hpu⟩ := hp9
      refine ⟨_, rfl, p, 2, _, xs, rfl, hpx, hpu, by omega, by decide, by decide, fun r ys r0 r1 hy => ⟨rfl, _, rfl, ?_⟩⟩
      have b10 := b9.trans (but_self (p := p) (H := H9) (o := .lst ys))
      have hW10 := hW9.but (but_self (p := p) (H := H9) (o := .lst ys)) ⟨xs, hpx⟩
      have hp10 : Pu (upd H9 p (.lst ys)) p (n + 101) := ⟨ys, upd_same, hy.mono (by omega)⟩
      have hL10 : Ws (upd H9 p (.lst ys)) L (cs ++ vs) := by
        show upd H9 p (.lst ys) L = _
        rw [upd_ne nLp]
        exact hL9
      have hA10 : Ws (upd H9 p (.lst ys)) A5 (gs ++ (is ++ vs).take ow) := by
        show upd H9 p (.lst ys) A5 = _
        rw [upd_ne nA5p]
        exact hA5
      generalize upd H9 p (.lst ys) = G0 at b10 hW10 hp10 hL10 hA10 ⊢
      refine ite2 (fun _ => ?_) (fun _ => ?_)
      · refine ⟨_, rfl, W, _, ((1 : Nat) : Int), _, rfl, rfl, SqL.of hW10.at_, atI_nat rfl, lg, _, rfl, Or.inl (SqL.of hW10.wo.g), fun B1 nB1 => ?_⟩
        have t1 := same_upd (o := .lst (gs.map V.str)) nB1
        have hB1 : Ws (upd G0 B1 (.lst (gs.map V.str))) B1 gs := upd_same
        generalize upd G0 B1 (.lst (gs.map V.str)) = G1 at t1 hB1 ⊢
        have hW11 := hW10.keep t1
        refine ⟨_, rfl, _, rfl, W, _, ((2 : Nat) : Int), _, rfl, rfl, SqL.of hW11.at_, atI_nat rfl, lc, _, rfl, Or.inl (SqL.of hW11.wo.c), _, rfl, L, _, rfl, SqL.of (t1 _ _ hL10), fun B2 nB2 => ?_⟩
        rw [edrop]
        have t2 := same_upd (o := .lst (vs.map V.str)) nB2
        have hB2 : Ws (upd G1 B2 (.lst (vs.map V.str))) B2 vs := upd_same
        generalize upd G1 B2 (.lst (vs.map V.str)) = G2 at t2 hB2 ⊢
        refine ⟨_, rfl, _, rfl, B2, _, rfl, SqL.of hB2, fun B3 nB3 => ?_⟩
        rw [cut_take, ← List.map_take]
        have t3 := same_upd (o := .lst ((vs.take ow).map V.str)) nB3
        have hB3 : Ws (upd G2 B3 (.lst ((vs.take ow).map V.str))) B3 (vs.take ow) := upd_same
        generalize upd G2 B3 (.lst ((vs.take ow).map V.str)) = G3 at t3 hB3 ⊢
        refine ⟨B1, B3, _, _, rfl, rfl, t3 _ _ (t2 _ _ hB1), hB3, ?_, fun B4 nB4 => ?_⟩
        · rw [List.length_map, List.length_map, List.length_take]
          omega
        rw [← List.map_append]
        have t4 := same_upd (o := .lst ((gs ++ vs.take ow).map V.str)) nB4
        have t14 := same_trans t1 (same_trans t2 (same_trans t3 t4))
        have nBp : B4 ≠ p := fun e => by
          obtain ⟨xs, hx⟩ := hp10.lst
          have := (same_trans t1 (same_trans t2 t3)) _ _ hx
          rw [← e, nB4] at this
          cases this
        refine ⟨B4, gs ++ vs.take ow, _, _, _, _, rfl, upd_same, nBp, take_app_nodup gnd w8nd fun x hx z => w8n x hx (gsub x z), wdg w8wd, ?_, ⟨_, rfl, by rw [List.length_take]; omega⟩, hW10.keep t14, hp10.same t14, b10.trans (Same.but (p := p) t14), t14 _ _ hL10⟩
        rw [List.length_append, List.length_take]
        omega
      · refine ⟨A5, _, _, _, _, _, rfl, hA10, nA5p, take_app_nodup gnd nd1 dis1, wdg wd1, ?_, ⟨_, rfl, by rw [List.length_take]; omega⟩, hW10, hp10, b10, hL10⟩
        rw [List.length_append, List.length_take]
        omega
    · rintro σ' G0 ⟨LP, pl, o7, o8, o9, o10, rfl, hLP, nLPp, pnd2, pwd, pl30, ⟨zz, ezz, lzz⟩, hW10, hp10, b10, hL10⟩
      -- names
      refine ⟨_, rfl, _, rfl, _, rfl, W, _, ((3 : Nat) : Int), _, rfl, rfl, SqL.of hW10.at_, atI_nat rfl, ln, rfl, ⟨_, SqL.of hW10.wo.n⟩, fun D5 nD5 => ?_⟩
      refine lc_notin (K := K) (i := 10) (f := 4) (F := L) (bs := cs ++ vs) (ws := ns) (walk_strs (K := K) (a := ln) (ws := ns)) nD5 (fun H' s => SqL.of (s _ _ hW10.wo.n)) hL10 (by omega) (fun v => rfl) (fun v => rfl) (fun v => rfl) fun G1 t1 hD5 => ?_
      have nnd : (cs ++ vs ++ ns.filter fun x => decide (x ∉ cs ++ vs)).Nodup := nodup_filter_app pnd hW.wo.nn
      have nwd : ∀ x ∈ cs ++ vs ++ ns.filter (fun x => decide (x ∉ cs ++ vs)), Wd x := fun x hx => by
        rcases List.mem_append.mp hx with h | h
        · rcases List.mem_append.mp h with h | h
          · exact hW.wo.cw x h
          · exact w8wd x h
        · exact hW.wo.nw x (List.mem_filter.mp h).1
      have nfl : (ns.filter fun x => decide (x ∉ cs ++ vs)).length ≤ 14 := Nat.le_trans (List.length_filter_le _ _) n14
      generalize (ns.filter fun x => decide (x ∉ cs ++ vs)) = xs at hD5 nnd nwd nfl
      refine ⟨L, D5, _, _, rfl, rfl, t1 _ _ hL10, hD5, by rw [List.length_map, List.length_map, List.length_append]; omega, fun L2 nL2 => ?_⟩
      rw [← List.map_append]
      have t2 := same_upd (o := .lst ((cs ++ vs ++ xs).map V.str)) nL2
      have hL2 : Ws (upd G1 L2 (.lst ((cs ++ vs ++ xs).map V.str))) L2 (cs ++ vs ++ xs) := upd_same
      have nL2p : L2 ≠ p := fun e => by
        obtain ⟨zs, hx⟩ := hp10.lst
        have := t1 _ _ hx
        rw [← e, nL2] at this
        cases this
      generalize upd G1 L2 (.lst ((cs ++ vs ++ xs).map V.str)) = G2 at t2 hL2 ⊢
      have t12 := same_trans t1 t2
      refine ⟨p, L2, _, _, rfl, hp10.same t12, by omega, hL2, nL2p, by rw [List.length_map, List.length_append, List.length_append]; omega, fun D6 us G3 pu hp12 b12 nD6 hD6 => ?_⟩
      obtain ⟨nm, pnm, rfl⟩ := perm_map_inv pu (cs ++ vs ++ xs) rfl
      have l31 : (cs ++ vs ++ xs).length ≤ 31 := by
        rw [List.length_append, List.length_append]
        omega
      rw [List.length_map] at hp12
      have nml := pnm.length_eq
      have nmnd := pnm.nodup_iff.mpr nnd
      have nmwd : ∀ x ∈ nm, Wd x := fun x hx => nwd x (pnm.mem_iff.mp hx)
      have b13 := b10.trans ((Same.but (p := p) t12).trans b12)
      have hLP3 : Ws G3 LP pl := b12 _ _ nLPp (t12 _ _ hLP)
      have nD6p : D6 ≠ p := fun e => by
        obtain ⟨zs, hx⟩ := hp10.lst
        have := t12 _ _ hx
        rw [← e, nD6] at this
        cases this
      -- many
      obtain ⟨ps, hpx, hpu⟩ := hp12
      refine ⟨_, rfl, _, rfl, _, _, rfl, rfl, p, _, _, ps, rfl, hpx, hpu, by omega, by omega, by omega, fun r ys r0 r1 hy => ?_⟩
      have b14 := b13.trans (but_self (p := p) (H := G3) (o := .lst ys))
      have hp14 : upd G3 p (.lst ys) p = some (.lst ys) := upd_same
      have hLP4 : Ws (upd G3 p (.lst ys)) LP pl := by
        show upd G3 p (.lst ys) LP = _
        rw [upd_ne nLPp]
        exact hLP3
      have hD7 : Ws (upd G3 p (.lst ys)) D6 nm := by
        show upd G3 p (.lst ys) D6 = _
        rw [upd_ne nD6p]
        exact hD6
      generalize upd G3 p (.lst ys) = G4 at b14 hp14 hLP4 hD7 ⊢
      refine ⟨_, rfl, _, rfl, _, rfl, Nat.zero_le _, fun E nE => ?_⟩
      have t5 := same_upd (o := .lst []) nE
      have hE : upd G4 E (.lst []) E = some (.lst []) := upd_same
      have nEp : E ≠ p := fun e => by
        rw [e, hp14] at nE
        cases nE
      generalize upd G4 E (.lst []) = G5 at t5 hE ⊢
      refine ⟨_, rfl, _, rfl, D6, _, rfl, Or.inl (SqL.of (t5 _ _ hD7)), _, _, rfl, ?_⟩
      have hk : ∃ k : Int, (if (((nm.map V.str).length : Nat) : Int) < r then (((nm.map V.str).length : Nat) : Int) else r) = k ∧ 0 ≤ k ∧ k ≤ (nm.length : Int) ∧ k ≤ 10 := by
        refine ⟨_, rfl, ?_⟩
        rw [List.length_map]
        split <;> omega
      obtain ⟨k, ek, k0, k1, k2⟩ := hk
      rw [ek]
      refine ⟨p, LP, D6, E, pl, nm, [], _, k, rfl, ⟨t5 _ _ hLP4, t5 _ _ hD7, ⟨hE, fun a ha => by simp at ha⟩, nLPp, nD6p, nEp, ⟨_, t5 _ _ hp14⟩, pnd2, pwd, nmwd, by omega, by simp⟩, ⟨ys, t5 _ _ hp14, hy⟩, by omega, k0, k1, by omega, fun R rs G6 hp15 b15 fR hR okR nmR lR _ => ?_⟩
      have b16 := b14.trans ((Same.but (p := p) t5).trans b15)
      have nRp : R ≠ p := fun e => by
        rw [e, t5 _ _ hp14] at fR
        cases fR
      refine q R rs G6 (hp15.mono (by omega)) b16 (b14.free (t5.free fR) nRp) hR ⟨fun s hs => ?_, ?_, by rw [List.length_map]; omega⟩ (by omega) ⟨zz, by omega, fun s hs => ?_⟩
      · obtain ⟨t, ht, rfl⟩ := List.mem_map.mp hs
        exact (okR t ht).1
      · rw [← nms_snds, nmR]
        exact (List.take_sublist _ _).nodup nmnd
      · obtain ⟨t, ht, rfl⟩ := List.mem_map.mp hs
        rw [← ezz]
        exact ⟨(okR t ht).2.1, (okR t ht).2.2.1⟩
end
end K13
end
section
set_option Elab.async false
set_option linter.all false
set_option maxRecDepth 100000
set_option maxHeartbeats 16000000
namespace K13
open PySem PySem.Spec PyProof.Rows L2
/-- a def called by names alone, the keywords in the parameters' order turned about -/
def FzK (P : Program) (w : World) (K : PySem.W.Frag) (mg : Str → Option Value) (base : Heap) (x : Str) (k : Nat) (ps ks : List Str) (sp : Sp) : Prop :=
  ∃ (g : Addr) (fd : FuncData), FnOk P w K mg base CX0 k g fd ps sp ∧ mg x = some (.ref g) ∧ PySem.W.keepIn K (.ref g) = true ∧ KBn K fd ps 0 ks (fun us ws => us ++ ws.reverse) (fun vs zs => vs ++ zs.reverse)
def tFzK (n : Nat) (sp : Sp) (tk : TA) : TE := fun σ H Q => tk σ H fun zs H2 => zs.length = n ∧ sp zs.reverse H2 Q E0
theorem pe_fzK {X : Cx} {k : Nat} {x : Str} {ps ks : List Str} {sp : Sp} {p pos : Pos} {kws : List Keyword} {tk : TA} (Z : FzK X.prog X.w X.K X.mg X.base x k ps ks sp) (hr : Room k X.A) (hg : Gl X x) (hkw : PK X kws tk)
    (hall : (backToKw pos (keywordEach kws X.env)).all (·.1.isSome) = true := by rfl) (hks : (backToKw pos (keywordEach kws X.env)).filterMap (·.1) = ks := by rfl) (hdb : (x == ("__debug__" : Str)) = false := by decide)
    (hpl : ((backTo pos (starEach [] X.env)).any (·.1) || (backToKw pos (keywordEach kws X.env)).any (·.1.isNone)) = false := by rfl) : PE X (.Call (.Name x p) [] kws pos) (tFzK ks.length sp tk) := by
  obtain ⟨g, fd, F, hm, hk, hb⟩ := Z
  refine ⟨fun pins s σ H Q I h => ?_⟩
  refine wpAny_Call_Name_kw (ld_glob I hg hm ?_ hdb)
  refine PySem.W.callWith_KW0 (h₀ := X.base) I.ok.mod.kin hk hall ?_ hpl
  refine thn (hkw.run pos pins s σ H _ I h) fun ws s2 ⟨zs, H2, I2, rz, l2, q2⟩ => ⟨I2.kIn, ?_⟩
  rw [hks]
  exact run_fnN (n := 0) (us := []) (vs := []) F hr hb pass0 I2 .nil rz rfl l2 q2
/-! ### heaps less one place -/
def del (H : Hp) (D : Addr) : Hp := fun a => if a = D then none else H a
theorem del_of {H : Hp} {D a : Addr} {o : HO} (h : H a = some o) (ne : a ≠ D) : del H D a = some o := by
  unfold del
  rw [if_neg ne]
  exact h
theorem del_same {H : Hp} {D : Addr} : Same (del H D) H := fun a o e => by
  unfold del at e
  split at e
  · cases e
  · exact e
theorem del_keep {H H' : Hp} {D : Addr} (s : Same H H') : Same (del H D) (del H' D) := fun a o e => by
  unfold del at e ⊢
  split at e
  · cases e
  · rename_i ne
    rw [if_neg ne]
    exact s _ _ e
theorem del_upd {H : Hp} {D : Addr} {o : HO} : Same (del H D) (del (upd H D o) D) := fun a u e => by
  unfold del at e ⊢
  split at e
  · cases e
  · rename_i ne
    rw [if_neg ne, upd_ne ne]
    exact e
theorem del_new {H : Hp} {D : Addr} {o : HO} (n : H D = none) : Same H (del (upd H D o) D) := fun a u e => by
  have ne := ne_of_none e n
  unfold del
  rw [if_neg ne, upd_ne ne]
  exact e
theorem del_put {H : Hp} {D : Addr} {o : HO} : Same (del H D) (upd H D o) := fun a u e => by
  unfold del at e
  split at e
  · cases e
  · rename_i ne
    rw [upd_ne ne]
    exact e
/-! ### the purse is no part of a quarter -/
theorem pu_ne_sts {H : Hp} {p l : Addr} {n : Int} {ts : List (Addr × S5)} (hp : Pu H p n) (h : H l = some (.lst (ts.map fun t => V.ref t.1))) : l ≠ p := fun e => by
  obtain ⟨xs, hx, a, b, c, d, ex, _⟩ := hp
  rw [e, hx, ex] at h
  cases ts with
  | nil => cases h
  | cons t ts => cases h
theorem pu_ne_ws {H : Hp} {p l : Addr} {n : Int} {ws : List Str} (hp : Pu H p n) (h : Ws H l ws) : l ≠ p := fun e => by
  obtain ⟨xs, hx, a, b, c, d, ex, _⟩ := hp
  have h : H l = some (.lst (ws.map V.str)) := h
  rw [e, hx, ex] at h
  cases ws with
  | nil => cases h
  | cons t ts => cases h
theorem IsQ.but {H H' : Hp} {CQ q p : Addr} {ss : List S5} {gs : List Str} {n : Int} (h : IsQ H CQ q ss gs) (hp : Pu H p n) (b : But p H H') : IsQ H' CQ q ss gs := by
  obtain ⟨⟨dx, l, g, ts, hs, ⟨h1, h2, h3⟩, r⟩, so, go⟩ := h
  refine ⟨⟨dx, l, g, ts, hs, ⟨b _ _ (fun e => ?_) h1, h2.but b (pu_ne_sts hp h2.1) hp.lst, b _ _ (pu_ne_ws hp h3) h3⟩, r⟩, so, go⟩
  obtain ⟨xs, hx⟩ := hp.lst
  rw [e, hx] at h1
  cases h1
theorem IsT.but {H H' : Hp} {CQ q p : Addr} {ss : List S5} {n : Int} (h : IsT H CQ q ss) (hp : Pu H p n) (b : But p H H') : IsT H' CQ q ss := by
  obtain ⟨⟨dx, l, ts, ⟨h1, h2⟩, r⟩, so⟩ := h
  refine ⟨⟨dx, l, ts, ⟨b _ _ (fun e => ?_) h1, h2.but b (pu_ne_sts hp h2.1) hp.lst⟩, r⟩, so⟩
  obtain ⟨xs, hx⟩ := hp.lst
  rw [e, hx] at h1
  cases h1
/-- things that are all unlike a -/
def Os (H : Hp) (CQ CT : Addr) (a : OD) (xs : List V) : Prop := ∀ o ∈ xs, ∃ b, Ob H CQ CT o b ∧ ¬ Oeq a b ∧ ¬ Oeq b a
theorem Os.keep {H H' : Hp} {CQ CT : Addr} {a : OD} {xs : List V} (h : Os H CQ CT a xs) (s : Same H H') : Os H' CQ CT a xs := fun o ho => let ⟨b, h1, h2⟩ := h o ho; ⟨b, h1.keep s, h2⟩
theorem Os.app {H : Hp} {CQ CT : Addr} {a : OD} {xs ys : List V} (h : Os H CQ CT a xs) (h2 : Os H CQ CT a ys) : Os H CQ CT a (xs ++ ys) := fun o ho => by
  rcases List.mem_append.mp ho with ho | ho
  · exact h o ho
  · exact h2 o ho
theorem Os.nil {H : Hp} {CQ CT : Addr} {a : OD} : Os H CQ CT a [] := fun o ho => by simp at ho
theorem Os.one {H : Hp} {CQ CT : Addr} {a b : OD} {x : V} (h : Ob H CQ CT x b) (n1 : ¬ Oeq a b) (n2 : ¬ Oeq b a) : Os H CQ CT a [x] := fun o ho => by
  rw [List.mem_singleton.mp ho]
  exact ⟨b, h, n1, n2⟩
/-- the new quarter -/
theorem isQ_of {H : Hp} {CQ q dx l g : Addr} {ts ts' : List (Addr × S5)} {gs gs' : List Str} (h : QuP H CQ q dx l g ts' gs') (so : SOk (snds ts)) (go : GOk gs) (pt : ts'.Perm ts) (as : Asc5 (snds ts')) (pg : gs'.Perm gs) (ag : Asc gs') : IsQ H CQ q (snds ts) gs :=
  ⟨⟨dx, l, g, ts', gs', h, pt.map fun t => t.2, as, pg, ag⟩, so, go⟩
theorem isT_of {H : Hp} {CQ q dx l : Addr} {ts ts' : List (Addr × S5)} (h : TwP H CQ q dx l ts') (so : SOk (snds ts)) (pt : ts'.Perm ts) (as : Asc5 (snds ts')) : IsT H CQ q (snds ts) :=
  ⟨⟨dx, l, ts', h, pt.map fun t => t.2, as⟩, so⟩
/-- a quarter stays where a place is out that isn't one of it -/
theorem QuP.del {H : Hp} {CQ q dx l g D : Addr} {ts : List (Addr × S5)} {gs : List Str} (h : QuP H CQ q dx l g ts gs) (hD : ∃ xs, H D = some (.lst xs)) (nl : l ≠ D) (ng : g ≠ D) : QuP (del H D) CQ q dx l g ts gs := by
  obtain ⟨xs, hD⟩ := hD
  obtain ⟨h1, h2, h3⟩ := h
  refine ⟨del_of h1 fun e => ?_, ⟨del_of h2.1 nl, fun t ht => del_of (h2.2 t ht) fun e => ?_⟩, del_of h3 ng⟩
  · rw [e, hD] at h1
    cases h1
  · have e1 := h2.2 t ht
    rw [e, hD] at e1
    cases e1
theorem TwP.del {H : Hp} {CQ q dx l D : Addr} {ts : List (Addr × S5)} (h : TwP H CQ q dx l ts) (hD : ∃ xs, H D = some (.lst xs)) (nl : l ≠ D) : TwP (del H D) CQ q dx l ts := by
  obtain ⟨xs, hD⟩ := hD
  obtain ⟨h1, h2⟩ := h
  refine ⟨del_of h1 fun e => ?_, ⟨del_of h2.1 nl, fun t ht => del_of (h2.2 t ht) fun e => ?_⟩⟩
  · rw [e, hD] at h1
    cases h1
  · have e1 := h2.2 t ht
    rw [e, hD] at e1
    cases e1
end K13
end
section
set_option Elab.async false
set_option linter.all false
set_option maxRecDepth 100000
set_option maxHeartbeats 4000000
namespace K13
open PySem PySem.Spec PyProof.Rows L2
/-! ### nets as data -/
abbrev P2 := Str × Str
def PaAt (H : Hp) (a : Addr) (x : P2) : Prop := H a = some (.tup [.str x.1, .str x.2])
structure NR where
  key : P2
  st : P2
  en : P2
  wd : Int
  ln : Int
def NAt (H : Hp) (r : Addr) (x : NR) : Prop := ∃ ak as ae, H r = some (.tup [.ref ak, .ref as, .ref ae, .int x.wd, .int x.ln]) ∧ PaAt H ak x.key ∧ PaAt H as x.st ∧ PaAt H ae x.en
structure NL (H : Hp) (l : Addr) (rs : List (Addr × NR)) : Prop where
  at_ : H l = some (.lst (rs.map fun t => V.ref t.1))
  each : ∀ t ∈ rs, NAt H t.1 t.2
abbrev nrs (rs : List (Addr × NR)) : List NR := rs.map fun t => t.2
section
variable {H H' : Hp}
theorem NAt.keep {r : Addr} {x : NR} (h : NAt H r x) (s : Same H H') : NAt H' r x := by
  obtain ⟨ak, as, ae, h1, h2, h3, h4⟩ := h
  exact ⟨ak, as, ae, s _ _ h1, s _ _ h2, s _ _ h3, s _ _ h4⟩
theorem NL.keep {l : Addr} {rs : List (Addr × NR)} (h : NL H l rs) (s : Same H H') : NL H' l rs := ⟨s _ _ h.at_, fun t ht => (h.each t ht).keep s⟩
theorem PaAt.keep {a : Addr} {x : P2} (h : PaAt H a x) (s : Same H H') : PaAt H' a x := s _ _ h
theorem del_but {D : Addr} (b : ∀ c o, c ≠ D → H c = some o → H' c = some o) : Same (del H D) (del H' D) := fun c o e => by
  unfold del at e ⊢
  split at e
  · cases e
  · rename_i n
    rw [if_neg n]
    exact b _ _ n e
end
/-- a place of one side -/
def place (side : Str) (gs : List Str) (x : Str) : P2 := if x ∈ gs then ("gate", x) else (side, x)
def netRow (side : Str) (gs : List Str) (s : S5) : NR := ⟨(side, s.nm), place side gs s.st, place side gs s.en, s.wd, s.ln⟩
def netOf (gs : List Str) (ss us : List S5) : List NR := ss.map (netRow "quarter" gs) ++ us.map (netRow "town" gs)
section
variable {P : Program} {w : World} {K : PySem.W.Frag} {mg : Str → Option Value} {base : Heap}
/-! ### _place -/
def spPl : Sp := fun vs H Q _ => ∃ (side x : Str) (g : Addr) (gs : List Str), vs = [.str side, .str x, .ref g] ∧ Ws H g gs ∧ ∀ a H', Same H H' → H a = none → PaAt H' a (place side gs x) → Q (.ref a) H'
theorem scPl : FnScope ["side", "word", "gates"] ["side", "word", "gates"] (defScope sPlace_) := ⟨rfl, rfl, rfl, by decide +kernel, rfl, by decide +kernel, by decide +kernel⟩
theorem ok_pl {f : Addr} {fd : FuncData} (F : FnP K "_place" sPlace_ f fd) : FnOk P w K mg base CX0 1 f fd ["side", "word", "gates"] spPl := by
  refine F.ok scPl (fun vs H Q E h => ?_) (fun cdv A outer s H vs Q E hr h => ?_)
  · obtain ⟨_, _, _, _, rfl, _⟩ := h
    rfl
  · obtain ⟨side, x, g, gs, rfl, hg, q⟩ := h
    have sl := sizeLine_eq
    have two : 2 ≤ sizeLine := by omega
    refine ⟨_, PSs.nox (pss_one (ps_ret (pe_ifExp (pt_cmpR op_in_seq (pv 1) (pv 2) rfl) (pe_tup (pa_cons pe_str (pa_cons (pv 1) pa_nil))) (pe_tup (pa_cons (pv 0) (pa_cons (pv 1) pa_nil)))))), ?_⟩
    refine ⟨_, rfl, _, rfl, g, gs.map V.str, rfl, Or.inl (SqL.of hg), rfl, flat_strs gs, _, rfl, ?_⟩
    rw [inV_str]
    by_cases hx : x ∈ gs
    · refine ifT (decide_eq_true hx) ⟨_, rfl, two, fun a na => ?_⟩
      exact q a _ (same_upd na) na (by show upd _ _ _ _ = _; rw [upd_same]; unfold place; rw [if_pos hx])
    · refine ifF (by rw [decide_eq_false hx]; decide) ⟨_, rfl, _, rfl, two, fun a na => ?_⟩
      exact q a _ (same_upd na) na (by show upd _ _ _ _ = _; rw [upd_same]; unfold place; rw [if_neg hx])
/-! ### _side_streets -/
def spSide : Sp := fun vs H Q _ => ∃ (side : Str) (l g : Addr) (ts : List (Addr × S5)) (gs : List Str), vs = [.str side, .ref l, .ref g] ∧ Sts H l ts ∧ ts.length ≤ 60 ∧ Ws H g gs ∧
  ∀ (D : Addr) (rs : List (Addr × NR)) H', Same H H' → H D = none → NL H' D rs → nrs rs = (snds ts).map (netRow side gs) → Q (.ref D) H'
abbrev NSd : List Str := ["side", "streets", "gates", "name", "start", "end", "width", "length"]
theorem scSd : FnScope NSd ["side", "streets", "gates"] (defScope sSide) := ⟨rfl, rfl, rfl, by decide +kernel, rfl, by decide +kernel, by decide +kernel⟩
theorem ok_side {f : Addr} {fd : FuncData} (F : FnP K "_side_streets" sSide f fd) (GP : Fz P w K mg base "_place" 1 ["side", "word", "gates"] spPl) : FnOk P w K mg base CX0 2 f fd ["side", "streets", "gates"] spSide := by
  refine F.ok scSd (fun vs H Q E h => ?_) (fun cdv A outer s H vs Q E hr h => ?_)
  · obtain ⟨_, _, _, _, _, rfl, _⟩ := h
    rfl
  · obtain ⟨side, l, g, ts, gs, rfl, hl, l60, hg, q⟩ := h
    have sl := sizeLine_eq
    have two : 2 ≤ sizeLine := by omega
    have five : 5 ≤ sizeLine := by omega
    refine ⟨_, PSs.nox (pss_one (ps_ret (pe_lc (own := [("name", 3), ("start", 4), ("end", 5), ("width", 6), ("length", 7)]) (g := gTup K 5 (gCons (gName 3) (gCons (gName 4) (gCons (gName 5) (gCons (gName 6) (gCons (gName 7) gNil)))))) (tt := tYes)
      (te := tTup (tCons (tTup (tCons (tVar 0) (tCons (tVar 3) tNil))) (tCons (tCall spPl [] E0 (tCons (tVar 0) (tCons (tVar 4) (tCons (tVar 2) tNil)))) (tCons (tCall spPl [] E0 (tCons (tVar 0) (tCons (tVar 5) (tCons (tVar 2) tNil)))) (tCons (tVar 6) (tCons (tVar 7) tNil))))))
      rfl scSd.nd (pi_list (pv 1)) (blkOk_by (own := [("name", 3), ("start", 4), ("end", 5), ("width", 6), ("length", 7)]) (N := NSd) (sc := defScope sSide) (by decide +kernel))
      (fun _ _ _ _ _ => pg_tup rfl (pgs_cons (pg_name (i := 3) scSd.nd rfl (Or.inl rfl)) (pgs_cons (pg_name (i := 4) scSd.nd rfl (Or.inl rfl)) (pgs_cons (pg_name (i := 5) scSd.nd rfl (Or.inl rfl)) (pgs_cons (pg_name (i := 6) scSd.nd rfl (Or.inl rfl)) (pgs_cons (pg_name (i := 7) scSd.nd rfl (Or.inl rfl)) pgs_nil)))))) (fun _ _ _ _ _ => pts_nil)
      (fun _ _ _ _ _ => pe_tup (pa_cons (pe_tup (pa_cons (pv 0) (pa_cons (pv 3) pa_nil))) (pa_cons (pe_fz GP hr (by rfl) (pa_cons (pv 0) (pa_cons (pv 4) (pa_cons (pv 2) pa_nil)))) (pa_cons (pe_fz GP hr (by rfl) (pa_cons (pv 0) (pa_cons (pv 5) (pa_cons (pv 2) pa_nil)))) (pa_cons (pv 6) (pa_cons (pv 7) pa_nil))))))))), ?_⟩
    refine ⟨_, rfl, l, rfl, ⟨_, SqL.of hl.1⟩, fun D nD => ?_⟩
    refine H3.lc_gen (us := ts) (vf := fun t => V.ref t.1) (p := fun _ => true) (R := fun t y H' => ∃ a, y = .ref a ∧ NAt (del H' D) a (netRow side gs t.2)) nD hl.1 (by omega) (fun u y H H' ⟨a, h1, h2⟩ k => ⟨a, h1, h2.keep (del_but k)⟩) (fun t ht H1 s1 hD N N0 n1 _ => ?_) (fun H1 zs s1 hD e hR => ?_)
    · have ht1 := s1 _ _ (hl.2 t ht)
      obtain ⟨acc, hD⟩ := hD
      have hg1 : Ws H1 g gs := s1 _ _ hg
      have nx : ∀ {H' : Hp} {a : Addr}, Same H1 H' → H' a = none → a ≠ D := fun s n => (ne_of_none (s _ _ hD) n).symm
      refine ⟨t.1, _, rfl, SqT.of ht1, rfl, _, _, rfl, _, _, rfl, _, _, rfl, _, _, rfl, _, _, rfl, rfl, by simp [wipe, L2.start], ?_⟩
      refine ⟨_, rfl, _, rfl, two, fun a1 m1 => ?_⟩
      have k1 := same_upd (o := .tup [V.str side, V.str t.2.nm]) m1
      have g1 : PaAt (upd H1 a1 (.tup [V.str side, V.str t.2.nm])) a1 (side, t.2.nm) := upd_same
      have d1 := nx (.refl _) m1
      generalize upd H1 a1 (.tup [V.str side, V.str t.2.nm]) = H2 at k1 g1 ⊢
      refine ⟨_, rfl, _, rfl, _, rfl, side, t.2.st, g, gs, rfl, k1 _ _ hg1, fun a2 H3 k2 m2 g2 => ?_⟩
      have k12 := same_trans k1 k2
      have d2 := nx k1 m2
      refine ⟨_, rfl, _, rfl, _, rfl, side, t.2.en, g, gs, rfl, k12 _ _ hg1, fun a3 H4 k3 m3 g3 => ?_⟩
      have k13 := same_trans k12 k3
      have d3 := nx k12 m3
      refine ⟨_, rfl, _, rfl, five, fun r nr => ?_⟩
      have k4 := same_upd (o := .tup [V.ref a1, V.ref a2, V.ref a3, V.int t.2.wd, V.int t.2.ln]) nr
      have d4 := nx k13 nr
      refine n1 rfl _ _ (same_trans k13 k4) ⟨r, rfl, a1, a2, a3, del_of upd_same d4, del_of (k4 _ _ (k3 _ _ (k2 _ _ g1))) d1, del_of (k4 _ _ (k3 _ _ g2)) d2, del_of (k4 _ _ g3) d3⟩
    · have e1 : (zs.map fun z => z.1) = ts := by rw [e, List.filter_eq_self.mpr (fun _ _ => rfl)]
      obtain ⟨rs, h1, h2, h3⟩ : ∃ rs : List (Addr × NR), (zs.map fun z => z.2) = rs.map (fun t => V.ref t.1) ∧ nrs rs = (snds (zs.map fun z => z.1)).map (netRow side gs) ∧ ∀ t ∈ rs, NAt (del H1 D) t.1 t.2 := by
        clear hD e e1
        induction zs with
        | nil => exact ⟨[], rfl, rfl, fun t ht => by simp at ht⟩
        | cons z zs ih =>
          obtain ⟨rs, h1, h2, h3⟩ := ih fun z hz => hR z (List.mem_cons_of_mem _ hz)
          obtain ⟨a, e, h⟩ := hR z List.mem_cons_self
          refine ⟨(a, netRow side gs z.1.2) :: rs, by rw [List.map_cons, List.map_cons, h1, e], by rw [nrs, List.map_cons, List.map_cons, snds, List.map_cons, List.map_cons]; exact congrArg _ h2, fun t ht => ?_⟩
          rcases List.mem_cons.mp ht with rfl | ht
          · exact h
          · exact h3 t ht
      rw [e1] at h2
      exact q D rs H1 s1 nD ⟨by rw [hD, h1], fun t ht => (h3 t ht).keep del_same⟩ h2
/-! ### streets_of_net -/
def spNetS (CQ CT : Addr) : Sp := fun vs H Q _ => ∃ (q dx l g p dp lp : Addr) (ts us : List (Addr × S5)) (gs : List Str), vs = [.ref q, .ref p] ∧ QuP H CQ q dx l g ts gs ∧ ts.length ≤ 60 ∧ TwP H CT p dp lp us ∧ us.length ≤ 60 ∧
  ∀ (D : Addr) (rs : List (Addr × NR)) H', Same H H' → H D = none → NL H' D rs → nrs rs = netOf gs (snds ts) (snds us) → Q (.ref D) H'
abbrev NNs : List Str := ["quarter", "town", "gates"]
theorem scNs : FnScope NNs ["quarter", "town"] (defScope sNetStreets) := ⟨rfl, rfl, rfl, by decide +kernel, rfl, by decide +kernel, by decide +kernel⟩
theorem ok_netS {CQ CT : Addr} {f : Addr} {fd : FuncData} (F : FnP K "streets_of_net" sNetStreets f fd) (M : Ms P w K mg base CQ CT) (GS : Fz P w K mg base "_side_streets" 2 ["side", "streets", "gates"] spSide) : FnOk P w K mg base CX0 3 f fd ["quarter", "town"] (spNetS CQ CT) := by
  refine F.ok scNs (fun vs H Q E h => ?_) (fun cdv A outer s H vs Q E hr h => ?_)
  · obtain ⟨_, _, _, _, _, _, _, _, _, _, rfl, _⟩ := h
    rfl
  · obtain ⟨q, dx, l, g, p, dp, lp, ts, us, gs, rfl, hq, t60, hp, u60, z⟩ := h
    have sl := sizeLine_eq
    have r1 : Room 1 (A.deeper (envOfC "streets_of_net" (defScope sNetStreets) s.heap.objs.size f cdv)) := hr.mono (by decide)
    refine ⟨_, PSs.nox (pss_cons (ps_set (i := 2) scNs.nd rfl (Or.inl rfl) (pe_mz M.qg (pv 0) r1))
      (pss_one (ps_ret (pe_op op_cat (pe_fz GS hr (by rfl) (pa_cons pe_str (pa_cons (pe_mz M.qs (pv 0) r1) (pa_cons (pv 2) pa_nil)))) (pe_fz GS hr (by rfl) (pa_cons pe_str (pa_cons (pe_mz M.ts (pv 1) r1) (pa_cons (pv 2) pa_nil)))))))), ?_⟩
    refine ⟨_, rfl, q, dx, _, rfl, hq.at_, rfl, q, dx, g, _, _, rfl, hq.at_, rfl, hq.g, fun G nG => ?_⟩
    have s1 := same_upd (o := .lst (gs.map V.str)) nG
    have hG : Ws (upd H G (.lst (gs.map V.str))) G gs := upd_same
    generalize upd H G (.lst (gs.map V.str)) = H1 at s1 hG ⊢
    have hq1 := hq.keep s1
    refine ⟨_, rfl, q, dx, _, rfl, hq1.at_, rfl, q, dx, l, _, _, rfl, hq1.at_, rfl, hq1.s.1, fun A1 nA => ?_⟩
    have s2 := same_upd (o := .lst (ts.map fun t => V.ref t.1)) nA
    have hA : Sts (upd H1 A1 (.lst (ts.map fun t => V.ref t.1))) A1 ts := ⟨upd_same, fun t ht => s2 _ _ (hq1.s.2 t ht)⟩
    generalize upd H1 A1 (.lst (ts.map fun t => V.ref t.1)) = H2 at s2 hA ⊢
    refine ⟨_, rfl, "quarter", A1, G, ts, gs, rfl, hA, t60, s2 _ _ hG, fun X xs H3 s3 nX hX eX => ?_⟩
    have s13 := same_trans s1 (same_trans s2 s3)
    have hp3 := hp.keep s13
    refine ⟨_, rfl, p, dp, _, rfl, hp3.at_, rfl, p, dp, lp, _, _, rfl, hp3.at_, rfl, hp3.s.1, fun B1 nB => ?_⟩
    have s4 := same_upd (o := .lst (us.map fun t => V.ref t.1)) nB
    have hB : Sts (upd H3 B1 (.lst (us.map fun t => V.ref t.1))) B1 us := ⟨upd_same, fun t ht => s4 _ _ (hp3.s.2 t ht)⟩
    generalize upd H3 B1 (.lst (us.map fun t => V.ref t.1)) = H4 at s4 hB ⊢
    refine ⟨_, rfl, "town", B1, G, us, gs, rfl, hB, u60, s4 _ _ (s3 _ _ (s2 _ _ hG)), fun Y ys H5 s5 nY hY eY => ?_⟩
    have hX5 := (hX.keep s4).keep s5
    have lx : xs.length = ts.length := by
      have := congrArg List.length eX
      rwa [nrs, List.length_map, List.length_map, snds, List.length_map] at this
    have ly : ys.length = us.length := by
      have := congrArg List.length eY
      rwa [nrs, List.length_map, List.length_map, snds, List.length_map] at this
    refine ⟨X, Y, _, _, rfl, rfl, hX5.at_, hY.at_, by rw [List.length_map, List.length_map]; omega, fun D nD => ?_⟩
    rw [← List.map_append]
    have s6 := same_upd (o := .lst ((xs ++ ys).map fun t => V.ref t.1)) nD
    have s06 := same_trans s13 (same_trans s4 (same_trans s5 s6))
    refine z D (xs ++ ys) _ s06 (((same_trans s13 (same_trans s4 s5)).free nD)) ⟨upd_same, fun t ht => ?_⟩ (by rw [nrs, List.map_append]; unfold netOf; rw [← eX, ← eY])
    rcases List.mem_append.mp ht with h | h
    · exact (hX5.each t h).keep s6
    · exact (hY.each t h).keep s6
end
end K13
end
section
set_option Elab.async false
set_option linter.all false
set_option maxRecDepth 100000
set_option maxHeartbeats 4000000
namespace K13
open PySem PySem.Spec PyProof.Rows L2
/-! ### walks and least costs -/
inductive Wk (N : List NR) (s : P2) : P2 → List NR → Prop
  | nil : Wk N s s []
  | snoc {v : P2} {l : List NR} (e : NR) (h : Wk N s v l) (he : e ∈ N) (hw : 0 < e.wd) (hs : e.st = v) : Wk N s e.en (l ++ [e])
section
variable {N N' : List NR} {s u v : P2} {l a b : List NR}
theorem Wk.mono (h : Wk N s v l) (k : ∀ e ∈ l, e ∈ N → e ∈ N') : Wk N' s v l := by
  induction h with
  | nil => exact .nil
  | snoc e h he hw hs ih => exact .snoc e (ih fun x hx => k x (List.mem_append_left _ hx)) (k e (List.mem_append_right _ List.mem_cons_self) he) hw hs
theorem Wk.append (h : Wk N s u a) (k : Wk N u v b) : Wk N s v (a ++ b) := by
  induction k with
  | nil => rwa [List.append_nil]
  | snoc e _ he hw hs ih =>
    rw [← List.append_assoc]
    exact .snoc e ih he hw hs
theorem Wk.cons (e : NR) (he : e ∈ N) (hw : 0 < e.wd) (h : Wk N e.en v l) : Wk N e.st v (e :: l) := by
  have := Wk.append (Wk.snoc e Wk.nil he hw rfl) h
  simpa using this
theorem Wk.split (h : Wk N s v l) : ∀ a b, l = a ++ b → ∃ u, Wk N s u a ∧ Wk N u v b := by
  induction h with
  | nil => 
    intro a b e
    obtain ⟨rfl, rfl⟩ := List.append_eq_nil_iff.mp e.symm
    exact ⟨s, .nil, .nil⟩
  | snoc e h he hw hs ih =>
    intro a b q
    rcases List.eq_nil_or_concat b with rfl | ⟨b', x, rfl⟩
    · rw [List.append_nil] at q
      subst q
      exact ⟨_, .snoc e h he hw hs, .nil⟩
    · rw [List.concat_eq_append, ← List.append_assoc] at q
      obtain ⟨q1, q2⟩ := List.append_inj' q rfl
      cases q2
      obtain ⟨u, h1, h2⟩ := ih a b' q1
      rw [List.concat_eq_append]
      exact ⟨u, h1, .snoc e h2 he hw hs⟩
theorem Wk.in_ (h : Wk N s v l) : ∀ e ∈ l, e ∈ N ∧ 0 < e.wd := by
  induction h with
  | nil => exact fun e he => by simp at he
  | snoc e h he hw hs ih =>
    intro x hx
    rcases List.mem_append.mp hx with h | h
    · exact ih x h
    · rw [List.mem_singleton.mp h]
      exact ⟨he, hw⟩
theorem Wk.nil_ (h : Wk N s v []) : v = s := by
  generalize hl : ([] : List NR) = l at h
  cases h with
  | nil => rfl
  | snoc e h he hw hs => simp at hl
theorem Wk.last {e : NR} (h : Wk N s v (a ++ [e])) : v = e.en ∧ Wk N s e.st a := by
  generalize hl : a ++ [e] = l at h
  cases h with
  | nil => simp at hl
  | snoc x h he hw hs =>
    obtain ⟨rfl, q⟩ := List.append_inj' hl rfl
    cases q
    exact ⟨rfl, hs ▸ h⟩
/-- the walk through an edge -/
theorem Wk.mid {e : NR} (h : Wk N s v (a ++ e :: b)) : Wk N s e.st a ∧ Wk N e.en v b := by
  obtain ⟨u, h1, h2⟩ := h.split (a ++ [e]) b (by simp)
  obtain ⟨rfl, h3⟩ := h1.last
  exact ⟨h3, h2⟩
end
/-- costs -/
structure Cst (α : Type) where
  le : α → α → Bool
  ext : α → NR → α
  refl : ∀ a, le a a = true
  trans : ∀ a b c, le a b = true → le b c = true → le a c = true
  total : ∀ a b, le a b = false → le b a = true
  mono : ∀ a b e, le a b = true → le (ext a e) (ext b e) = true
  incr : ∀ a e, 0 ≤ e.ln → le a (ext a e) = true
section
variable {α : Type} (c : Cst α) (z : α)
def Cst.of (l : List NR) : α := l.foldl c.ext z
def upM (M : P2 → Option α) (k : P2) (a : α) : P2 → Option α := fun v => if v = k then some a else M v
def rlx (M : P2 → Option α) (e : NR) : P2 → Option α :=
  if 0 < e.wd then
    match M e.st with
    | none => M
    | some a =>
      match M e.en with
      | none => upM M e.en (c.ext a e)
      | some b => if c.le b (c.ext a e) = true then M else upM M e.en (c.ext a e)
  else M
def Snd (N : List NR) (s : P2) (M : P2 → Option α) : Prop := ∀ v a, M v = some a → ∃ l, Wk N s v l ∧ c.of z l = a
def Dn (M M' : P2 → Option α) : Prop := ∀ v a, M v = some a → ∃ b, M' v = some b ∧ c.le b a = true
def Bnd (N : List NR) (s : P2) (i : Nat) (M : P2 → Option α) : Prop := ∀ v l, Wk N s v l → l.length ≤ i → ∃ b, M v = some b ∧ c.le b (c.of z l) = true
def AllB (N : List NR) (s : P2) (M : P2 → Option α) : Prop := ∀ v l, Wk N s v l → ∃ b, M v = some b ∧ c.le b (c.of z l) = true
variable {c z} {N : List NR} {s : P2} {M M' M'' : P2 → Option α}
theorem of_snoc (l : List NR) (e : NR) : c.of z (l ++ [e]) = c.ext (c.of z l) e := by
  unfold Cst.of
  rw [List.foldl_append]
  rfl
theorem Dn.refl : Dn c M M := fun v a h => ⟨a, h, c.refl a⟩
theorem Dn.trans (h : Dn c M M') (k : Dn c M' M'') : Dn c M M'' := fun v a e => by
  obtain ⟨b, h1, h2⟩ := h v a e
  obtain ⟨d, h3, h4⟩ := k v b h1
  exact ⟨d, h3, c.trans _ _ _ h4 h2⟩
theorem rlx_shut {e : NR} (h : ¬ 0 < e.wd) : rlx c M e = M := by unfold rlx; rw [if_neg h]
theorem rlx_off {e : NR} (h1 : M e.st = none) : rlx c M e = M := by
  unfold rlx
  split
  · rw [h1]
  · rfl
theorem rlx_new {e : NR} {a : α} (h : 0 < e.wd) (h1 : M e.st = some a) (h2 : M e.en = none) : rlx c M e = upM M e.en (c.ext a e) := by
  simp only [rlx, if_pos h, h1, h2]
theorem rlx_keep {e : NR} {a b : α} (h : 0 < e.wd) (h1 : M e.st = some a) (h2 : M e.en = some b) (h3 : c.le b (c.ext a e) = true) : rlx c M e = M := by
  simp only [rlx, if_pos h, h1, h2, if_pos h3]
theorem rlx_put {e : NR} {a b : α} (h : 0 < e.wd) (h1 : M e.st = some a) (h2 : M e.en = some b) (h3 : c.le b (c.ext a e) = false) : rlx c M e = upM M e.en (c.ext a e) := by
  simp only [rlx, if_pos h, h1, h2, h3]
  rfl
/-- one edge relaxed: either nothing, or put -/
theorem rlx_cases (M : P2 → Option α) (e : NR) : (rlx c M e = M ∧ ((0 < e.wd) → ∀ a, M e.st = some a → ∃ b, M e.en = some b ∧ c.le b (c.ext a e) = true)) ∨
    (0 < e.wd ∧ ∃ a, M e.st = some a ∧ rlx c M e = upM M e.en (c.ext a e) ∧ ∀ b, M e.en = some b → c.le b (c.ext a e) = false) := by
  unfold rlx
  by_cases hw : 0 < e.wd
  · rw [if_pos hw]
    cases h1 : M e.st with
    | none => exact .inl ⟨rfl, fun _ a h => by cases h⟩
    | some a =>
      cases h2 : M e.en with
      | none => exact .inr ⟨hw, a, rfl, rfl, fun b h => by cases h⟩
      | some b =>
        by_cases h3 : c.le b (c.ext a e) = true
        · refine .inl ⟨if_pos h3, fun _ a' h => ?_⟩
          cases h
          exact ⟨b, rfl, h3⟩
        · refine .inr ⟨hw, a, rfl, if_neg h3, fun b' h => ?_⟩
          cases h
          simpa using h3
  · rw [if_neg hw]
    exact .inl ⟨rfl, fun h => absurd h hw⟩
theorem dn_rlx (e : NR) : Dn c M (rlx c M e) := by
  rcases rlx_cases (c := c) M e with ⟨h, _⟩ | ⟨_, a, h1, h2, h3⟩
  · rw [h]
    exact .refl
  · rw [h2]
    intro v b hb
    unfold upM
    by_cases q : v = e.en
    · rw [if_pos q]
      subst q
      exact ⟨_, rfl, c.total _ _ (h3 b hb)⟩
    · rw [if_neg q]
      exact ⟨b, hb, c.refl b⟩
theorem dn_rnd (L : List NR) : Dn c M (L.foldl (rlx c) M) := by
  induction L generalizing M with
  | nil => exact .refl
  | cons e L ih => exact (dn_rlx e).trans ih
theorem snd_rlx (h : Snd c z N s M) {e : NR} (he : e ∈ N) : Snd c z N s (rlx c M e) := by
  rcases rlx_cases (c := c) M e with ⟨q, _⟩ | ⟨hw, a, h1, h2, h3⟩
  · rwa [q]
  · rw [h2]
    intro v b hb
    unfold upM at hb
    by_cases q : v = e.en
    · rw [if_pos q] at hb
      cases hb
      obtain ⟨l, k1, k2⟩ := h _ _ h1
      refine ⟨l ++ [e], ?_, by rw [of_snoc, k2]⟩
      rw [q]
      exact .snoc e k1 he hw rfl
    · rw [if_neg q] at hb
      exact h v b hb
theorem snd_rnd (h : Snd c z N s M) (L : List NR) (hL : ∀ e ∈ L, e ∈ N) : Snd c z N s (L.foldl (rlx c) M) := by
  induction L generalizing M with
  | nil => exact h
  | cons e L ih => exact ih (snd_rlx h (hL e List.mem_cons_self)) fun x hx => hL x (List.mem_cons_of_mem _ hx)
theorem rlx_got (e : NR) (hw : 0 < e.wd) {a : α} (ha : M e.st = some a) : ∃ b, rlx c M e e.en = some b ∧ c.le b (c.ext a e) = true := by
  rcases rlx_cases (c := c) M e with ⟨q, h⟩ | ⟨_, a', h1, h2, h3⟩
  · rw [q]
    exact h hw a ha
  · rw [h2]
    rw [ha] at h1
    cases h1
    exact ⟨_, if_pos rfl, c.refl _⟩
theorem rnd_got {e : NR} (he : e ∈ N) (hw : 0 < e.wd) {a : α} (ha : M e.st = some a) : ∃ b, N.foldl (rlx c) M e.en = some b ∧ c.le b (c.ext a e) = true := by
  obtain ⟨L1, L2, rfl⟩ := List.append_of_mem he
  rw [List.foldl_append, List.foldl_cons]
  obtain ⟨a', h1, h2⟩ := dn_rnd (c := c) (M := M) L1 _ _ ha
  obtain ⟨b, h3, h4⟩ := rlx_got (c := c) e hw h1
  obtain ⟨d, h5, h6⟩ := dn_rnd (c := c) L2 _ _ h3
  exact ⟨d, h5, c.trans _ _ _ h6 (c.trans _ _ _ h4 (c.mono _ _ _ h2))⟩
theorem bnd_zero (h : M s = some z) : Bnd c z N s 0 M := fun v l k hl => by
  have : l = [] := List.length_eq_zero_iff.mp (by omega)
  subst this
  rw [k.nil_]
  exact ⟨z, h, c.refl z⟩
theorem bnd_rnd {i : Nat} (h : Bnd c z N s i M) : Bnd c z N s (i + 1) (N.foldl (rlx c) M) := fun v l k hl => by
  cases k with
  | nil =>
    obtain ⟨b, h1, h2⟩ := h s [] .nil (Nat.zero_le _)
    obtain ⟨d, h3, h4⟩ := dn_rnd (c := c) N _ _ h1
    exact ⟨d, h3, c.trans _ _ _ h4 h2⟩
  | snoc e k he hw hs =>
    rename_i v' l'
    rw [List.length_append, List.length_singleton] at hl
    obtain ⟨a, h1, h2⟩ := h _ _ k (by omega)
    rw [← hs] at h1
    obtain ⟨b, h3, h4⟩ := rnd_got (c := c) he hw h1
    refine ⟨b, h3, ?_⟩
    rw [of_snoc]
    exact c.trans _ _ _ h4 (c.mono _ _ _ h2)
theorem AllB.bnd (h : AllB c z N s M) (i : Nat) : Bnd c z N s i M := fun v l k _ => h v l k
/-- a list of ends that come twice -/
theorem dup_split : ∀ {l : List NR}, ¬ (l.map NR.en).Nodup → ∃ a e b f d, l = a ++ e :: (b ++ f :: d) ∧ e.en = f.en
  | [], h => absurd List.nodup_nil h
  | x :: l, h => by
    by_cases k : x.en ∈ l.map NR.en
    · obtain ⟨f, hf, q⟩ := List.mem_map.mp k
      obtain ⟨b, d, rfl⟩ := List.append_of_mem hf
      exact ⟨[], x, b, f, d, rfl, q.symm⟩
    · have h' : ¬ (l.map NR.en).Nodup := fun hn => h (by rw [List.map_cons]; exact List.nodup_cons.mpr ⟨k, hn⟩)
      obtain ⟨a, e, b, f, d, rfl, q⟩ := dup_split h'
      exact ⟨x :: a, e, b, f, d, rfl, q⟩
theorem le_exts (l : List NR) (hl : ∀ e ∈ l, 0 ≤ e.ln) (a : α) : c.le a (l.foldl c.ext a) = true := by
  induction l generalizing a with
  | nil => exact c.refl a
  | cons e l ih => exact c.trans _ _ _ (c.incr a e (hl e List.mem_cons_self)) (ih (fun x hx => hl x (List.mem_cons_of_mem _ hx)) _)
theorem mono_exts (l : List NR) {a b : α} (h : c.le a b = true) : c.le (l.foldl c.ext a) (l.foldl c.ext b) = true := by
  induction l generalizing a b with
  | nil => exact h
  | cons e l ih => exact ih (c.mono _ _ _ h)
theorem nodup_of_en {l : List NR} (h : (l.map NR.en).Nodup) : l.Nodup := by
  induction l with
  | nil => exact List.nodup_nil
  | cons x l ih =>
    rw [List.map_cons, List.nodup_cons] at h
    exact List.nodup_cons.mpr ⟨fun k => h.1 (List.mem_map.mpr ⟨x, k, rfl⟩), ih h.2⟩
theorem length_sub : ∀ {l : List NR} {N : List NR}, l.Nodup → (∀ e ∈ l, e ∈ N) → l.length ≤ N.length
  | [], _, _, _ => Nat.zero_le _
  | x :: l, N, h, k => by
    rw [List.nodup_cons] at h
    obtain ⟨a, b, rfl⟩ := List.append_of_mem (k x List.mem_cons_self)
    have := length_sub (l := l) (N := a ++ b) h.2 fun e he => by
      have := k e (List.mem_cons_of_mem _ he)
      rcases List.mem_append.mp this with q | q
      · exact List.mem_append_left _ q
      · rcases List.mem_cons.mp q with rfl | q
        · exact absurd he h.1
        · exact List.mem_append_right _ q
    simp only [List.length_append, List.length_cons] at this ⊢
    omega
theorem shorten (pos : ∀ e ∈ N, 0 ≤ e.ln) : ∀ (n : Nat) (v : P2) (l : List NR), l.length ≤ n → Wk N s v l → ∃ l', Wk N s v l' ∧ l'.length ≤ N.length ∧ c.le (c.of z l') (c.of z l) = true := by
  intro n
  induction n with
  | zero => exact fun v l hl h => ⟨l, h, by omega, c.refl _⟩
  | succ n ih =>
    intro v l hl h
    by_cases q : (l.map NR.en).Nodup
    · exact ⟨l, h, length_sub (nodup_of_en q) fun e he => (h.in_ e he).1, c.refl _⟩
    · obtain ⟨a, e, b, f, d, rfl, ef⟩ := dup_split q
      have p := h.in_
      obtain ⟨h1, h2⟩ := h.mid
      obtain ⟨_, h3⟩ := h2.mid
      rw [← ef] at h3
      have he := p e (by simp)
      have w1 : Wk N s v (a ++ e :: d) := h1.append (.cons e he.1 he.2 h3)
      have k : c.le (c.of z (a ++ e :: d)) (c.of z (a ++ e :: (b ++ f :: d))) = true := by
        unfold Cst.of
        rw [List.foldl_append, List.foldl_append, List.foldl_cons, List.foldl_cons, List.foldl_append, List.foldl_cons]
        refine mono_exts d ?_
        exact c.trans _ _ _ (le_exts b (fun x hx => pos x (p x (by simp [hx])).1) _) (c.incr _ _ (pos f (p f (by simp)).1))
      obtain ⟨l', k1, k2, k3⟩ := ih v (a ++ e :: d) (by simp only [List.length_append, List.length_cons] at hl ⊢; omega) w1
      exact ⟨l', k1, k2, c.trans _ _ _ k3 k⟩
theorem Bnd.all (pos : ∀ e ∈ N, 0 ≤ e.ln) {i : Nat} (hi : N.length ≤ i) (h : Bnd c z N s i M) : AllB c z N s M := fun v l k => by
  obtain ⟨l', k1, k2, k3⟩ := shorten (c := c) (z := z) pos l.length v l (Nat.le_refl _) k
  obtain ⟨b, h1, h2⟩ := h v l' k1 (by omega)
  exact ⟨b, h1, c.trans _ _ _ h2 k3⟩
/-- nothing more to better -/
theorem rlx_stays (h : AllB c z N s M) (k : Snd c z N s M) {e : NR} (he : e ∈ N) : rlx c M e = M := by
  rcases rlx_cases (c := c) M e with ⟨q, _⟩ | ⟨hw, a, h1, h2, h3⟩
  · exact q
  · exfalso
    obtain ⟨l, k1, k2⟩ := k _ _ h1
    obtain ⟨b, h4, h5⟩ := h _ _ (.snoc e k1 he hw rfl)
    have h6 := h3 b h4
    rw [of_snoc, k2, h6] at h5
    cases h5
/-- nothing was bettered: all is least -/
theorem all_of_still (h0 : ∃ a, M s = some a ∧ c.le a z = true) (h : ∀ e ∈ N, 0 < e.wd → ∀ a, M e.st = some a → ∃ b, M e.en = some b ∧ c.le b (c.ext a e) = true) : AllB c z N s M := fun v l k => by
  induction k with
  | nil => exact h0
  | snoc e k he hw hs ih =>
    obtain ⟨a, h1, h2⟩ := ih
    rw [← hs] at h1
    obtain ⟨b, h3, h4⟩ := h e he hw a h1
    refine ⟨b, h3, ?_⟩
    rw [of_snoc]
    exact c.trans _ _ _ h4 (c.mono _ _ _ h2)
end
/-! ### lengths -/
def lenS (l : List NR) : Int := l.foldl (fun d e => d + e.ln) 0
def cLen : Cst Int where
  le a b := decide (a ≤ b)
  ext a e := a + e.ln
  refl a := by simp
  trans a b c h k := by simp at h k ⊢; omega
  total a b h := by simp at h ⊢; omega
  mono a b e h := by simp at h ⊢; omega
  incr a e h := by simp; omega
def cRow : Cst (Int × List P2) where
  le a b := decide (a.1 < b.1 ∨ (a.1 = b.1 ∧ a.2.length ≤ b.2.length))
  ext a e := (a.1 + e.ln, a.2 ++ [e.key])
  refl a := by simp
  trans a b c h k := by simp at h k ⊢; omega
  total a b h := by simp at h ⊢; omega
  mono a b e h := by simp at h ⊢; omega
  incr a e h := by simp; omega
theorem foldl_int (l : List NR) (a : Int) : l.foldl (fun d e => d + e.ln) a = a + lenS l := by
  unfold lenS
  induction l generalizing a with
  | nil => simp
  | cons x l ih =>
    rw [List.foldl_cons, List.foldl_cons, ih (a + x.ln), ih (0 + x.ln)]
    omega
theorem lenS_cons (x : NR) (l : List NR) : lenS (x :: l) = x.ln + lenS l := by
  show List.foldl _ (0 + x.ln) l = _
  rw [foldl_int]
  omega
theorem lenS_append (a b : List NR) : lenS (a ++ b) = lenS a + lenS b := by
  show List.foldl _ 0 (a ++ b) = _
  rw [List.foldl_append, foldl_int]
  rfl
theorem of_len (l : List NR) : cLen.of 0 l = lenS l := rfl
theorem of_row (l : List NR) : cRow.of (0, []) l = (lenS l, l.map NR.key) := by
  have : ∀ (l : List NR) (a : Int × List P2), l.foldl cRow.ext a = (a.1 + lenS l, a.2 ++ l.map NR.key) := by
    intro l
    induction l with
    | nil => intro a; simp [lenS]
    | cons x l ih =>
      intro a
      rw [List.foldl_cons, ih, lenS_cons]
      show (a.1 + x.ln + lenS l, (a.2 ++ [x.key]) ++ _) = _
      rw [List.append_assoc, List.map_cons]
      exact Prod.ext (by show _ = a.1 + _; omega) rfl
  unfold Cst.of
  rw [this]
  simp
/-- least lengths from s -/
structure IsD (N : List NR) (s : P2) (F : P2 → Option Int) : Prop where
  snd : ∀ v d, F v = some d → ∃ l, Wk N s v l ∧ lenS l = d
  all : ∀ v l, Wk N s v l → ∃ d, F v = some d ∧ d ≤ lenS l
section
variable {N N' : List NR} {s t : P2} {F G : P2 → Option Int}
theorem IsD.uniq (h : IsD N s F) (k : IsD N s G) : F = G := by
  funext v
  cases hf : F v with
  | none =>
    cases hg : G v with
    | none => rfl
    | some d =>
      obtain ⟨l, h1, _⟩ := k.snd v d hg
      obtain ⟨d', h2, _⟩ := h.all v l h1
      rw [hf] at h2
      cases h2
  | some d =>
    obtain ⟨l, h1, h2⟩ := h.snd v d hf
    obtain ⟨d', h3, h4⟩ := k.all v l h1
    obtain ⟨l', h5, h6⟩ := k.snd v d' h3
    obtain ⟨d'', h7, h8⟩ := h.all v l' h5
    rw [hf] at h7
    cases h7
    rw [h3]
    have : d = d' := by omega
    rw [this]
theorem IsD.walks (h : IsD N s F) (k : ∀ v l, Wk N s v l ↔ Wk N' s v l) : IsD N' s F :=
  ⟨fun v d e => by obtain ⟨l, h1, h2⟩ := h.snd v d e; exact ⟨l, (k v l).mp h1, h2⟩, fun v l w => h.all v l ((k v l).mpr w)⟩
theorem IsD.mem (h : IsD N s F) (k : ∀ e, e ∈ N ↔ e ∈ N') : IsD N' s F := h.walks fun v l => ⟨fun w => w.mono fun e _ he => (k e).mp he, fun w => w.mono fun e _ he => (k e).mpr he⟩
theorem isD_len (h : Snd cLen 0 N s F) (k : AllB cLen 0 N s F) : IsD N s F := ⟨h, fun v l w => by
  obtain ⟨b, h1, h2⟩ := k v l w
  exact ⟨b, h1, of_decide_eq_true h2⟩⟩
theorem isD_row {M : P2 → Option (Int × List P2)} (h : Snd cRow (0, []) N s M) (k : AllB cRow (0, []) N s M) : IsD N s fun v => (M v).map (·.1) := ⟨fun v d e => by
    obtain ⟨a, h1, rfl⟩ := Option.map_eq_some_iff.mp e
    obtain ⟨l, h2, h3⟩ := h v a h1
    refine ⟨l, h2, ?_⟩
    rw [← h3, of_row], fun v l w => by
  obtain ⟨b, h1, h2⟩ := k v l w
  refine ⟨b.1, by rw [h1]; rfl, ?_⟩
  rw [of_row] at h2
  simp [cRow] at h2
  omega⟩
end
end K13
end
section
set_option Elab.async false
set_option linter.all false
set_option maxRecDepth 100000
set_option maxHeartbeats 4000000
/-! Dictionaries with tuples as keys: {k: v for ..}, {k: v}. -/
namespace L2
open PySem PySem.Spec PyProof.Rows
section
variable {X : Cx} {pins : List (Addr × Obj)} {σ : L2.St} {H : Hp} {s : Shared} {E : Value → Shared → Prop}
theorem objOk_dT {P : Program} {w : World} {H' : Hp} {h' : Heap} {a : Addr} {kvs : List (List L2.Key × V)} {xs : List (List L2.Key × Addr × Value)} (l : kvs.length ≤ sizeLine) (z : (a == sysModules) = false) (kt : KT H' kvs xs) (d : Heap.DictOfH (tupleKind (mixKind P w)) h' a xs) : ObjOk P w H' h' a (.dT kvs) :=
  let ⟨o, es, ep, h1, h2, h3, h4, _, h6⟩ := d
  ⟨l, z, xs, kt, o, es, ep, h1, h2, h3, h4, h6⟩
/-- an entry is put -/
theorem put_in {D : Addr} {y z : V} {u r : Value} {H6 : Hp} {Q : Unit → Shared → Prop} (hu : X.A.units < cLine) (I : Inv X pins σ H s) (p : DPut H D y z H6) (ry : RelV y u) (rz : RelV z r) (q : ∀ s', Inv X pins σ H6 s' → Q () s') : wpAny (model X.prog X.w) X.A (dictSet D u r) Q E s := by
  rcases p with ⟨kvs, k, hD, rfl, hz, rfl⟩ | ⟨kvs, ks, b, hD, rfl, hb, hz, rfl⟩
  · exact d_dictSet I hD hz ry rz q
  · obtain rfl : u = .ref b := ry
    obtain ⟨zl, hd, xs, kt, dd⟩ := dt_of I.hok hD
    have lx : xs.length = kvs.length := kt.length.symm
    refine wpAny_dictSet_heap (knd := tupleKind (mixKind X.prog X.w)) hu (key_of I.hok hb) dd (fun h' dd' sb => ?_) (by rw [lx]; exact zl)
    refine q _ (d_write I (by rw [hD]; trivial) sb ?_ ?_)
    · obtain ⟨o, _, _, ho, _⟩ := dd'
      exact ⟨o, ho⟩
    · have nb : b ≠ D := fun e => by
        rw [e, hD] at hb
        cases hb
      have k2 := (kt.put ks hb rz).keeps (H' := upd H D (.dT (putK kvs ks z))) fun c ys e => by
        rw [upd_ne]
        · exact e
        · intro ec
          rw [ec, hD] at e
          cases e
      refine objOk_dT ?_ hd k2 dd'
      have := length_putK kvs ks z
      omega
/-- {k: v for ..}: what is made step by step, the keys tuples -/
def tDcT (wi : TI) (g : TG) (tt : TT) (tk tv : TE) (vs : List Nat) : TE := fun σ H Q => wi σ H fun J H1 => ∀ D, H1 D = none → ∃ W : Nat → Nat → Hp → Prop, (∃ m, W 0 m (upd H1 D (.dT []))) ∧ ∀ i m H, W i m H →
  (J.stop i H ∧ Q (.ref D) H) ∨ (J.go i H ∧ ∃ Nx : Hp → Prop, (∀ H', Nx H' → ∃ m', m' < m ∧ W (i + 1) m' H') ∧ ∀ x H', J.yld i H x H' → g x (wipe σ vs) H' fun σ2 H2 => wipe σ2 vs = wipe σ vs ∧ tt σ2 H2 fun b H3 =>
    if b = true then tk σ2 H3 fun y H4 => tv σ2 H4 fun z H5 => ∃ H6, DPut H5 D y z H6 ∧ Nx H6 else Nx H3)
theorem dcT_core {Q : VK} {kx vx tg iter : Expr} {ifs : List Expr} {scope : Scope} {own : List (Str × Nat)} {pos pos' : Pos} {wi : TI} {g : TG} {tt : TT} {tk tv : TE} {use : Option (Value → Sem Unit)} {Qf : Value → Shared → Prop}
    (hu : X.A.units < cLine) (hc : X.calm = true) (hN : X.N.Nodup) (I : Inv X pins σ H s) (hi : PI X tg iter wi) (ok : BlkOk X.N X.env.scope scope own)
    (hg : ∀ (s : Shared) (H : Hp) (C : Addr) (cl : List (Str × Addr)) (fp : List Addr), PG (X.blk s H scope (compEnvC scope cl C X.env) fp) tg g)
    (ht : ∀ (s : Shared) (H : Hp) (C : Addr) (cl : List (Str × Addr)) (fp : List Addr), PTs (X.blk s H scope (compEnvC scope cl C X.env) fp) ifs tt)
    (hk : ∀ (s : Shared) (H : Hp) (C : Addr) (cl : List (Str × Addr)) (fp : List Addr), PE (X.blk s H scope (compEnvC scope cl C X.env) fp) kx tk)
    (he : ∀ (s : Shared) (H : Hp) (C : Addr) (cl : List (Str × Addr)) (fp : List Addr), PE (X.blk s H scope (compEnvC scope cl C X.env) fp) vx tv)
    (hs : ∀ x, foldedSetIterable iter X.env x = pure x) (h : tDcT wi g tt tk tv (own.map (·.2)) σ H Q)
    (out : ∀ (D C : Addr) (s' : Shared) (m : Str → Option Value) (H' : Hp), Inv X pins σ H' s' → Q (.ref D) H' → s'.heap.Ns C m → FpOk X pins H' C → compPost (model X.prog X.w) X.A X.xe use Qf (.ref D) C (.ok .next) s') :
    wpAny (model X.prog X.w) X.A (comprehension (.DictComp kx vx [⟨tg, iter, ifs, 0⟩] scope pos) scope X.env pos' newDict false (eval iter X.env) use) Qf X.xe s := by
  have hfree : ∀ y ∈ scope.names, y.2 = .free → ∃ c, X.env.cells.lookup y.1 = some c := fun y hy e => by
    rcases ok.free y hy e with k | k
    · exact I.ok.has y.1 (Or.inl k)
    · exact I.ok.has y.1 (Or.inr k)
  refine wpAny_comprehension_free rfl hs (closure_ok hfree) ok.kind (fun y hy e => by rw [ok.uniq y hy, e]) ?_
  refine thn (hi.run pins s σ H _ I h) fun xv s1 hx => thn hx fun itv s2 h2 => ?_
  obtain ⟨it, fp, tn, J, H2, rfl, I2, T, st2, f2, q⟩ := h2
  refine wpAny_newObj_type (newEnv_comp ?_) (by show (#[] : Array DictEntry).size ≤ _; exact Nat.zero_le _)
  have nD := I2.hok.fresh (Nat.le_refl s2.heap.objs.size)
  obtain ⟨W, ⟨m0, w0⟩, turn⟩ := q _ nD
  have I3 : Inv X pins σ (upd H2 s2.heap.objs.size (.dT [])) { s2 with heap := s2.heap.push { cls := .type "dict", data := .dict #[] } } :=
    I2.laid (t' := s2.toks) (fun b o e => Heap.get?_push_of_some _ e) (Nat.le_refl _) (dt_empty s2.heap I2.big)
  have sz : ∀ b ∈ fp, b < s2.heap.objs.size := fun b hb => by
    obtain ⟨o, e, _⟩ := T.obj 0 s2.heap st2 b hb
    exact Heap.lt_size e
  have f3 : ∀ b ∈ fp, FpOk X pins (upd H2 s2.heap.objs.size (.dT [])) b ∧ b < ({ s2 with heap := s2.heap.push { cls := .type "dict", data := .dict #[] } } : Shared).heap.objs.size := fun b hb => by
    have lt := sz b hb
    refine ⟨⟨?_, (f2 b hb).2⟩, ?_⟩
    · rw [upd_ne (Nat.ne_of_lt lt)]
      exact (f2 b hb).1
    · show b < (s2.heap.push _).objs.size
      rw [Heap.size_push]
      exact Nat.lt_succ_of_lt lt
  have I4 := block_start I3 ok hN f3
  generalize hS3 : ({ s2 with heap := s2.heap.push { cls := .type "dict", data := .dict #[] } } : Shared) = S3 at I3 f3 I4
  have hh3 : S3.heap = s2.heap.push { cls := .type "dict", data := .dict #[] } := by rw [← hS3]
  have st3 := T.keep 0 s2.heap S3.heap st2 fun b _ o e => by
    rw [hh3]
    exact Heap.get?_push_of_some _ e
  have st4 := T.keep 0 S3.heap (pushCells (S3.heap.push { cls := .type "dict", data := .dict #[] }) scope.names) st3 fun b _ o e => pushCells_keeps scope.names _ b o (Heap.get?_push_of_some _ e)
  generalize hCE : compEnvC scope (cellsFrom (S3.heap.objs.size + 1) scope.names (cloFrom X.env.cells scope.names [])) S3.heap.objs.size X.env = CE at I4
  have pg := hg S3 (upd H2 s2.heap.objs.size (.dT [])) S3.heap.objs.size (cellsFrom (S3.heap.objs.size + 1) scope.names (cloFrom X.env.cells scope.names [])) fp
  have pt := ht S3 (upd H2 s2.heap.objs.size (.dT [])) S3.heap.objs.size (cellsFrom (S3.heap.objs.size + 1) scope.names (cloFrom X.env.cells scope.names [])) fp
  have pk := hk S3 (upd H2 s2.heap.objs.size (.dT [])) S3.heap.objs.size (cellsFrom (S3.heap.objs.size + 1) scope.names (cloFrom X.env.cells scope.names [])) fp
  have pe := he S3 (upd H2 s2.heap.objs.size (.dT [])) S3.heap.objs.size (cellsFrom (S3.heap.objs.size + 1) scope.names (cloFrom X.env.cells scope.names [])) fp
  rw [hCE] at pg pt pk pe
  have cL : CE.locals = S3.heap.objs.size := by rw [← hCE]; rfl
  have nfp : ∀ b ∈ fp, upd H2 s2.heap.objs.size (.dT []) b = none := fun b hb => (f3 b hb).1.1
  have stat : ∀ {σ' : L2.St} {H' : Hp} {s' : Shared}, Inv (X.blk S3 (upd H2 s2.heap.objs.size (.dT [])) scope CE fp) [] σ' H' s' → (∀ b ∈ fp, H' b = none) → ∀ b ∈ fp, FpOk (X.blk S3 (upd H2 s2.heap.objs.size (.dT [])) scope CE fp) [] H' b := fun I' hn b hb =>
    ⟨hn b hb, (I'.ok.exf b hb).1, I'.ok.exfs b hb, Or.inl hb, fun x c e => (I'.ok.exf b hb).2 x c e, fun p hp => absurd (show p ∈ ([] : List (Addr × Obj)) ++ [] from hp) (by simp)⟩
  have loop : ∀ n s', (∃ i H', Inv (X.blk S3 (upd H2 s2.heap.objs.size (.dT [])) scope CE fp) [] (wipe σ (own.map (·.2))) H' s' ∧ tn i s'.heap ∧ (∀ b ∈ fp, H' b = none) ∧ W i n H') →
      codeAny (model X.prog X.w) X.A (.compLoop (.DictComp kx vx [⟨tg, iter, ifs, 0⟩] scope pos) 0 (.ref it) (.ref s2.heap.objs.size) CE) (compPost (model X.prog X.w) X.A X.xe use Qf (.ref s2.heap.objs.size) S3.heap.objs.size) s' := by
    intro n0 s0
    refine compLoop_anyD (fun n s' => ∃ i H', Inv (X.blk S3 (upd H2 s2.heap.objs.size (.dT [])) scope CE fp) [] (wipe σ (own.map (·.2))) H' s' ∧ tn i s'.heap ∧ (∀ b ∈ fp, H' b = none) ∧ W i n H') ?_ n0
    rintro n s5 ⟨i, H5, I5, st5, n5, w5⟩
    rcases turn i n H5 w5 with ⟨stop, qq⟩ | ⟨go, Nx, hNx, step⟩
    · refine thnF (T.done (X.blk S3 (upd H2 s2.heap.objs.size (.dT [])) scope CE fp) rfl rfl rfl hc i [] s5 _ H5 _ I5 (stat I5 n5) st5 stop) fun r s6 h6 => ?_
      obtain ⟨rfl, I6⟩ := h6
      have I7 : Inv X pins σ H5 s6 := I3.call' I6.os I6.base I6.hok I6.bare fun b hb => ⟨(f3 b hb).1.2.2.2.1, (f3 b hb).1.2.1, (f3 b hb).1.2.2.2.2.1, (f3 b hb).1.2.2.2.2.2⟩
      have nC : H5 S3.heap.objs.size = none := by
        have z : H5 CE.locals = none := I6.free
        rwa [cL] at z
      obtain ⟨m, hn, _⟩ := I6.loc
      have hn : s6.heap.Ns CE.locals m := hn
      rw [cL] at hn
      exact out _ _ s6 m H5 I7 qq hn (I3.fpOk (Nat.le_refl _) nC)
    · refine thnF (T.item (X.blk S3 (upd H2 s2.heap.objs.size (.dT [])) scope CE fp) rfl rfl rfl hc i [] s5 _ H5 _ I5 (stat I5 n5) st5 go) fun r s6 h6 => ?_
      obtain ⟨u, rfl, h6⟩ := h6
      refine thnF h6 fun _ s7 h7 => ?_
      obtain ⟨x, H7, I7, r7, y7, st7, n7⟩ := h7
      have I7' := I7.pinned (stat I7 n7) (T.obj (i + 1) s7.heap st7)
      refine thnF (pg.run _ s7 _ H7 x u _ I7' r7 (step x H7 y7)) fun _ s8 h8 => ?_
      obtain ⟨σ8, H8, I8, hw8, q8⟩ := h8
      refine thnF (pt.run _ s8 σ8 H8 _ I8 q8) fun b s9 h9 => ?_
      obtain ⟨H9, I9, q9⟩ := h9
      have fin : ∀ {s' : Shared} {H' : Hp}, Inv (X.blk S3 (upd H2 s2.heap.objs.size (.dT [])) scope CE fp) ([] ++ pinsAt fp s7.heap) σ8 H' s' → Nx H' → ∃ m', m' < n ∧ ∃ i H', Inv (X.blk S3 (upd H2 s2.heap.objs.size (.dT [])) scope CE fp) [] (wipe σ (own.map (·.2))) H' s' ∧ tn i s'.heap ∧ (∀ b ∈ fp, H' b = none) ∧ W i m' H' := fun {s' H'} I' nx => by
        obtain ⟨m', hm, w'⟩ := hNx H' nx
        have pin' : ∀ b ∈ fp, ∀ o, s7.heap.get? b = some o → s'.heap.get? b = some o ∧ H' b = none := fun b hb o e => by
          have z := I'.pin (b, o) (List.mem_append_right _ (List.mem_append_right _ (mem_pinsAt hb e)))
          exact ⟨z.1, z.2.1⟩
        have hl : (wipe σ (own.map (·.2))).length = σ8.length := by rw [← hw8, wipe_length]
        refine ⟨m', hm, i + 1, H', I'.unpinned.weak hl fun j v e => ?_, T.keep (i + 1) s7.heap s'.heap st7 fun b hb o e => (pin' b hb o e).1, fun b hb => ?_, w'⟩
        · rw [← hw8] at e
          exact (wipe_some e).1
        · obtain ⟨o, e, _⟩ := T.obj (i + 1) s7.heap st7 b hb
          exact (pin' b hb o e).2
      cases b with
      | false =>
        rw [if_neg (by decide)] at q9 ⊢
        exact fin I9 q9
      | true =>
        rw [if_pos rfl] at q9 ⊢
        refine thnF (pk.run _ s9 σ8 H9 _ I9 q9) fun z s10 h10 => ?_
        obtain ⟨yk, H10, I10, r10, q10⟩ := h10
        refine thnF (pe.run _ s10 σ8 H10 _ I10 q10) fun z2 s11 h11 => ?_
        obtain ⟨yv, H11, I11, r11, H6, p6, nx⟩ := h11
        exact put_in (X := X.blk S3 (upd H2 s2.heap.objs.size (.dT [])) scope CE fp) hu I11 p6 r10 r11 fun s12 I12 => fin I12 nx
  have l0 := loop m0 _ ⟨0, _, I4, st4, nfp, w0⟩
  subst hS3
  subst hCE
  exact codeAny_compStart_dict l0 (T.self X.A 0 _ _ _ st4 l0)
end
section
variable {X : Cx} {kx vx tg iter : Expr} {ifs : List Expr} {scope : Scope} {own : List (Str × Nat)} {pos spos : Pos} {wi : TI} {g : TG} {tt : TT} {tk tv : TE}
/-- name = {k: v for ..}, the keys tuples, the name a local -/
theorem ps_setDcT {i : Nat} {y : Str} {py : Pos} (hu : X.A.units < cLine) (hc : X.calm = true) (hN : X.N.Nodup) (hy : X.N[i]? = some y) (hyl : X.env.scope.names.lookup y = some .local)
    (hsw : swapsWith (.DictComp kx vx [⟨tg, iter, ifs, 0⟩] scope pos) (some (.Name y py)) spos.line X.env = pure true) (hi : PI X tg iter wi) (ok : BlkOk X.N X.env.scope scope own)
    (hg : ∀ (s : Shared) (H : Hp) (C : Addr) (cl : List (Str × Addr)) (fp : List Addr), PG (X.blk s H scope (compEnvC scope cl C X.env) fp) tg g) (ht : ∀ (s : Shared) (H : Hp) (C : Addr) (cl : List (Str × Addr)) (fp : List Addr), PTs (X.blk s H scope (compEnvC scope cl C X.env) fp) ifs tt)
    (hk : ∀ (s : Shared) (H : Hp) (C : Addr) (cl : List (Str × Addr)) (fp : List Addr), PE (X.blk s H scope (compEnvC scope cl C X.env) fp) kx tk)
    (he : ∀ (s : Shared) (H : Hp) (C : Addr) (cl : List (Str × Addr)) (fp : List Addr), PE (X.blk s H scope (compEnvC scope cl C X.env) fp) vx tv) (hs : ∀ x, foldedSetIterable iter X.env x = pure x := by intro _; rfl) :
    PS X (.Assign [.Name y py] (.DictComp kx vx [⟨tg, iter, ifs, 0⟩] scope pos) spos) (tAsg (tDcT wi g tt tk tv (own.map (·.2))) (gName i)) := by
  refine ⟨fun pins s σ H D I h => ?_⟩
  rw [exec_Assign_Name_used _ _ _ _ hsw]
  refine wpAny_bind (wpAny_standAt (wpAny_bind ?_))
  show wpAny _ X.A (do let _ ← comprehension (.DictComp kx vx [⟨tg, iter, ifs, 0⟩] scope pos) scope X.env (firstIterPos [⟨tg, iter, ifs, 0⟩] pos) newDict false (eval iter X.env) (some (assign (.Name y py) X.env))) _ _ s
  have h : tDcT wi g tt tk tv (own.map (·.2)) σ H (fun x H1 => gName i x σ H1 D.nx) := h
  refine wpAny_bind (thn (dcT_core (Qf := fun _ s' => SP X pins D .next s') hu hc hN I hi ok hg ht hk he hs h fun L C s' m H' I' q hn f => ?_) fun _ s' hq => wpAny_pure (wpAny_pure hq))
  show wpAny _ _ (assign (.Name y py) X.env (.ref L)) _ _ _
  refine wpAny_assign_Name (store_ok2 (v := V.ref L) I' hN hy (.inl hyl) rfl (fun s2 I2 ⟨a, sb, ha⟩ => ?_) (.inr hyl))
  obtain ⟨f0, f1, f2, f3, f4, f5⟩ := f
  have haC : C ≠ a := by
    rcases ha with z | z
    · rw [z]; exact f1
    · exact fun e => f4 y a z e.symm
  refine ⟨m, hn.sameBut sb haC, fun h3 sb3 => ?_⟩
  exact ⟨_, H', I2.turned (t' := s2.toks) (fun b o hb e => (sb3.2 b hb).trans e) f0 f1 f3 f4 f5, q⟩
end
end L2
end
section
set_option Elab.async false
set_option linter.all false
set_option maxRecDepth 100000
set_option maxHeartbeats 4000000
/-! {k: v}, the key a tuple -/
namespace L2
open PySem PySem.Spec PyProof.Rows
def tDisp1T (tk tv : TE) : TE := fun σ H Q => ∀ p, H p = none → tk σ (upd H p (.dT [])) fun x H1 => tv σ H1 fun y H2 => ∃ H3, DPut H2 p x y H3 ∧ Q (.ref p) H3
theorem pe_disp1T {X : Cx} {pos : Pos} {k v : Expr} {tk tv : TE} (hu : X.A.units < cLine) (hk : PE X k tk) (hv : PE X v tv) : PE X (.Dict [some k] [v] pos) (tDisp1T tk tv) := by
  refine ⟨fun pins s σ H Q I q => ?_⟩
  have hn := I.hok.fresh (Nat.le_refl s.heap.objs.size)
  have I1 := I.laid (a := s.heap.objs.size) (o := .dT []) (h' := s.heap.push { cls := .type "dict", data := .dict #[] }) (t' := s.toks) (fun _ _ q => Heap.get?_push_of_some _ q) (Nat.le_refl _) (dt_empty s.heap I.big)
  have h : PPs X pos [some k] [v] [(tk, tv)] := pps_cons hk hv pps_nil
  refine wpAny_Dict_any rfl rfl (by simp) (by simp) (thn (h.run pins _ σ _ (fun ps H2 => match ps with | [(x, y)] => ∃ H3, DPut H2 s.heap.objs.size x y H3 ∧ Q (.ref s.heap.objs.size) H3 | _ => False) I1 (q _ hn)) fun ws s2 h2 => ?_)
  obtain ⟨ps, H2, I2, rel, h2⟩ := h2
  match ps, rel, h2 with
  | [(x, y)], rel, ⟨H3, p, qq⟩ =>
      cases rel with
      | @cons a b as bs h t =>
        cases t
        obtain ⟨b1, b2⟩ := b
        unfold storeAll
        rw [List.forIn_cons]
        refine wpAny_bind (wpAny_bind (put_in hu I2 p h.1 h.2 fun s3 I3 => ?_))
        refine wpAny_pure ?_
        show wpAny _ _ (forIn ([] : List (Value × Value)) _ _) _ _ _
        rw [List.forIn_nil]
        exact wpAny_pure ⟨V.ref s.heap.objs.size, H3, I3, rfl, qq⟩
end L2
end
section
set_option Elab.async false
set_option linter.all false
set_option maxRecDepth 100000
set_option maxHeartbeats 4000000
namespace K13
open PySem PySem.Spec PyProof.Rows L2
/-! ### tables by places -/
def kp (v : P2) : List L2.Key := [Sum.inr v.1, Sum.inr v.2]
theorem kp_inj {u v : P2} : kp u = kp v ↔ u = v := ⟨fun h => by
  unfold kp at h
  injection h with h1 h2
  injection h2 with h3 _
  exact Prod.ext (Sum.inr.inj h1) (Sum.inr.inj h3), fun h => by rw [h]⟩
theorem pa_kp {H : Hp} {a : Addr} {v : P2} (h : PaAt H a v) : H a = some (.tup ((kp v).map kV)) := h
section
variable {α : Type}
/-- the dict at D, read as a table -/
structure DicD (R : Hp → α → V → Prop) (H : Hp) (D : Addr) (M : P2 → Option α) (c : Nat) : Prop where
  ex : ∃ kvs : List (List L2.Key × V), H D = some (.dT kvs) ∧ kvs.length ≤ c ∧ ∀ v, (M v = none → valV kvs (kp v) = none) ∧ ∀ a, M v = some a → ∃ y, valV kvs (kp v) = some y ∧ R H a y
/-- what a table's values say stays -/
def Stay (R : Hp → α → V → Prop) : Prop := ∀ {H H' : Hp} {D : Addr} {kvs : List (List L2.Key × V)} {a : α} {y : V}, H D = some (.dT kvs) → (∀ b o, b ≠ D → H b = some o → H' b = some o) → R H a y → R H' a y
variable {R : Hp → α → V → Prop} {H H' : Hp} {D k : Addr} {M : P2 → Option α} {c : Nat} {v : P2} {a : α} {y : V}
theorem DicD.at_ (h : DicD R H D M c) : ∃ kvs, H D = some (.dT kvs) := let ⟨kvs, e, _⟩ := h.ex; ⟨kvs, e⟩
theorem DicD.isD (h : DicD R H D M c) : L2.IsD H D := let ⟨kvs, e, _⟩ := h.ex; .inr ⟨kvs, .inl e⟩
theorem DicD.lacks (h : DicD R H D M c) (hk : PaAt H k v) (hm : M v = none) : DGet H D (.ref k) none := by
  obtain ⟨kvs, e, _, q⟩ := h.ex
  rw [← (q v).1 hm]
  exact .t e (pa_kp hk)
theorem DicD.gets (h : DicD R H D M c) (hk : PaAt H k v) (hm : M v = some a) : ∃ y, DGet H D (.ref k) (some y) ∧ R H a y := by
  obtain ⟨kvs, e, _, q⟩ := h.ex
  obtain ⟨y, h1, h2⟩ := (q v).2 a hm
  refine ⟨y, ?_, h2⟩
  rw [← h1]
  exact .t e (pa_kp hk)
theorem DicD.put (h : DicD R H D M c) (st : Stay R) (hc : c < sizeLine) (hk : PaAt H k v) (hr : R H a y) : ∃ H', DPut H D (.ref k) y H' ∧ DicD R H' D (upM M v a) (c + 1) ∧ (∀ b o, b ≠ D → H b = .some o → H' b = .some o) := by
  obtain ⟨kvs, e, l, q⟩ := h.ex
  refine ⟨upd H D (.dT (putK kvs (kp v) y)), .t e (pa_kp hk) (by omega), ⟨_, upd_same, by have := length_putK kvs (kp v) y; omega, fun u => ?_⟩, fun b o n x => by rw [upd_ne n]; exact x⟩
  rw [valV_put]
  have sb : ∀ b o, b ≠ D → H b = .some o → upd H D (.dT (putK kvs (kp v) y)) b = .some o := fun b o n x => by rw [upd_ne n]; exact x
  unfold upM
  by_cases g : u = v
  · rw [if_pos g, if_pos (kp_inj.mpr g)]
    refine ⟨fun x => (by cases x), fun a' x => ?_⟩
    cases x
    exact ⟨y, rfl, st e sb hr⟩
  · rw [if_neg g, if_neg fun x => g (kp_inj.mp x)]
    refine ⟨(q u).1, fun a' x => ?_⟩
    obtain ⟨y', h1, h2⟩ := (q u).2 a' x
    exact ⟨y', h1, st e sb h2⟩
theorem DicD.keep (h : DicD R H D M c) (s : Same H H') (hR : ∀ a y, R H a y → R H' a y) : DicD R H' D M c := by
  obtain ⟨kvs, e, l, q⟩ := h.ex
  exact ⟨kvs, s _ _ e, l, fun u => ⟨(q u).1, fun a x => by
    obtain ⟨y, h1, h2⟩ := (q u).2 a x
    exact ⟨y, h1, hR _ _ h2⟩⟩⟩
theorem DicD.le {c' : Nat} (h : DicD R H D M c) (hc : c ≤ c') : DicD R H D M c' := by
  obtain ⟨kvs, e, l, q⟩ := h.ex
  exact ⟨kvs, e, by omega, q⟩
theorem DicD.new (e : H D = some (.dT [])) : DicD R H D (fun _ => Option.none) 0 := ⟨[], e, Nat.le_refl _, fun u => ⟨fun _ => rfl, fun a x => by cases x⟩⟩
end
/-- least lengths -/
def rFar : Hp → Int → V → Prop := fun _ d y => y = .int d
theorem stay_far : Stay rFar := fun _ _ h => h
abbrev FarD (H : Hp) (D : Addr) (M : P2 → Option Int) (c : Nat) : Prop := DicD rFar H D M c
def one0 {α : Type} (s : P2) (a : α) : P2 → Option α := upM (fun _ => none) s a
theorem snd_one0 {α : Type} {c : Cst α} {z : α} {N : List NR} {s : P2} : Snd c z N s (one0 s z) := fun v a h => by
  unfold one0 upM at h
  by_cases q : v = s
  · rw [if_pos q] at h
    cases h
    rw [q]
    exact ⟨[], .nil, rfl⟩
  · rw [if_neg q] at h
    cases h
theorem one0_self {α : Type} {s : P2} {a : α} : one0 s a s = some a := if_pos rfl
/-- the i-th round's table -/
def rnds {α : Type} (c : Cst α) (N : List NR) (M : P2 → Option α) : Nat → P2 → Option α
  | 0 => M
  | i + 1 => N.foldl (rlx c) (rnds c N M i)
theorem rnds_snd {α : Type} {c : Cst α} {z : α} {N : List NR} {s : P2} (i : Nat) : Snd c z N s (rnds c N (one0 s z) i) := by
  induction i with
  | zero => exact snd_one0
  | succ i ih => exact snd_rnd ih N fun _ h => h
theorem rnds_bnd {α : Type} {c : Cst α} {z : α} {N : List NR} {s : P2} (i : Nat) : Bnd c z N s i (rnds c N (one0 s z) i) := by
  induction i with
  | zero => exact bnd_zero one0_self
  | succ i ih => exact bnd_rnd ih
theorem take_rlx {α : Type} {c : Cst α} {N : List NR} {M : P2 → Option α} {j : Nat} {x : NR} (h : N[j]? = some x) : (N.take (j + 1)).foldl (rlx c) M = rlx c ((N.take j).foldl (rlx c) M) x := by
  rw [List.take_add_one, h, List.foldl_append]
  rfl
end K13
end
section
set_option Elab.async false
set_option linter.all false
set_option maxRecDepth 100000
set_option maxHeartbeats 4000000
/-! sorted(l) of pairs of texts, and of tuples whose first item is such a pair, none twice. -/
namespace SrtP
open PySem PyProof.Rows Srt SrtX
open SrtO hiding Str
abbrev P2 := Str × Str
def ltP (x y : P2) : Bool := if x.1 = y.1 then ltS x.2 y.2 else ltS x.1 y.1
theorem ltS_anti {a b : Str} (h1 : ltS a b = false) (h2 : ltS b a = false) : a = b := by
  have e := List.le_antisymm (List.not_lt.mp (of_decide_eq_false h2)) (List.not_lt.mp (of_decide_eq_false h1))
  cases a
  cases b
  congr
  exact Array.ext' e
theorem ltP_asym {x y : P2} (h : ltP x y = true) : ltP y x = false := by
  unfold ltP at h ⊢
  by_cases e : x.1 = y.1
  · rw [if_pos e] at h
    rw [if_pos e.symm]
    exact swo_str.asym _ _ h
  · rw [if_neg e] at h
    rw [if_neg (fun z => e z.symm)]
    exact swo_str.asym _ _ h
theorem ltP_tr {x y z : P2} (h1 : ltP x y = false) (h2 : ltP y z = false) : ltP x z = false := by
  unfold ltP at h1 h2 ⊢
  by_cases e1 : x.1 = y.1
  · rw [if_pos e1] at h1
    by_cases e2 : y.1 = z.1
    · rw [if_pos e2] at h2
      rw [if_pos (e1.trans e2)]
      exact swo_str.tr _ _ _ h2 h1
    · rw [if_neg e2] at h2
      rw [if_neg (by rw [e1]; exact e2), e1]
      exact h2
  · rw [if_neg e1] at h1
    by_cases e2 : y.1 = z.1
    · rw [if_neg (by rw [← e2]; exact e1), ← e2]
      exact h1
    · rw [if_neg e2] at h2
      by_cases e3 : x.1 = z.1
      · rw [← e3] at h2
        exact absurd (ltS_anti h1 h2) e1
      · rw [if_neg e3]
        exact swo_str.tr _ _ _ h2 h1
theorem swo_byP {α : Type} (k : α → P2) : Swo fun v u => ltP (k v) (k u) := ⟨fun x y h => ltP_asym h, fun x y z h1 h2 => ltP_tr h2 h1⟩
section
variable {prog : Program} {w : World} {A : Around} {E : Value → Shared → Prop} {s : Shared}
/-- v is the pair x -/
def IsPr (h : Heap) (v : Value) (x : P2) : Prop := ∃ a o t u n, v = .ref a ∧ h.get? a = some o ∧ o.cls = .type "tuple" ∧ o.data = .seq #[.str x.1 t, .str x.2 u] n
/-- v is a tuple whose first item is the pair x -/
def IsRw (h : Heap) (v : Value) (x : P2) : Prop := ∃ a o f r n, v = .ref a ∧ h.get? a = some o ∧ o.cls = .type "tuple" ∧ o.data = .seq (f :: r).toArray n ∧ IsPr h f x
theorem IsPr.keeps {h h' : Heap} {v : Value} {x : P2} (p : IsPr h v x) (k : ∀ b o, h.get? b = some o → o.cls = .type "tuple" → h'.get? b = some o) : IsPr h' v x := by
  obtain ⟨a, o, t, u, n, e, ho, hc, hd⟩ := p
  exact ⟨a, o, t, u, n, e, k _ _ ho hc, hc, hd⟩
theorem IsRw.keeps {h h' : Heap} {v : Value} {x : P2} (p : IsRw h v x) (k : ∀ b o, h.get? b = some o → o.cls = .type "tuple" → h'.get? b = some o) : IsRw h' v x := by
  obtain ⟨a, o, f, r, n, e, ho, hc, hd, hp⟩ := p
  exact ⟨a, o, f, r, n, e, k _ _ ho hc, hc, hd, hp.keeps k⟩
theorem pr_cmp {vs : List Value} {k : Value → P2} (hp : ∀ v ∈ vs, IsPr s.heap v (k v)) : Cmp prog w A s (tuples' true) (fun p => p.1 ∈ vs) (lt2 fun v u => ltP (k v) (k u)) := by
  intro p q hm hm'
  show wpAny (model prog w) A (keyLt' (tuples' true) p.1 q.1) (fun r s' => s' = s ∧ r = ltP (k p.1) (k q.1)) (fun _ _ => False) s
  obtain ⟨a, o, t, u, n, e1, ho, hc, hd⟩ := hp _ hm
  obtain ⟨a', o', t', u', n', e2, ho', hc', hd'⟩ := hp _ hm'
  rw [e1, e2]
  refine PySem.W.kat_lt ho hd ho' hd' ?_
  rw [← e1, ← e2]
  generalize k p.1 = x
  generalize k q.1 = y
  show PySem.W.KatLex prog w A true _ _ [(Value.str x.1 t, Value.str y.1 t'), (Value.str x.2 u, Value.str y.2 u')] 0 s
  refine PySem.W.kat_cons (SeqAt.EqAt.str_str _ _ _ _ prog w _ _ ?_)
  refine PySem.W.kat_go (fun e3 => ?_) (fun e3 => ?_)
  · have e3 : x.1 = y.1 := by simpa using e3
    refine PySem.W.kat_yes (PySem.W.kat_cons (SeqAt.EqAt.str_str _ _ _ _ prog w _ _ ?_))
    refine PySem.W.kat_go (fun e4 => ?_) (fun e4 => ?_)
    · have e4 : x.2 = y.2 := by simpa using e4
      refine PySem.W.kat_yes (PySem.W.kat_nil ⟨rfl, ?_⟩)
      unfold ltP
      rw [if_pos e3, e4]
      exact (decide_eq_false (Nat.lt_irrefl _)).trans (decide_eq_false (List.lt_irrefl _)).symm
    · refine PySem.W.kat_no (PySem.W.kat_one _ _ (lt_str ⟨rfl, ?_⟩))
      unfold ltP
      rw [if_pos e3]
  · have e3 : x.1 ≠ y.1 := by simpa using e3
    refine PySem.W.kat_no (oneLt_str ⟨rfl, ?_⟩)
    unfold ltP
    rw [if_neg e3]
/-- < of two pairs -/
theorem lt_pr {x y : P2} {v u : Value} (hv : IsPr s.heap v x) (hu : IsPr s.heap u y) (hA : A.units < cLine) : Ob.RcOp CmpOp.Lt A s v u (ltP x y) := by
  obtain ⟨a, o, t, u', n, rfl, ho, hc, hd⟩ := hv
  obtain ⟨a', o', t', u'', n', rfl, ho', hc', hd'⟩ := hu
  have h := Ob.RcOp.tuples_lt (A := A) (s := s) (l := a) (b := a') (items := #[.str x.1 t, .str x.2 u']) (items2 := #[.str y.1 t', .str y.2 u'']) (e := fun j => if j = 0 then x.1 == y.1 else x.2 == y.2) (r := fun j => if j = 0 then ltS x.1 y.1 else ltS x.2 y.2)
    ⟨o, ho, hc, n, hd⟩ ⟨o', ho', hc', n', hd'⟩ hA (fun j h1 h2 => ?_) (fun j h1 h2 _ => ?_)
  · have e : Ob.lexAt (fun j => if j = 0 then x.1 == y.1 else x.2 == y.2) (fun j => if j = 0 then ltS x.1 y.1 else ltS x.2 y.2) (decide (2 < 2)) 0 2 = ltP x y := by
      rw [Ob.lexAt_succ, Ob.lexAt_succ, Ob.lexAt_zero]
      unfold ltP
      by_cases e1 : x.1 = y.1
      · by_cases e2 : x.2 = y.2
        · simp [e1, e2, ltS]
        · simp [e1, e2]
      · simp [e1]
    rw [← e]
    exact h
  · match j, h1 with
    | 0, _ => exact SeqAt.EqAt.str_str _ _ _ _
    | 1, _ => exact SeqAt.EqAt.str_str _ _ _ _
  · match j, h1 with
    | 0, _ => exact fun prog w E Q h => lt_str h
    | 1, _ => exact fun prog w E Q h => lt_str h
/-- == of two pairs -/
theorem eq_pr {x y : P2} {v u : Value} (hv : IsPr s.heap v x) (hu : IsPr s.heap u y) (hA : A.units + 1 < cLine) : SeqAt.EqAt A s v u (decide (x = y)) := by
  obtain ⟨a, o, t, u', n, rfl, ho, hc, hd⟩ := hv
  obtain ⟨a', o', t', u'', n', rfl, ho', hc', hd'⟩ := hu
  by_cases ea : a = a'
  · subst ea
    rw [ho] at ho'
    cases ho'
    rw [hd] at hd'
    obtain ⟨e1, _⟩ := Data.seq.inj hd'
    have e2 := congrArg Array.toList e1
    simp only [List.cons.injEq, Value.str.injEq, and_true] at e2
    have e : x = y := Prod.ext e2.1.1 e2.2.1
    rw [decide_eq_true e]
    exact SeqAt.EqAt.same _
  · refine SeqAt.EqAt.of_refs ea fun prog w E Q h => ?_
    refine SeqAt.eq_tupleAt (e := fun j => if j = 0 then x.1 == y.1 else x.2 == y.2) ⟨o, ho, hc, n, hd⟩ ⟨o', ho', hc', n', hd'⟩ (by omega) (fun j h1 h2 => ?_) ?_
    · match j, h1 with
      | 0, _ => exact SeqAt.EqAt.str_str _ _ _ _
      | 1, _ => exact SeqAt.EqAt.str_str _ _ _ _
    · have e : (((List.range 2).all fun j => if j = 0 then x.1 == y.1 else x.2 == y.2) && (2 == 2)) = decide (x = y) := by
        rw [Bool.eq_iff_iff, decide_eq_true_eq]
        constructor
        · intro h
          simp [List.range_succ] at h
          exact Prod.ext h.1 h.2
        · intro h
          rw [h]
          simp [List.range_succ]
      have e' : ((List.range (min (#[Value.str x.1 t, Value.str x.2 u']).size (#[Value.str y.1 t', Value.str y.2 u'']).size)).all (fun j => if j = 0 then x.1 == y.1 else x.2 == y.2) && (#[Value.str x.1 t, Value.str x.2 u']).size == (#[Value.str y.1 t', Value.str y.2 u'']).size) = decide (x = y) := e
      rw [e']
      exact h
theorem rw_cmp {vs : List Value} {k : Value → P2} (hA : A.units + 1 < cLine) (hp : ∀ v ∈ vs, IsRw s.heap v (k v)) (hu : ∀ v ∈ vs, ∀ u ∈ vs, k v = k u → v = u) : Cmp prog w A s (tuples' false) (fun p => p.1 ∈ vs) (lt2 fun v u => ltP (k v) (k u)) := by
  intro p q hm hm'
  show wpAny (model prog w) A (keyLt' (tuples' false) p.1 q.1) (fun r s' => s' = s ∧ r = ltP (k p.1) (k q.1)) (fun _ _ => False) s
  have hA1 : A.units < cLine := by omega
  have h1 := hp _ hm
  have h2 := hp _ hm'
  by_cases e : k p.1 = k q.1
  · have ev := hu _ hm _ hm' e
    rw [← ev]
    obtain ⟨a, o, f, r, n, e1, ho, hc, hd, _⟩ := h1
    rw [e1]
    refine PySem.W.kat_lt ho hd ho hd ?_
    have self : ∀ (l : List Value) (i : Nat), PySem.W.KatLex prog w A false (decide ((f :: r).toArray.size < (f :: r).toArray.size)) (fun r s' => s' = s ∧ r = ltP (k (Value.ref a)) (k (Value.ref a))) (l.zip l) i s := by
      intro l
      induction l with
      | nil =>
        intro i
        refine PySem.W.kat_nil ⟨rfl, ?_⟩
        rw [decide_eq_false (Nat.lt_irrefl _)]
        unfold ltP
        rw [if_pos rfl]
        exact (decide_eq_false (List.lt_irrefl _)).symm
      | cons v l ih =>
        intro i
        exact PySem.W.kat_cons (SeqAt.EqAt.same v prog w _ _ (PySem.W.kat_yes (ih (i + 1))))
    exact self _ 0
  · generalize k p.1 = x at h1 e ⊢
    generalize k q.1 = y at h2 e ⊢
    obtain ⟨a, o, f, r, n, e1, ho, hc, hd, hf⟩ := h1
    obtain ⟨a', o', f', r', n', e2, ho', hc', hd', hf'⟩ := h2
    rw [e1, e2]
    refine PySem.W.kat_lt ho hd ho' hd' ?_
    show PySem.W.KatLex prog w A false _ _ ((f, f') :: r.zip r') 0 s
    refine PySem.W.kat_cons (eq_pr hf hf' hA prog w _ _ ?_)
    refine PySem.W.kat_go (fun e3 => absurd (of_decide_eq_true e3) e) (fun _ => ?_)
    exact PySem.W.kat_no (PySem.W.kat_one _ _ (PySem.W.cmp_ofLt (lt_pr hf hf' hA1 prog w _ _ ⟨rfl, rfl⟩)))
theorem firsts_pr {h : Heap} : ∀ {vs : List Value}, (∀ v ∈ vs, ∃ x, IsPr h v x) → ∃ fs : List Value, PySem.W.KatTups h vs fs ∧ fs.length = vs.length ∧ ∀ f ∈ fs, ∃ x t, f = Value.str x t
  | [], _ => ⟨[], PySem.W.KatTups.nil, rfl, fun _ hm => by simp at hm⟩
  | v :: vs, hp => by
    obtain ⟨fs, h1, h2, h3⟩ := firsts_pr (vs := vs) fun v' hm => hp v' (List.mem_cons_of_mem _ hm)
    obtain ⟨x, a, o, t, u, n, e, ho, hc, hd⟩ := hp v (List.mem_cons_self ..)
    subst e
    refine ⟨.str x.1 t :: fs, PySem.W.KatTups.cons ho hc hd rfl h1, by rw [List.length_cons, List.length_cons, h2], fun f hm => ?_⟩
    rcases List.mem_cons.mp hm with rfl | hm
    · exact ⟨x.1, t, rfl⟩
    · exact h3 f hm
theorem firsts_rw {h : Heap} : ∀ {vs : List Value}, (∀ v ∈ vs, ∃ x, IsRw h v x) → ∃ fs : List Value, PySem.W.KatTups h vs fs ∧ fs.length = vs.length ∧ ∀ f ∈ fs, ∃ x, IsPr h f x
  | [], _ => ⟨[], PySem.W.KatTups.nil, rfl, fun _ hm => by simp at hm⟩
  | v :: vs, hp => by
    obtain ⟨fs, h1, h2, h3⟩ := firsts_rw (vs := vs) fun v' hm => hp v' (List.mem_cons_of_mem _ hm)
    obtain ⟨x, a, o, f, r, n, e, ho, hc, hd, hf⟩ := hp v (List.mem_cons_self ..)
    subst e
    refine ⟨f :: fs, PySem.W.KatTups.cons ho hc hd rfl h1, by rw [List.length_cons, List.length_cons, h2], fun g hm => ?_⟩
    rcases List.mem_cons.mp hm with rfl | hm
    · exact ⟨x, hf⟩
    · exact h3 g hm
theorem looks_ty {M : Model} {h : Heap} {a : Addr} {o : Obj} (ho : h.get? a = some o) (hc : o.cls = .type "tuple") : PySem.W.Looks M h (typeOf (.ref a)) (.type "tuple") := by
  intro A Q E s k hq
  have h2 := k _ _ ho
  rw [← hc] at hq
  repeat (any_goals (first | assumption | wp_step))
theorem pr_sortable {a : Addr} {vs : List Value} {k : Value → P2} (h0 : 0 < vs.length) (hp : ∀ v ∈ vs, IsPr s.heap v (k v)) (ha : ∀ o, s.heap.get? a = some o → o.cls ≠ .type "tuple") : SortableO prog w A s a vs fun v u => ltP (k v) (k u) := by
  intro h' keep
  have hp' : ∀ v ∈ vs, IsPr h' v (k v) := fun v hm => (hp v hm).keeps fun b o e c => keep b o (fun z => by subst z; exact ha o e c) e
  obtain ⟨fs, h1, h2, h3⟩ := firsts_pr fun v hm => ⟨_, hp' v hm⟩
  refine ⟨tuples' true, fun Q E hq => ?_, pr_cmp hp'⟩
  refine PySem.W.kat_kind (T := .type "str") h1 (by omega) (fun f hm => ?_) (by rfl) ?_
  · obtain ⟨x, t, rfl⟩ := h3 f hm
    exact PySem.W.Looks.now
  · have e : (Value.type "str" != Value.type "tuple") = true := by first | decide +kernel | rfl | decide
    rw [e]
    exact hq
theorem rw_sortable {a : Addr} {vs : List Value} {k : Value → P2} (hA : A.units + 1 < cLine) (h0 : 0 < vs.length) (hp : ∀ v ∈ vs, IsRw s.heap v (k v)) (hu : ∀ v ∈ vs, ∀ u ∈ vs, k v = k u → v = u) (ha : ∀ o, s.heap.get? a = some o → o.cls ≠ .type "tuple") : SortableO prog w A s a vs fun v u => ltP (k v) (k u) := by
  intro h' keep
  have hp' : ∀ v ∈ vs, IsRw h' v (k v) := fun v hm => (hp v hm).keeps fun b o e c => keep b o (fun z => by subst z; exact ha o e c) e
  obtain ⟨fs, h1, h2, h3⟩ := firsts_rw fun v hm => ⟨_, hp' v hm⟩
  refine ⟨tuples' false, fun Q E hq => ?_, rw_cmp hA hp' hu⟩
  refine PySem.W.kat_kind (T := .type "tuple") h1 (by omega) (fun f hm => ?_) (by rfl) ?_
  · obtain ⟨x, a', o, t, u, n, rfl, ho, hc, hd⟩ := h3 f hm
    exact looks_ty ho hc
  · have e : (Value.type "tuple" != Value.type "tuple") = false := by first | decide +kernel | rfl | decide
    rw [e]
    exact hq
theorem sorted_prO {l : Addr} {vs : List Value} {k : Value → P2} {Q : Value → Shared → Prop} (hl : s.heap.IsList l vs.toArray) (hz : vs.length ≤ sizeLine) (hp : ∀ v ∈ vs, IsPr s.heap v (k v))
    (h : ∀ (h' : Heap) (d : Addr) (out : List Value), Srtd (fun v u => ltP (k v) (k u)) out → Stb (fun v u => ltP (k v) (k u)) out vs → (∀ b o, s.heap.get? b = some o → h'.get? b = some o) → s.heap.objs.size ≤ d → (∃ n, h'.get? d = some (seqObj "list" out.toArray n)) → Q (.ref d) { s with heap := h' }) :
    wpAny (model prog w) A (call (.builtin "sorted") [.ref l]) Q E s := by
  refine sorted_ord (swo_byP k) hl hz (fun h2 h₁ a ha kk => ?_) fun out hs hb => ?_
  · refine pr_sortable (s := { s with heap := h₁ }) (by omega) (fun v hm => (hp v hm).keeps fun b o e _ => (kk b o e).2) fun o e => ?_
    have e' : some o = some (seqObj "list" vs.toArray 0) := e.symm.trans ha
    cases e'
    intro c
    exact absurd (Value.type.inj c) (by decide)
  · exact h _ _ out hs hb (fun b o e => sortedAll_old e) (Nat.le_succ _) (sortedAll_at s.heap vs out.toArray)
theorem sorted_rwO {l : Addr} {vs : List Value} {k : Value → P2} {Q : Value → Shared → Prop} (hA : A.units + 64 < cLine) (hl : s.heap.IsList l vs.toArray) (hz : vs.length ≤ sizeLine) (hp : ∀ v ∈ vs, IsRw s.heap v (k v)) (hu : ∀ v ∈ vs, ∀ u ∈ vs, k v = k u → v = u)
    (h : ∀ (h' : Heap) (d : Addr) (out : List Value), Srtd (fun v u => ltP (k v) (k u)) out → Stb (fun v u => ltP (k v) (k u)) out vs → (∀ b o, s.heap.get? b = some o → h'.get? b = some o) → s.heap.objs.size ≤ d → (∃ n, h'.get? d = some (seqObj "list" out.toArray n)) → Q (.ref d) { s with heap := h' }) :
    wpAny (model prog w) A (call (.builtin "sorted") [.ref l]) Q E s := by
  refine sorted_ord (swo_byP k) hl hz (fun h2 h₁ a ha kk => ?_) fun out hs hb => ?_
  · refine rw_sortable (s := { s with heap := h₁ }) (by show A.units + 1 + 1 + 1 < cLine; omega) (by omega) (fun v hm => (hp v hm).keeps fun b o e _ => (kk b o e).2) hu fun o e => ?_
    have e' : some o = some (seqObj "list" vs.toArray 0) := e.symm.trans ha
    cases e'
    intro c
    exact absurd (Value.type.inj c) (by decide)
  · exact h _ _ out hs hb (fun b o e => sortedAll_old e) (Nat.le_succ _) (sortedAll_at s.heap vs out.toArray)
end
end SrtP
namespace L2
open PySem PySem.Spec PyProof.Rows
/-- sorted(xs), xs a list of pairs of texts: a new list, ascending -/
def rSortedPr (K : PySem.W.Frag) : List V → Hp → VK → Prop := fun vs H Q => ∃ (a : Addr) (xs : List V) (k : V → Str × Str), vs = [V.ref a] ∧ SqL K H a xs ∧ (∀ x ∈ xs, ∃ t, x = V.ref t ∧ SqT K H t [V.str (k x).1, V.str (k x).2]) ∧
  ∀ ys p, ys.Perm xs → ys.Pairwise (fun x y => SrtP.ltP (k y) (k x) = false) → H p = none → Q (.ref p) (upd H p (.lst ys))
/-- sorted(xs), xs a list of tuples with such a pair first, none twice -/
def rSortedRw (K : PySem.W.Frag) : List V → Hp → VK → Prop := fun vs H Q => ∃ (a : Addr) (xs : List V) (k : V → Str × Str), vs = [V.ref a] ∧ SqL K H a xs ∧ (∀ x ∈ xs, ∃ t f r, x = V.ref t ∧ SqT K H t (V.ref f :: r) ∧ SqT K H f [V.str (k x).1, V.str (k x).2]) ∧ (∀ x ∈ xs, ∀ y ∈ xs, k x = k y → x = y) ∧
  ∀ ys p, ys.Perm xs → ys.Pairwise (fun x y => SrtP.ltP (k y) (k x) = false) → H p = none → Q (.ref p) (upd H p (.lst ys))
section
variable {X : Cx}
theorem pr_inv {pins σ H s} (I : Inv X pins σ H s) {t : Addr} {x : Str × Str} (ht : SqT X.K H t [V.str x.1, V.str x.2]) : SrtP.IsPr s.heap (.ref t) x := by
  obtain ⟨its2, r2, ⟨o, ho, hc, n, hd⟩, _⟩ := I.tuple ht
  cases r2 with
  | cons h1 h2 =>
    cases h2 with
    | cons h3 h4 =>
      cases h4
      obtain ⟨t1, rfl⟩ := h1
      obtain ⟨t2, rfl⟩ := h3
      exact ⟨t, o, t1, t2, n, rfl, ho, hc, hd⟩
theorem cr_sortedPr : CallR X (.builtin "sorted") (rSortedPr X.K) := by
  intro pins s σ H vs us Q I r h
  obtain ⟨a, xs, k, rfl, hs, hx, q⟩ := h
  obtain ⟨its, rv, hl, hz⟩ := I.list hs
  obtain ⟨u, rfl, ru⟩ := vals1 r
  obtain rfl : u = Value.ref a := ru
  obtain ⟨e1, e2⟩ := refs_back rv fun x m => by
    obtain ⟨t, e, _⟩ := hx x m
    exact ⟨t, e⟩
  refine SrtP.sorted_prO (k := fun u => k (backV u)) hl.isList (by rw [← rv.length]; exact hz) (fun v hv => ?_) fun h' d out h1 h2 kp hd hn => ?_
  · obtain ⟨t, rfl⟩ := e2 v hv
    have hm : V.ref t ∈ xs := by rw [e1]; exact List.mem_map.mpr ⟨_, hv, rfl⟩
    obtain ⟨t', e, ht⟩ := hx _ hm
    cases e
    exact pr_inv I ht
  · have h3 : ∀ u ∈ out, ∃ a, u = Value.ref a := fun u hu => e2 u (h2.perm.mem_iff.mp hu)
    obtain ⟨n, hn⟩ := hn
    have hb : SrtO.Stb (fun x y => SrtP.ltP (k x) (k y)) (out.map backV) xs := by
      rw [e1]
      exact SrtO.Stb.map (SrtP.swo_byP k) backV h2
    refine ⟨.ref d, upd H d (.lst (out.map backV)), I.laid (t' := s.toks) kp hd ⟨?_, out, n, vals_back h3, hn⟩, rfl, q _ d hb.perm (SrtO.srtd_map h1) (I.hok.fresh hd)⟩
    rw [hb.len]
    exact hz
theorem cr_sortedRw (hu64 : X.A.units + 64 < cLine) : CallR X (.builtin "sorted") (rSortedRw X.K) := by
  intro pins s σ H vs us Q I r h
  obtain ⟨a, xs, k, rfl, hs, hx, hu, q⟩ := h
  obtain ⟨its, rv, hl, hz⟩ := I.list hs
  obtain ⟨u, rfl, ru⟩ := vals1 r
  obtain rfl : u = Value.ref a := ru
  obtain ⟨e1, e2⟩ := refs_back rv fun x m => by
    obtain ⟨t, _, _, e, _⟩ := hx x m
    exact ⟨t, e⟩
  refine SrtP.sorted_rwO (k := fun u => k (backV u)) hu64 hl.isList (by rw [← rv.length]; exact hz) (fun v hv => ?_) (fun v hv u hu2 e => ?_) fun h' d out h1 h2 kp hd hn => ?_
  · obtain ⟨t, rfl⟩ := e2 v hv
    have hm : V.ref t ∈ xs := by rw [e1]; exact List.mem_map.mpr ⟨_, hv, rfl⟩
    obtain ⟨t', f, r', e, ht, hf⟩ := hx _ hm
    cases e
    obtain ⟨its2, r2, ⟨o, ho, hc, n, hd⟩, _⟩ := I.tuple ht
    cases r2 with
    | cons h1 h2 =>
      obtain rfl := h1
      exact ⟨t, o, _, _, n, rfl, ho, hc, hd, pr_inv I hf⟩
  · obtain ⟨t, rfl⟩ := e2 v hv
    obtain ⟨t', rfl⟩ := e2 u hu2
    have hm : V.ref t ∈ xs := by rw [e1]; exact List.mem_map.mpr ⟨_, hv, rfl⟩
    have hm' : V.ref t' ∈ xs := by rw [e1]; exact List.mem_map.mpr ⟨_, hu2, rfl⟩
    cases hu _ hm _ hm' e
    rfl
  · have h3 : ∀ u ∈ out, ∃ a, u = Value.ref a := fun u hu => e2 u (h2.perm.mem_iff.mp hu)
    obtain ⟨n, hn⟩ := hn
    have hb : SrtO.Stb (fun x y => SrtP.ltP (k x) (k y)) (out.map backV) xs := by
      rw [e1]
      exact SrtO.Stb.map (SrtP.swo_byP k) backV h2
    refine ⟨.ref d, upd H d (.lst (out.map backV)), I.laid (t' := s.toks) kp hd ⟨?_, out, n, vals_back h3, hn⟩, rfl, q _ d hb.perm (SrtO.srtd_map h1) (I.hok.fresh hd)⟩
    rw [hb.len]
    exact hz
end
end L2
end
section
set_option Elab.async false
set_option linter.all false
set_option maxRecDepth 100000
set_option maxHeartbeats 4000000
namespace K13
open PySem PySem.Spec PyProof.Rows L2
/-! ### the law's own net -/
/-- a world: its streets and gates -/
structure Wn (H : Hp) (W ls lg : Addr) (ts : List (Addr × S5)) (gs : List Str) : Prop where
  at_ : ∃ r, H W = some (.lst (.ref ls :: .ref lg :: r))
  s : Sts H ls ts
  g : Ws H lg gs
theorem Wn.keep {H H' : Hp} {W ls lg : Addr} {ts : List (Addr × S5)} {gs : List Str} (h : Wn H W ls lg ts gs) (s : Same H H') : Wn H' W ls lg ts gs := by
  obtain ⟨⟨r, h1⟩, h2, h3⟩ := h
  exact ⟨⟨r, s _ _ h1⟩, h2.keep s, s _ _ h3⟩
theorem WoP.wn {H : Hp} {p W ls lg lc ln : Addr} {ts : List (Addr × S5)} {gs cs ns : List Str} (h : WoP H p W ls lg lc ln ts gs cs ns) : Wn H W ls lg ts gs := ⟨⟨_, h.at_⟩, h.wo.s, h.wo.g⟩
section
variable {P : Program} {w : World} {K : PySem.W.Frag} {mg : Str → Option Value} {base : Heap}
def spLPl (side : Str) : Sp := fun vs H Q _ => ∃ (x : Str) (W ls lg : Addr) (ts : List (Addr × S5)) (gs : List Str), vs = [.ref W, .str x] ∧ Wn H W ls lg ts gs ∧ ∀ a H', Same H H' → H a = none → PaAt H' a (place side gs x) → Q (.ref a) H'
theorem scLPl : FnScope ["_law_world_here", "_law_word_here"] ["_law_world_here", "_law_word_here"] (defScope sPlace) := ⟨rfl, rfl, rfl, by decide +kernel, rfl, by decide +kernel, by decide +kernel⟩
theorem scLIn : FnScope ["_law_world_here", "_law_word_here"] ["_law_world_here", "_law_word_here"] (defScope sInner) := ⟨rfl, rfl, rfl, by decide +kernel, rfl, by decide +kernel, by decide +kernel⟩
theorem ok_lpl {f : Addr} {fd : FuncData} (F : FnP K "_law_place" sPlace f fd) : FnOk P w K mg base CX0 1 f fd ["_law_world_here", "_law_word_here"] (spLPl "town") := by
  refine F.ok scLPl (fun vs H Q E h => ?_) (fun cdv A outer s H vs Q E hr h => ?_)
  · obtain ⟨_, _, _, _, _, _, rfl, _⟩ := h
    rfl
  · obtain ⟨x, W, ls, lg, ts, gs, rfl, hw, q⟩ := h
    have sl := sizeLine_eq
    have two : 2 ≤ sizeLine := by omega
    refine ⟨_, PSs.nox (pss_one (ps_ret (pe_ifExp (pt_cmpR op_in_seq (pv 1) (pe_ix ix_list (pv 0) pe_int (fun _ _ => rfl)) rfl) (pe_tup (pa_cons pe_str (pa_cons (pv 1) pa_nil))) (pe_tup (pa_cons pe_str (pa_cons (pv 1) pa_nil)))))), ?_⟩
    obtain ⟨⟨r, h0⟩, hs, hg⟩ := hw
    refine ⟨_, rfl, _, rfl, W, _, ((1 : Nat) : Int), _, rfl, rfl, SqL.of h0, atI_nat rfl, lg, gs.map V.str, rfl, Or.inl (SqL.of hg), rfl, flat_strs gs, _, rfl, ?_⟩
    rw [inV_str]
    by_cases hx : x ∈ gs
    · refine ifT (decide_eq_true hx) ⟨_, rfl, two, fun a na => ?_⟩
      exact q a _ (same_upd na) na (by show upd _ _ _ _ = _; rw [upd_same]; unfold place; rw [if_pos hx])
    · refine ifF (by rw [decide_eq_false hx]; decide) ⟨_, rfl, two, fun a na => ?_⟩
      exact q a _ (same_upd na) na (by show upd _ _ _ _ = _; rw [upd_same]; unfold place; rw [if_neg hx])
theorem ok_lin {f : Addr} {fd : FuncData} (F : FnP K "_law_inner" sInner f fd) : FnOk P w K mg base CX0 1 f fd ["_law_world_here", "_law_word_here"] (spLPl "quarter") := by
  refine F.ok scLIn (fun vs H Q E h => ?_) (fun cdv A outer s H vs Q E hr h => ?_)
  · obtain ⟨_, _, _, _, _, _, rfl, _⟩ := h
    rfl
  · obtain ⟨x, W, ls, lg, ts, gs, rfl, hw, q⟩ := h
    have sl := sizeLine_eq
    have two : 2 ≤ sizeLine := by omega
    refine ⟨_, PSs.nox (pss_one (ps_ret (pe_ifExp (pt_cmpR op_in_seq (pv 1) (pe_ix ix_list (pv 0) pe_int (fun _ _ => rfl)) rfl) (pe_tup (pa_cons pe_str (pa_cons (pv 1) pa_nil))) (pe_tup (pa_cons pe_str (pa_cons (pv 1) pa_nil)))))), ?_⟩
    obtain ⟨⟨r, h0⟩, hs, hg⟩ := hw
    refine ⟨_, rfl, _, rfl, W, _, ((1 : Nat) : Int), _, rfl, rfl, SqL.of h0, atI_nat rfl, lg, gs.map V.str, rfl, Or.inl (SqL.of hg), rfl, flat_strs gs, _, rfl, ?_⟩
    rw [inV_str]
    by_cases hx : x ∈ gs
    · refine ifT (decide_eq_true hx) ⟨_, rfl, two, fun a na => ?_⟩
      exact q a _ (same_upd na) na (by show upd _ _ _ _ = _; rw [upd_same]; unfold place; rw [if_pos hx])
    · refine ifF (by rw [decide_eq_false hx]; decide) ⟨_, rfl, two, fun a na => ?_⟩
      exact q a _ (same_upd na) na (by show upd _ _ _ _ = _; rw [upd_same]; unfold place; rw [if_neg hx])
/-! ### _law_net -/
abbrev AscN (rs : List NR) : Prop := rs.Pairwise fun x y => SrtP.ltP y.key x.key = false
def spLNet : Sp := fun vs H Q _ => ∃ (W ls lg t : Addr) (ts us : List (Addr × S5)) (gs : List Str), vs = [.ref W, .ref t] ∧ Wn H W ls lg ts gs ∧ Sts H t us ∧ ts.length ≤ 30 ∧ us.length ≤ 30 ∧ (nms (snds ts)).Nodup ∧ (nms (snds us)).Nodup ∧
  ∀ (D : Addr) (rs : List (Addr × NR)) H', Same H H' → H D = none → NL H' D rs → (nrs rs).Perm (netOf gs (snds ts) (snds us)) → AscN (nrs rs) → Q (.ref D) H'
abbrev NLn : List Str := ["_law_world_here", "_law_town_here", "_law_found", "_law_name", "_law_start", "_law_end", "_law_width_here", "_law_length_here"]
theorem scLn : FnScope NLn ["_law_world_here", "_law_town_here"] (defScope sNet) := ⟨rfl, rfl, rfl, by decide +kernel, rfl, by decide +kernel, by decide +kernel⟩
/-- the key of a row where it stands -/
noncomputable def keyAt (H : Hp) (v : V) : P2 := match v with
  | .ref r => match H r with
    | some (.tup (.ref k :: _)) => match H k with
      | some (.tup [.str a, .str b]) => (a, b)
      | _ => ("", "")
    | _ => ("", "")
  | _ => ("", "")
theorem keyAt_of {H : Hp} {r : Addr} {x : NR} (h : NAt H r x) : keyAt H (.ref r) = x.key := by
  obtain ⟨ak, as, ae, h1, h2, h3, h4⟩ := h
  unfold keyAt
  have h2 : H ak = some (.tup [.str x.key.1, .str x.key.2]) := h2
  simp only [h1, h2]
theorem net_key {gs : List Str} {ss us : List S5} (n1 : (nms ss).Nodup) (n2 : (nms us).Nodup) : ((netOf gs ss us).map NR.key).Nodup := by
  unfold netOf
  rw [List.map_append, List.map_map, List.map_map]
  have e1 : ss.map (NR.key ∘ netRow "quarter" gs) = (nms ss).map fun n => (("quarter" : Str), n) := by rw [nms, List.map_map]; rfl
  have e2 : us.map (NR.key ∘ netRow "town" gs) = (nms us).map fun n => (("town" : Str), n) := by rw [nms, List.map_map]; rfl
  rw [e1, e2]
  refine List.nodup_append.mpr ⟨List.Pairwise.map _ (fun a b hne e => hne (by cases e; rfl)) n1, List.Pairwise.map _ (fun a b hne e => hne (by cases e; rfl)) n2, fun a ha b hb e => ?_⟩
  obtain ⟨x, _, rfl⟩ := List.mem_map.mp ha
  obtain ⟨y, _, rfl⟩ := List.mem_map.mp hb
  exact absurd (congrArg Prod.fst e) (show ¬ ("quarter" : Str) = "town" by decide +kernel)
theorem map_inj {α β : Type} {f : α → β} {l : List α} (n : (l.map f).Nodup) {a b : α} (ha : a ∈ l) (hb : b ∈ l) (e : f a = f b) : a = b := by
  induction l with
  | nil => simp at ha
  | cons x l ih =>
    rw [List.map_cons, List.nodup_cons] at n
    rcases List.mem_cons.mp ha with rfl | ha'
    · rcases List.mem_cons.mp hb with rfl | hb'
      · rfl
      · exact absurd (List.mem_map.mpr ⟨b, hb', e.symm⟩) n.1
    · rcases List.mem_cons.mp hb with rfl | hb'
      · exact absurd (List.mem_map.mpr ⟨a, ha', e⟩) n.1
      · exact ih n.2 ha' hb'
/-- a row more -/
theorem nl_push {H : Hp} {D r : Addr} {rs : List (Addr × NR)} {x : NR} (hD : H D = some (.lst (rs.map fun t => V.ref t.1))) (he : ∀ t ∈ rs, NAt (del H D) t.1 t.2) (hx : NAt (del H D) r x) :
    upd H D (.lst ((rs.map fun t => V.ref t.1) ++ [V.ref r])) D = some (.lst ((rs ++ [(r, x)]).map fun t => V.ref t.1)) ∧ ∀ t ∈ rs ++ [(r, x)], NAt (del (upd H D (.lst ((rs.map fun t => V.ref t.1) ++ [V.ref r]))) D) t.1 t.2 := by
  refine ⟨by rw [upd_same, List.map_append]; rfl, fun t ht => ?_⟩
  rcases List.mem_append.mp ht with h | h
  · exact (he t h).keep del_upd
  · rw [List.mem_singleton.mp h]
    exact hx.keep del_upd
section
variable {f : Addr} {cdv : Value} {A : Around} {outer : List Env} {s : Shared} {Hl : Hp} {E : XK}
abbrev TLn (P : Program) (w : World) (K : PySem.W.Frag) (mg : Str → Option Value) (base : Heap) (f : Addr) (cdv : Value) (A : Around) (outer : List Env) (s : Shared) (Hl : Hp) (E : XK) : Cx := (cxOf CX0 P w K mg base NLn "_law_net" (defScope sNet) f cdv A outer s Hl E).nox
def lnB (j : Nat) : Stmt := (defBody sNet).getD j (.Pass ⟨0, 0, 0, 0⟩)
/-- rows so far -/
structure LnS (H : Hp) (D W ls lg t : Addr) (ts us : List (Addr × S5)) (gs : List Str) (rs : List (Addr × NR)) (done : List NR) : Prop where
  w : Wn H W ls lg ts gs
  t : Sts H t us
  d : H D = some (.lst (rs.map fun t => V.ref t.1))
  e : ∀ t ∈ rs, NAt (del H D) t.1 t.2
  n : nrs rs = done
/-- one row more -/
theorem ln_step {H : Hp} {D W ls lg t : Addr} {ts us : List (Addr × S5)} {gs : List Str} {rs : List (Addr × NR)} {done : List NR} (I : LnS H D W ls lg t ts us gs rs done) (nw : ∀ {a o}, H a = some o → (∃ xs, o = .tup xs) → a ≠ D)
    {H' : Hp} {r a1 a2 a3 : Addr} {x : NR} (sm : Same H H') (g0 : H' r = some (.tup [.ref a1, .ref a2, .ref a3, .int x.wd, .int x.ln])) (g1 : PaAt H' a1 x.key) (g2 : PaAt H' a2 x.st) (g3 : PaAt H' a3 x.en) (wW : W ≠ D) (wl : ls ≠ D) (wg : lg ≠ D) (wt : t ≠ D) :
    LnS (upd H' D (.lst ((rs.map fun t => V.ref t.1) ++ [V.ref r]))) D W ls lg t ts us gs (rs ++ [(r, x)]) (done ++ [x]) := by
  have hD := sm _ _ I.d
  have tn : ∀ {a xs}, H' a = some (.tup xs) → a ≠ D := fun {a xs} e z => by
    rw [z, hD] at e
    cases e
  have st : ∀ {l : Addr} {us : List (Addr × S5)}, Sts H l us → l ≠ D → Sts (upd H' D (.lst ((rs.map fun t => V.ref t.1) ++ [V.ref r]))) l us := fun {l us} h n => ⟨by rw [upd_ne n]; exact sm _ _ h.1, fun t ht => by
    have e := sm _ _ (h.2 t ht)
    rw [upd_ne (tn e)]
    exact e⟩
  obtain ⟨⟨q, w1⟩, w2, w3⟩ := I.w
  obtain ⟨p1, p2⟩ := nl_push (x := x) (r := r) hD (fun t ht => (I.e t ht).keep (del_keep sm)) ⟨a1, a2, a3, del_of g0 (tn g0), del_of g1 (tn g1), del_of g2 (tn g2), del_of g3 (tn g3)⟩
  exact ⟨⟨⟨q, by rw [upd_ne wW]; exact sm _ _ w1⟩, st w2 wl, by show upd _ _ _ _ = _; rw [upd_ne wg]; exact sm _ _ w3⟩, st I.t wt, p1, p2, by rw [nrs, List.map_append]; show nrs rs ++ _ = _; rw [I.n]; rfl⟩
def tLn1 (side : Str) (u : TS) : TS := fun Z σ H => ∃ (W ls lg t D : Addr) (ts us : List (Addr × S5)) (gs : List Str) (rs : List (Addr × NR)) (done : List NR) (o3 o4 o5 o6 o7 : Option V), σ = [some (.ref W), some (.ref t), some (.ref D), o3, o4, o5, o6, o7] ∧ LnS H D W ls lg t ts us gs rs done ∧ done.length ≤ 30 ∧ ts.length ≤ 30 ∧ us.length ≤ 30 ∧ W ≠ D ∧ ls ≠ D ∧ lg ≠ D ∧ t ≠ D ∧
  ∀ (rs : List (Addr × NR)) (o3 o4 o5 o6 o7 : Option V) H', (∀ b o, b ≠ D → H b = some o → H' b = some o) → LnS H' D W ls lg t ts us gs rs (done ++ ((if side = "quarter" then snds ts else snds us).map (netRow side gs))) → u Z [some (.ref W), some (.ref t), some (.ref D), o3, o4, o5, o6, o7] H'
theorem ln1 (GI : Fz P w K mg base "_law_inner" 1 ["_law_world_here", "_law_word_here"] (spLPl "quarter")) (hr : Room 1 (A.deeper (envOfC "_law_net" (defScope sNet) s.heap.objs.size f cdv))) {rest : List Stmt} {u : TS} (hu : PSs (TLn P w K mg base f cdv A outer s Hl E) rest u) :
    PSs (TLn P w K mg base f cdv A outer s Hl E) (lnB 1 :: rest) (tLn1 "quarter" u) := by
  refine weak (pss_cons (ps_for PassesOwn.never rfl (pi_list (pe_ix ix_list (pv 0) pe_int (fun _ _ => rfl))) (pg_tup rfl (pgs_cons (pg_name (i := 3) scLn.nd rfl (Or.inl rfl)) (pgs_cons (pg_name (i := 4) scLn.nd rfl (Or.inl rfl)) (pgs_cons (pg_name (i := 5) scLn.nd rfl (Or.inl rfl)) (pgs_cons (pg_name (i := 6) scLn.nd rfl (Or.inl rfl)) (pgs_cons (pg_name (i := 7) scLn.nd rfl (Or.inl rfl)) pgs_nil))))))
    (pss_one (ps_expr (pe_bm PySem.F.plainAttrs_list PySem.F.slot_list_append PySem.F.type_list_append mt_append (pv 2) (pa_cons (pe_tup (pa_cons (pe_tup (pa_cons pe_str (pa_cons (pv 3) pa_nil))) (pa_cons (pe_fz GI hr (by rfl) (pa_cons (pv 0) (pa_cons (pv 4) pa_nil))) (pa_cons (pe_fz GI hr (by rfl) (pa_cons (pv 0) (pa_cons (pv 5) pa_nil))) (pa_cons (pv 6) (pa_cons (pv 7) pa_nil)))))) pa_nil))))) hu) ?_
  rintro Z σ H ⟨W, ls, lg, t, D, ts, us, gs, rs, done, o3, o4, o5, o6, o7, rfl, I, d30, t30, u30, wW, wl, wg, wt, z⟩
  have sl := sizeLine_eq
  have two : 2 ≤ sizeLine := by omega
  have five : 5 ≤ sizeLine := by omega
  obtain ⟨q, h0⟩ := I.w.at_
  refine ⟨_, rfl, W, _, ((0 : Nat) : Int), _, rfl, rfl, SqL.of h0, atI_nat rfl, ls, rfl, ⟨_, SqL.of I.w.s.1⟩, ?_⟩
  refine for_list (K := K) (a := ls) (xs := ts.map fun t => V.ref t.1) (fun j σ H' => ∃ (rs : List (Addr × NR)) (o3 o4 o5 o6 o7 : Option V), σ = [some (.ref W), some (.ref t), some (.ref D), o3, o4, o5, o6, o7] ∧ (∀ b o, b ≠ D → H b = some o → H' b = some o) ∧ LnS H' D W ls lg t ts us gs rs (done ++ ((snds ts).take j).map (netRow "quarter" gs)))
    ⟨rs, _, _, _, _, _, rfl, fun b o _ e => e, by simpa using I⟩ (fun j σ H' _ h => by obtain ⟨_, _, _, _, _, _, _, _, J⟩ := h; exact SqL.of J.w.s.1) ?_ ?_
  · rintro j x σ H1 hj ⟨rs, o3, o4, o5, o6, o7, rfl, b1, J⟩
    obtain ⟨y, hy, rfl⟩ := at_map hj
    have jl := (List.getElem?_eq_some_iff.mp hy).1
    have hy1 := J.w.s.2 y (List.mem_of_getElem? hy)
    refine ⟨y.1, _, rfl, SqT.of hy1, rfl, _, _, rfl, _, _, rfl, _, _, rfl, _, _, rfl, _, _, rfl, rfl, ?_⟩
    refine ⟨_, rfl, Or.inl ⟨rfl, _, SqL.of J.d⟩, _, rfl, two, fun a1 m1 => ?_⟩
    have k1 := same_upd (o := .tup [V.str "quarter", V.str y.2.nm]) m1
    have g1 : PaAt (upd H1 a1 (.tup [V.str "quarter", V.str y.2.nm])) a1 ("quarter", y.2.nm) := upd_same
    generalize upd H1 a1 (.tup [V.str "quarter", V.str y.2.nm]) = H2 at k1 g1 ⊢
    refine ⟨_, rfl, _, rfl, y.2.st, W, ls, lg, ts, gs, rfl, J.w.keep k1, fun a2 H3 k2 m2 g2 => ?_⟩
    refine ⟨_, rfl, _, rfl, y.2.en, W, ls, lg, ts, gs, rfl, (J.w.keep k1).keep k2, fun a3 H4 k3 m3 g3 => ?_⟩
    refine ⟨_, rfl, _, rfl, five, fun r nr => ?_⟩
    have k4 := same_upd (o := .tup [V.ref a1, V.ref a2, V.ref a3, V.int y.2.wd, V.int y.2.ln]) nr
    have g0 : upd H4 r (.tup [V.ref a1, V.ref a2, V.ref a3, V.int y.2.wd, V.int y.2.ln]) r = some (.tup [V.ref a1, V.ref a2, V.ref a3, V.int y.2.wd, V.int y.2.ln]) := upd_same
    generalize upd H4 r (.tup [V.ref a1, V.ref a2, V.ref a3, V.int y.2.wd, V.int y.2.ln]) = H5 at k4 g0 ⊢
    have k14 := same_trans k1 (same_trans k2 (same_trans k3 k4))
    have lr : rs.length ≤ 60 := by
      have := congrArg List.length J.n
      rw [nrs, List.length_map, List.length_append, List.length_map, List.length_take] at this
      omega
    refine ⟨D, _, _, rfl, rfl, k14 _ _ J.d, by rw [List.length_map]; omega, ?_⟩
    have J2 := ln_step J (x := netRow "quarter" gs y.2) (fun e ⟨xs, e2⟩ z => by rw [z, J.d] at e; rw [e2] at e; cases e) k14 g0 (k4 _ _ (k3 _ _ (k2 _ _ g1))) (k4 _ _ (k3 _ _ g2)) (k4 _ _ g3) wW wl wg wt
    refine ⟨rs ++ [(r, netRow "quarter" gs y.2)], _, _, _, _, _, rfl, fun b o nb e => ?_, ?_⟩
    · rw [upd_ne nb]
      exact k14 _ _ (b1 _ _ nb e)
    · have et : ((snds ts).take (j + 1)).map (netRow "quarter" gs) = ((snds ts).take j).map (netRow "quarter" gs) ++ [netRow "quarter" gs y.2] := by
        have : (snds ts)[j]? = some y.2 := by rw [snds, List.getElem?_map, hy]; rfl
        rw [List.take_add_one, this, List.map_append]
        rfl
      rw [et, ← List.append_assoc]
      exact J2
  · rintro σ H1 ⟨rs, o3, o4, o5, o6, o7, rfl, b1, J⟩
    refine z rs _ _ _ _ _ H1 b1 ?_
    have e : (snds ts).take (ts.map fun t => V.ref t.1).length = snds ts := List.take_of_length_le (by rw [List.length_map, List.length_map]; exact Nat.le_refl _)
    rw [e] at J
    rw [if_pos rfl]
    exact J
theorem ln2 (GI : Fz P w K mg base "_law_place" 1 ["_law_world_here", "_law_word_here"] (spLPl "town")) (hr : Room 1 (A.deeper (envOfC "_law_net" (defScope sNet) s.heap.objs.size f cdv))) {rest : List Stmt} {u : TS} (hu : PSs (TLn P w K mg base f cdv A outer s Hl E) rest u) :
    PSs (TLn P w K mg base f cdv A outer s Hl E) (lnB 2 :: rest) (tLn1 "town" u) := by
  refine weak (pss_cons (ps_for PassesOwn.never rfl (pi_list (pv 1)) (pg_tup rfl (pgs_cons (pg_name (i := 3) scLn.nd rfl (Or.inl rfl)) (pgs_cons (pg_name (i := 4) scLn.nd rfl (Or.inl rfl)) (pgs_cons (pg_name (i := 5) scLn.nd rfl (Or.inl rfl)) (pgs_cons (pg_name (i := 6) scLn.nd rfl (Or.inl rfl)) (pgs_cons (pg_name (i := 7) scLn.nd rfl (Or.inl rfl)) pgs_nil))))))
    (pss_one (ps_expr (pe_bm PySem.F.plainAttrs_list PySem.F.slot_list_append PySem.F.type_list_append mt_append (pv 2) (pa_cons (pe_tup (pa_cons (pe_tup (pa_cons pe_str (pa_cons (pv 3) pa_nil))) (pa_cons (pe_fz GI hr (by rfl) (pa_cons (pv 0) (pa_cons (pv 4) pa_nil))) (pa_cons (pe_fz GI hr (by rfl) (pa_cons (pv 0) (pa_cons (pv 5) pa_nil))) (pa_cons (pv 6) (pa_cons (pv 7) pa_nil)))))) pa_nil))))) hu) ?_
  rintro Z σ H ⟨W, ls, lg, t, D, ts, us, gs, rs, done, o3, o4, o5, o6, o7, rfl, I, d30, t30, u30, wW, wl, wg, wt, z⟩
  have sl := sizeLine_eq
  have two : 2 ≤ sizeLine := by omega
  have five : 5 ≤ sizeLine := by omega
  obtain ⟨q, h0⟩ := I.w.at_
  refine ⟨_, rfl, t, rfl, ⟨_, SqL.of I.t.1⟩, ?_⟩
  refine for_list (K := K) (a := t) (xs := us.map fun t => V.ref t.1) (fun j σ H' => ∃ (rs : List (Addr × NR)) (o3 o4 o5 o6 o7 : Option V), σ = [some (.ref W), some (.ref t), some (.ref D), o3, o4, o5, o6, o7] ∧ (∀ b o, b ≠ D → H b = some o → H' b = some o) ∧ LnS H' D W ls lg t ts us gs rs (done ++ ((snds us).take j).map (netRow "town" gs)))
    ⟨rs, _, _, _, _, _, rfl, fun b o _ e => e, by simpa using I⟩ (fun j σ H' _ h => by obtain ⟨_, _, _, _, _, _, _, _, J⟩ := h; exact SqL.of J.t.1) ?_ ?_
  · rintro j x σ H1 hj ⟨rs, o3, o4, o5, o6, o7, rfl, b1, J⟩
    obtain ⟨y, hy, rfl⟩ := at_map hj
    have jl := (List.getElem?_eq_some_iff.mp hy).1
    have hy1 := J.t.2 y (List.mem_of_getElem? hy)
    refine ⟨y.1, _, rfl, SqT.of hy1, rfl, _, _, rfl, _, _, rfl, _, _, rfl, _, _, rfl, _, _, rfl, rfl, ?_⟩
    refine ⟨_, rfl, Or.inl ⟨rfl, _, SqL.of J.d⟩, _, rfl, two, fun a1 m1 => ?_⟩
    have k1 := same_upd (o := .tup [V.str "town", V.str y.2.nm]) m1
    have g1 : PaAt (upd H1 a1 (.tup [V.str "town", V.str y.2.nm])) a1 ("town", y.2.nm) := upd_same
    generalize upd H1 a1 (.tup [V.str "town", V.str y.2.nm]) = H2 at k1 g1 ⊢
    refine ⟨_, rfl, _, rfl, y.2.st, W, ls, lg, ts, gs, rfl, J.w.keep k1, fun a2 H3 k2 m2 g2 => ?_⟩
    refine ⟨_, rfl, _, rfl, y.2.en, W, ls, lg, ts, gs, rfl, (J.w.keep k1).keep k2, fun a3 H4 k3 m3 g3 => ?_⟩
    refine ⟨_, rfl, _, rfl, five, fun r nr => ?_⟩
    have k4 := same_upd (o := .tup [V.ref a1, V.ref a2, V.ref a3, V.int y.2.wd, V.int y.2.ln]) nr
    have g0 : upd H4 r (.tup [V.ref a1, V.ref a2, V.ref a3, V.int y.2.wd, V.int y.2.ln]) r = some (.tup [V.ref a1, V.ref a2, V.ref a3, V.int y.2.wd, V.int y.2.ln]) := upd_same
    generalize upd H4 r (.tup [V.ref a1, V.ref a2, V.ref a3, V.int y.2.wd, V.int y.2.ln]) = H5 at k4 g0 ⊢
    have k14 := same_trans k1 (same_trans k2 (same_trans k3 k4))
    have lr : rs.length ≤ 60 := by
      have := congrArg List.length J.n
      rw [nrs, List.length_map, List.length_append, List.length_map, List.length_take] at this
      omega
    refine ⟨D, _, _, rfl, rfl, k14 _ _ J.d, by rw [List.length_map]; omega, ?_⟩
    have J2 := ln_step J (x := netRow "town" gs y.2) (fun e ⟨xs, e2⟩ z => by rw [z, J.d] at e; rw [e2] at e; cases e) k14 g0 (k4 _ _ (k3 _ _ (k2 _ _ g1))) (k4 _ _ (k3 _ _ g2)) (k4 _ _ g3) wW wl wg wt
    refine ⟨rs ++ [(r, netRow "town" gs y.2)], _, _, _, _, _, rfl, fun b o nb e => ?_, ?_⟩
    · rw [upd_ne nb]
      exact k14 _ _ (b1 _ _ nb e)
    · have et : ((snds us).take (j + 1)).map (netRow "town" gs) = ((snds us).take j).map (netRow "town" gs) ++ [netRow "town" gs y.2] := by
        have : (snds us)[j]? = some y.2 := by rw [snds, List.getElem?_map, hy]; rfl
        rw [List.take_add_one, this, List.map_append]
        rfl
      rw [et, ← List.append_assoc]
      exact J2
  · rintro σ H1 ⟨rs, o3, o4, o5, o6, o7, rfl, b1, J⟩
    refine z rs _ _ _ _ _ H1 b1 ?_
    have e : (snds us).take (us.map fun t => V.ref t.1).length = snds us := List.take_of_length_le (by rw [List.length_map, List.length_map]; exact Nat.le_refl _)
    rw [e] at J
    rw [if_neg (show ¬ ("town" : Str) = "quarter" by decide +kernel)]
    exact J
end
theorem ok_lnet {f : Addr} {fd : FuncData} (F : FnP K "_law_net" sNet f fd) (GI : Fz P w K mg base "_law_inner" 1 ["_law_world_here", "_law_word_here"] (spLPl "quarter")) (GP : Fz P w K mg base "_law_place" 1 ["_law_world_here", "_law_word_here"] (spLPl "town")) (T : Tx K mg) : FnOk P w K mg base CX0 2 f fd ["_law_world_here", "_law_town_here"] spLNet := by
  refine F.ok scLn (fun vs H Q E h => ?_) (fun cdv A outer s H vs Q E hr h => ?_)
  · obtain ⟨_, _, _, _, _, _, _, rfl, _⟩ := h
    rfl
  · obtain ⟨W, ls, lg, t, ts, us, gs, rfl, hw, ht, t30, u30, n1, n2, z⟩ := h
    have gSo := T.fr "sorted" (by decide +kernel)
    have sl := sizeLine_eq
    have hu1 : (A.deeper (envOfC "_law_net" (defScope sNet) s.heap.objs.size f cdv)).units + 64 < cLine := by
      have := hr.un
      omega
    refine ⟨_, PSs.nox (pss_cons (ps_set (i := 2) scLn.nd rfl (Or.inl rfl) (pe_lst pa_nil)) (ln1 GI hr (ln2 GP hr (pss_one (ps_ret (pe_callB (cr_sortedRw hu1) (by rfl) gSo (by decide +kernel) (pa_cons (pv 2) pa_nil))))))), ?_⟩
    refine ⟨(by show 0 ≤ sizeLine; omega), fun D nD => ?_⟩
    have s1 := same_upd (o := .lst []) nD
    have hD : upd H D (.lst []) D = some (.lst []) := upd_same
    obtain ⟨r, h0⟩ := hw.at_
    have wW : W ≠ D := ne_of_none h0 nD
    have wl : ls ≠ D := ne_of_none hw.s.1 nD
    have wg : lg ≠ D := ne_of_none hw.g nD
    have wt : t ≠ D := ne_of_none ht.1 nD
    have I1 : LnS (upd H D (.lst [])) D W ls lg t ts us gs [] [] := ⟨hw.keep s1, ht.keep s1, hD, fun t h => by simp at h, rfl⟩
    generalize upd H D (.lst []) = H1 at s1 I1 ⊢
    refine ⟨W, ls, lg, t, D, ts, us, gs, [], [], _, _, _, _, _, rfl, I1, by simp, t30, u30, wW, wl, wg, wt, fun rs o3 o4 o5 o6 o7 H2 b2 I2 => ?_⟩
    rw [if_pos rfl, List.nil_append] at I2
    refine ⟨W, ls, lg, t, D, ts, us, gs, rs, _, _, _, _, _, _, rfl, I2, by rw [List.length_map, snds, List.length_map]; exact t30, t30, u30, wW, wl, wg, wt, fun rs o3 o4 o5 o6 o7 H3 b3 I3 => ?_⟩
    rw [if_neg (show ¬ ("town" : Str) = "quarter" by decide +kernel)] at I3
    have en : nrs rs = netOf gs (snds ts) (snds us) := I3.n
    have each : ∀ t ∈ rs, NAt H3 t.1 t.2 := fun t h => (I3.e t h).keep del_same
    have kn : (rs.map fun t => t.2.key).Nodup := by
      have := net_key (gs := gs) n1 n2
      rw [← en, nrs, List.map_map] at this
      exact this
    have hk : ∀ t ∈ rs, keyAt H3 (.ref t.1) = t.2.key := fun t h => keyAt_of (each t h)
    refine ⟨_, rfl, D, _, keyAt H3, rfl, SqL.of I3.d, fun x hx => ?_, fun x hx y hy e => ?_, fun ys p pm pw np => ?_⟩
    · obtain ⟨t, ht, rfl⟩ := List.mem_map.mp hx
      rw [hk t ht]
      obtain ⟨ak, as, ae, h1, h2, h3, h4⟩ := each t ht
      exact ⟨t.1, ak, _, rfl, SqT.of h1, SqT.of h2⟩
    · obtain ⟨t, ht, rfl⟩ := List.mem_map.mp hx
      obtain ⟨t', ht', rfl⟩ := List.mem_map.mp hy
      rw [hk t ht, hk t' ht'] at e
      rw [map_inj kn ht ht' e]
    · obtain ⟨rs', pr, rfl⟩ := perm_map_inv pm rs rfl
      have s3 := same_upd (o := .lst (rs'.map fun t => V.ref t.1)) np
      have sm : Same H (upd H3 p (.lst (rs'.map fun t => V.ref t.1))) := fun b o e => s3 _ _ (b3 _ _ (ne_of_none e nD) (b2 _ _ (ne_of_none e nD) (s1 _ _ e)))
      have fp : H p = none := by
        cases e : H p with
        | none => rfl
        | some o =>
          have := b3 _ _ (ne_of_none e nD) (b2 _ _ (ne_of_none e nD) (s1 _ _ e))
          rw [this] at np
          cases np
      refine z p rs' _ sm fp ⟨upd_same, fun t h => (each t (pr.mem_iff.mp h)).keep s3⟩ ?_ ?_
      · rw [← en]
        exact pr.map _
      · have h1 := List.pairwise_map.mp pw
        refine List.pairwise_map.mpr (h1.imp_of_mem fun {a b} ha hb h => ?_)
        rwa [hk a (pr.mem_iff.mp ha), hk b (pr.mem_iff.mp hb)] at h
end
end K13
end
section
set_option Elab.async false
set_option linter.all false
set_option maxRecDepth 100000
set_option maxHeartbeats 4000000
namespace K13
open PySem PySem.Spec PyProof.Rows L2
/-! ### pairs of words -/
def WdP (x : P2) : Prop := Wd x.1 ∧ Wd x.2
def prD (x : P2) : PyData := .tuple [.str x.1, .str x.2]
theorem wd_gate : Wd "gate" := by unfold Wd; decide +kernel
theorem wd_town : Wd "town" := by unfold Wd; decide +kernel
theorem wd_quarter : Wd "quarter" := by unfold Wd; decide +kernel
theorem place_wd {side : Str} {gs : List Str} {x : Str} (hs : Wd side) (hx : Wd x) : WdP (place side gs x) := by
  unfold place
  split
  · exact ⟨wd_gate, hx⟩
  · exact ⟨hs, hx⟩
theorem prD_shaped {x : P2} (h : WdP x) : SeqAt.shaped (prD x) = true := by
  have e1 : PyData.canLay0 (prD x) = true := by simp [prD, PyData.canLay0, PyData.canLayAll0, wd_ok h.1, wd_ok h.2]
  have e2 : PyData.depth (prD x) ≤ 64 := by simp [prD, PyData.depth, PyData.depthAll]
  unfold SeqAt.shaped
  rw [e1, decide_eq_true e2]
  rfl
theorem prs_lay : ∀ {xs : List P2}, (∀ x ∈ xs, WdP x) → PyData.canLayAll0 (xs.map prD) = true
  | [], _ => rfl
  | x :: xs, h => by
    have ih := prs_lay fun y hy => h y (List.mem_cons_of_mem x hy)
    have hx := h x List.mem_cons_self
    simp [PyData.canLayAll0, PyData.canLay0, prD, ih, wd_ok hx.1, wd_ok hx.2]
theorem prs_depth : ∀ xs : List P2, PyData.depthAll (xs.map prD) ≤ 2
  | [] => Nat.zero_le _
  | x :: xs => by
    have ih := prs_depth xs
    show max (PyData.depth (prD x)) (PyData.depthAll (xs.map prD)) ≤ 2
    refine Nat.max_le.mpr ⟨?_, ih⟩
    simp [prD, PyData.depth, PyData.depthAll]
theorem prs_shaped {xs : List P2} (h : ∀ x ∈ xs, WdP x) : SeqAt.shaped (.list (xs.map prD)) = true := by
  have e1 : PyData.canLay0 (.list (xs.map prD)) = true := prs_lay h
  have e2 : PyData.depth (.list (xs.map prD)) ≤ 64 := by
    have := prs_depth xs
    rw [PyData.depth]
    omega
  unfold SeqAt.shaped
  rw [e1, decide_eq_true e2]
  rfl
theorem eqv_pr (x y : P2) : PyData.eqv (prD x) (prD y) = decide (x = y) := by
  simp only [prD, PyData.eqv, PyData.eqvAll]
  by_cases h : x = y
  · rw [h]
    simp
  · rw [decide_eq_false h]
    have : ¬ (x.1 = y.1 ∧ x.2 = y.2) := fun z => h (Prod.ext z.1 z.2)
    simpa using this
theorem any_pr (xs : List P2) (x : P2) : ((xs.map prD).any fun z => PyData.eqv z (prD x)) = decide (x ∈ xs) := by
  induction xs with
  | nil => simp
  | cons y ys ih =>
    rw [List.map_cons, List.any_cons, ih, eqv_pr]
    by_cases h : x = y
    · subst h
      simp
    · have h' : ¬ y = x := fun e => h e.symm
      simp [h, h']
/-- a list of pairs -/
structure PL (H : Hp) (l : Addr) (ps : List (Addr × P2)) : Prop where
  at_ : H l = some (.lst (ps.map fun t => V.ref t.1))
  each : ∀ t ∈ ps, PaAt H t.1 t.2
abbrev prs (ps : List (Addr × P2)) : List P2 := ps.map fun t => t.2
theorem PL.keep {H H' : Hp} {l : Addr} {ps : List (Addr × P2)} (h : PL H l ps) (s : Same H H') : PL H' l ps := ⟨s _ _ h.at_, fun t ht => s _ _ (h.each t ht)⟩
theorem dp_pr {K : PySem.W.Frag} {H : Hp} {a : Addr} {x : P2} (h : PaAt H a x) : Dp K H (.ref a) (prD x) := .tup (SqT.of h) (.cons (.str _) (.cons (.str _) .nil))
theorem dp_prsA {K : PySem.W.Frag} {H : Hp} : ∀ {ps : List (Addr × P2)}, (∀ t ∈ ps, PaAt H t.1 t.2) → DpAll K H (ps.map fun t => V.ref t.1) ((prs ps).map prD)
  | [], _ => .nil
  | t :: ps, h => .cons (dp_pr (h t List.mem_cons_self)) (dp_prsA fun u hu => h u (List.mem_cons_of_mem _ hu))
theorem PL.dp {K : PySem.W.Frag} {H : Hp} {l : Addr} {ps : List (Addr × P2)} (h : PL H l ps) : Dp K H (.ref l) (.list ((prs ps).map prD)) := .lst (SqL.of h.at_) (dp_prsA h.each)
abbrev AscP (ps : List P2) : Prop := ps.Pairwise fun x y => SrtP.ltP y x = false
theorem ltP_anti {x y : P2} (h1 : SrtP.ltP x y = false) (h2 : SrtP.ltP y x = false) : x = y := by
  unfold SrtP.ltP at h1 h2
  by_cases e : x.1 = y.1
  · rw [if_pos e] at h1
    rw [if_pos e.symm] at h2
    exact Prod.ext e (SrtP.ltS_anti h1 h2)
  · rw [if_neg e] at h1
    rw [if_neg fun z => e z.symm] at h2
    exact absurd (SrtP.ltS_anti h1 h2) e
theorem ascP_uniq {us vs : List P2} (p : us.Perm vs) (h1 : AscP us) (h2 : AscP vs) : us = vs := perm_sorted (fun _ _ _ _ a b => ltP_anti b a) p h1 h2
theorem ascP_ext {us vs : List P2} (n1 : us.Nodup) (n2 : vs.Nodup) (h : ∀ x, x ∈ us ↔ x ∈ vs) (h1 : AscP us) (h2 : AscP vs) : us = vs := ascP_uniq (perm_of_mem n1 n2 h) h1 h2
theorem ascN_uniq {us vs : List NR} (n : (us.map NR.key).Nodup) (p : us.Perm vs) (h1 : AscN us) (h2 : AscN vs) : us = vs := perm_sorted (fun x hx y hy a b => map_inj n hx hy (ltP_anti b a)) p h1 h2
/-- the net of what is ascending is ascending -/
theorem netOf_asc {gs : List Str} {ss us : List S5} (h1 : Asc5 ss) (h2 : Asc5 us) : AscN (netOf gs ss us) := by
  unfold netOf
  refine List.pairwise_append.mpr ⟨List.pairwise_map.mpr (h1.imp fun {a b} h => ?_), List.pairwise_map.mpr (h2.imp fun {a b} h => ?_), fun a ha b hb => ?_⟩
  · show SrtP.ltP ("quarter", b.nm) ("quarter", a.nm) = false
    unfold SrtP.ltP
    rw [if_pos rfl]
    exact h
  · show SrtP.ltP ("town", b.nm) ("town", a.nm) = false
    unfold SrtP.ltP
    rw [if_pos rfl]
    exact h
  · obtain ⟨x, _, rfl⟩ := List.mem_map.mp ha
    obtain ⟨y, _, rfl⟩ := List.mem_map.mp hb
    show SrtP.ltP ("town", y.nm) ("quarter", x.nm) = false
    unfold SrtP.ltP
    rw [if_neg (show ¬ ("town" : Str) = "quarter" by decide +kernel)]
    show decide _ = false
    exact decide_eq_false (show ¬ ("town" : Str).cps.toList < ("quarter" : Str).cps.toList by decide +kernel)
theorem netOf_perm {gs : List Str} {ss ss' us us' : List S5} (p : ss.Perm ss') (q : us.Perm us') : (netOf gs ss us).Perm (netOf gs ss' us') := (p.map _).append (q.map _)
theorem place_mem {gs gs' : List Str} (h : ∀ x, x ∈ gs ↔ x ∈ gs') (side x : Str) : place side gs x = place side gs' x := by
  unfold place
  by_cases e : x ∈ gs
  · rw [if_pos e, if_pos ((h x).mp e)]
  · rw [if_neg e, if_neg fun z => e ((h x).mpr z)]
theorem netOf_gs {gs gs' : List Str} (h : ∀ x, x ∈ gs ↔ x ∈ gs') (ss us : List S5) : netOf gs ss us = netOf gs' ss us := by
  have e : ∀ side, netRow side gs = netRow side gs' := fun side => funext fun s => by simp only [netRow, place_mem h]
  unfold netOf
  rw [e, e]
end K13
end
section
set_option Elab.async false
set_option linter.all false
set_option maxRecDepth 100000
set_option maxHeartbeats 4000000
namespace K13
open PySem PySem.Spec PyProof.Rows L2
/-- a row of a table: a length, and the way's keys -/
def rRow : Hp → Int × List P2 → V → Prop := fun H a y => ∃ (r l : Addr) (ps : List (Addr × P2)), y = .ref r ∧ H r = some (.tup [.int a.1, .ref l]) ∧ PL H l ps ∧ prs ps = a.2
theorem stay_row : Stay rRow := by
  intro H H' D kvs a y hD b h
  obtain ⟨r, l, ps, rfl, h1, h2, h3⟩ := h
  have k : ∀ {x o}, H x = some o → (∀ q, o ≠ .dT q) → H' x = some o := fun {x o} e n => b x o (fun z => by rw [z, hD] at e; exact n kvs (Option.some.inj e).symm) e
  exact ⟨r, l, ps, rfl, k h1 (fun q z => by cases z), ⟨k h2.at_ (fun q z => by cases z), fun t ht => k (h2.each t ht) (fun q z => by cases z)⟩, h3⟩
theorem rRow.keep {H H' : Hp} {a : Int × List P2} {y : V} (h : rRow H a y) (s : Same H H') : rRow H' a y := by
  obtain ⟨r, l, ps, rfl, h1, h2, h3⟩ := h
  exact ⟨r, l, ps, rfl, s _ _ h1, h2.keep s, h3⟩
abbrev RowD (H : Hp) (D : Addr) (M : P2 → Option (Int × List P2)) (c : Nat) : Prop := DicD rRow H D M c
section
variable {P : Program} {w : World} {K : PySem.W.Frag} {mg : Str → Option Value} {base : Heap}
/-! ### _is_better -/
def spBetter : Sp := fun vs H Q _ => ∃ (x y : V) (a b : Int × List P2), vs = [x, y] ∧ rRow H a x ∧ rRow H b y ∧ a.2.length ≤ 10000 ∧ b.2.length ≤ 10000 ∧ ∀ H', Same H H' → Q (.bl (!cRow.le b a)) H'
theorem scBt : FnScope ["row", "other"] ["row", "other"] (defScope sBetter) := ⟨rfl, rfl, rfl, by decide +kernel, rfl, by decide +kernel, by decide +kernel⟩
theorem ok_better {f : Addr} {fd : FuncData} (F : FnP K "_is_better" sBetter f fd) (T : Tx K mg) : FnOk P w K mg base CX0 1 f fd ["row", "other"] spBetter := by
  refine F.ok scBt (fun vs H Q E h => ?_) (fun cdv A outer s H vs Q E hr h => ?_)
  · obtain ⟨_, _, _, _, rfl, _⟩ := h
    rfl
  · obtain ⟨_, _, a, b, rfl, ⟨r, l, ps, rfl, h1, h2, h3⟩, ⟨r', l', ps', rfl, k1, k2, k3⟩, al, bl, z⟩ := h
    have sl := sizeLine_eq
    have two : 2 ≤ sizeLine := by omega
    have gL := T.fr "len" (by decide +kernel)
    have la : ps.length = a.2.length := by rw [← h3, List.length_map]
    have lb : ps'.length = b.2.length := by rw [← k3, List.length_map]
    refine ⟨_, PSs.nox (pss_one (ps_ret (pe_cmpR (op_ltT hr.units0) (pe_tup (pa_cons (pe_ix ix_tup (pv 0) pe_int (fun _ _ => rfl)) (pa_cons (pe_callB call_len_seq (by rfl) gL PySem.boot_len (pa_cons (pe_ix ix_tup (pv 0) pe_int (fun _ _ => rfl)) pa_nil)) pa_nil)))
      (pe_tup (pa_cons (pe_ix ix_tup (pv 1) pe_int (fun _ _ => rfl)) (pa_cons (pe_callB call_len_seq (by rfl) gL PySem.boot_len (pa_cons (pe_ix ix_tup (pv 1) pe_int (fun _ _ => rfl)) pa_nil)) pa_nil))) (nomark _)))), ?_⟩
    refine ⟨_, rfl, r, _, ((0 : Nat) : Int), _, rfl, rfl, SqT.of h1, atI_nat rfl, _, rfl, r, _, ((1 : Nat) : Int), _, rfl, rfl, SqT.of h1, atI_nat rfl, l, _, rfl, Or.inl (SqL.of h2.at_), two, fun t1 n1 => ?_⟩
    have s1 := same_upd (o := .tup [V.int a.1, V.int ((ps.map fun t => V.ref t.1).length : Int)]) n1
    have g1 : upd H t1 (.tup [V.int a.1, V.int ((ps.map fun t => V.ref t.1).length : Int)]) t1 = some (.tup ([a.1, ((ps.map fun t => V.ref t.1).length : Int)].map V.int)) := upd_same
    generalize upd H t1 (.tup [V.int a.1, V.int ((ps.map fun t => V.ref t.1).length : Int)]) = H1 at s1 g1 ⊢
    refine ⟨_, rfl, r', _, ((0 : Nat) : Int), _, rfl, rfl, SqT.of (s1 _ _ k1), atI_nat rfl, _, rfl, r', _, ((1 : Nat) : Int), _, rfl, rfl, SqT.of (s1 _ _ k1), atI_nat rfl, l', _, rfl, Or.inl (SqL.of (s1 _ _ k2.at_)), two, fun t2 n2 => ?_⟩
    have s2 := same_upd (o := .tup [V.int b.1, V.int ((ps'.map fun t => V.ref t.1).length : Int)]) n2
    have g2 : upd H1 t2 (.tup [V.int b.1, V.int ((ps'.map fun t => V.ref t.1).length : Int)]) t2 = some (.tup ([b.1, ((ps'.map fun t => V.ref t.1).length : Int)].map V.int)) := upd_same
    generalize upd H1 t2 (.tup [V.int b.1, V.int ((ps'.map fun t => V.ref t.1).length : Int)]) = H2 at s2 g2 ⊢
    refine ⟨t1, t2, _, _, rfl, rfl, SqT.of (s2 _ _ g1), SqT.of g2, ?_⟩
    have e : HT.lexLt [a.1, ((ps.map fun t => V.ref t.1).length : Int)] [b.1, ((ps'.map fun t => V.ref t.1).length : Int)] = !cRow.le b a := by
      rw [HT.lexLt_cons, HT.lexLt_cons, HT.lexLt_nil_nil, List.length_map, List.length_map, la, lb]
      show _ = !decide (b.1 < a.1 ∨ (b.1 = a.1 ∧ b.2.length ≤ a.2.length))
      by_cases q : a.1 = b.1
      · rw [if_pos q]
        by_cases q2 : (a.2.length : Int) = b.2.length
        · rw [if_pos q2]
          simp
          omega
        · rw [if_neg q2]
          by_cases q3 : (a.2.length : Int) < b.2.length
          · rw [decide_eq_true q3]
            simp
            omega
          · rw [decide_eq_false q3]
            simp
            omega
      · rw [if_neg q]
        by_cases q3 : a.1 < b.1
        · rw [decide_eq_true q3]
          simp
          omega
        · rw [decide_eq_false q3]
          simp
          omega
    rw [e]
    exact z _ (same_trans s1 s2)
end
end K13
end
section
set_option Elab.async false
set_option linter.all false
set_option maxRecDepth 100000
set_option maxHeartbeats 4000000
namespace K13
open PySem PySem.Spec PyProof.Rows L2
section
variable {P : Program} {w : World} {K : PySem.W.Frag} {mg : Str → Option Value} {base : Heap}
/-! ### _law_far -/
/-- rows of a net that can be walked by lengths -/
structure Ned (N : List NR) : Prop where
  ln : ∀ e ∈ N, 0 ≤ e.ln
  wd : ∀ e ∈ N, 0 ≤ e.wd
def spFar : Sp := fun vs H Q _ => ∃ (l a : Addr) (rs : List (Addr × NR)) (s : P2), vs = [.ref l, .ref a] ∧ NL H l rs ∧ rs.length ≤ 60 ∧ (∀ e ∈ nrs rs, 0 ≤ e.ln) ∧ PaAt H a s ∧
  ∀ (D : Addr) (F : P2 → Option Int) H', Same H H' → H D = none → FarD H' D F 4000 → IsD (nrs rs) s F → Q (.ref D) H'
abbrev NFr : List Str := ["_law_net_here", "_law_start", "_law_least", "_law_turn", "_law_key", "_law_begin", "_law_end", "_law_width_here", "_law_length_here"]
theorem scFr : FnScope NFr ["_law_net_here", "_law_start"] (defScope sFar) := ⟨rfl, rfl, rfl, by decide +kernel, rfl, by decide +kernel, by decide +kernel⟩
def FrSt (l a D : Addr) (H : Hp) (M : P2 → Option Int) (c : Nat) (σ : L2.St) (H' : Hp) : Prop := ∃ o3 o4 o5 o6 o7 o8 : Option V, σ = [some (.ref l), some (.ref a), some (.ref D), o3, o4, o5, o6, o7, o8] ∧ Same H H' ∧ FarD H' D M c
theorem ok_far {f : Addr} {fd : FuncData} (F : FnP K "_law_far" sFar f fd) (T : Tx K mg) : FnOk P w K mg base CX0 1 f fd ["_law_net_here", "_law_start"] spFar := by
  refine F.ok scFr (fun vs H Q E h => ?_) (fun cdv A outer s H vs Q E hr h => ?_)
  · obtain ⟨_, _, _, _, rfl, _⟩ := h
    rfl
  · obtain ⟨l, a, rs, s0, rfl, hl, l60, hn, ha, z⟩ := h
    have sl := sizeLine_eq
    have gR := T.fr "range" (by decide +kernel)
    have gL := T.fr "len" (by decide +kernel)
    have hu1 := hr.units
    have u1 : (A.deeper (envOfC "_law_far" (defScope sFar) s.heap.objs.size f cdv)).units + 1 < cLine := by omega
    refine ⟨_, PSs.nox (pss_cons (ps_set (i := 2) scFr.nd rfl (Or.inl rfl) (pe_disp1T hr.units0 (pv 1) pe_int))
      (pss_cons (ps_for PassesOwn.never rfl (pi_range1 rfl gR (pa_cons (pe_op op_add (pe_callB call_len_seq (by rfl) gL PySem.boot_len (pa_cons (pv 0) pa_nil)) pe_int) pa_nil)) (pg_name (i := 3) scFr.nd rfl (Or.inl rfl))
        (pss_one (ps_for PassesOwn.never rfl (pi_list (pv 0)) (pg_tup rfl (pgs_cons (pg_name (i := 4) scFr.nd rfl (Or.inl rfl)) (pgs_cons (pg_name (i := 5) scFr.nd rfl (Or.inl rfl)) (pgs_cons (pg_name (i := 6) scFr.nd rfl (Or.inl rfl)) (pgs_cons (pg_name (i := 7) scFr.nd rfl (Or.inl rfl)) (pgs_cons (pg_name (i := 8) scFr.nd rfl (Or.inl rfl)) pgs_nil))))))
          (pss_one (ps_if (PW.pt (pw_and (pt_cmpR op_gt (pv 7) pe_int (nomark _)) (pw_and (pt_cmp (pc_din u1 (pv 5) (pv 2))) (pw_and1 (pt_cmpR op_gt (pe_dget2 u1 (pv 2) (pv 6) (pe_op op_add (pe_op op_add (pe_dget u1 (pv 2) (pv 5) (fun _ _ => rfl)) (pv 8)) pe_int) ⟨rfl, rfl, rfl, rfl⟩) (pe_op op_add (pe_dget u1 (pv 2) (pv 5) (fun _ _ => rfl)) (pv 8)) (nomark _))))))
            (pss_one (ps_asg (pe_op op_add (pe_dget u1 (pv 2) (pv 5) (fun _ _ => rfl)) (pv 8)) (pg_sub (pv 2) (pv 6) (set_dict u1)))) pss_nil)))))
      (pss_one (ps_ret (pv 2))))), ?_⟩
    refine fun D nD => ?_
    have s1 := same_upd (o := .dT []) nD
    obtain ⟨H2, p2, d2, b2⟩ := (DicD.new (R := rFar) (H := upd H D (.dT [])) (D := D) upd_same).put (v := s0) (k := a) (a := (0 : Int)) (y := .int 0) stay_far (by omega) (s1 _ _ ha) rfl
    refine ⟨_, rfl, H2, p2, ?_⟩
    have s2 : Same H H2 := fun b o e => b2 b o (ne_of_none e nD) (s1 _ _ e)
    have hl2 := hl.keep s2
    have lN : (nrs rs).length = rs.length := by rw [nrs, List.length_map]
    refine ⟨_, rfl, l, _, rfl, Or.inl (SqL.of hl2.at_), _, _, rfl, rfl, ((rs.length + 1 : Nat) : Int), ?_, by omega, by omega, ?_⟩
    · show [V.int _] = _
      rw [List.length_map]
      rfl
    refine for_range (n := rs.length + 1) (fun i σ H' => FrSt l a D H (rnds cLen (nrs rs) (one0 s0 0) i) (1 + i * rs.length) σ H')
      ⟨_, _, _, _, _, _, rfl, s2, d2.le (by omega)⟩ ?_ ?_
    · rintro i σ H3 hi ⟨o3, o4, o5, o6, o7, o8, rfl, s3, d3⟩
      have hl3 := hl.keep s3
      have bound : 1 + i * rs.length + rs.length ≤ 3800 := by
        have h1 : i * rs.length ≤ 60 * 60 := Nat.mul_le_mul (by omega) l60
        omega
      refine ⟨_, rfl, l, rfl, ⟨_, SqL.of hl3.at_⟩, ?_⟩
      refine for_list (K := K) (a := l) (xs := rs.map fun t => V.ref t.1) (fun j σ H' => FrSt l a D H (((nrs rs).take j).foldl (rlx cLen) (rnds cLen (nrs rs) (one0 s0 0) i)) (1 + i * rs.length + j) σ H')
        ⟨_, _, _, _, _, _, rfl, s3, d3⟩ (fun j σ H' _ h => by obtain ⟨_, _, _, _, _, _, _, s, _⟩ := h; exact SqL.of (s _ _ hl.at_)) ?_ ?_
      · rintro j x σ H4 hj ⟨o3, o4, o5, o6, o7, o8, rfl, s4, d4⟩
        obtain ⟨t, ht, rfl⟩ := at_map hj
        have jl := (List.getElem?_eq_some_iff.mp ht).1
        have hx := (hl.each t (List.mem_of_getElem? ht)).keep s4
        obtain ⟨ak, ab, ae, g0, g1, g2, g3⟩ := hx
        have htn : (nrs rs)[j]? = some t.2 := by rw [nrs, List.getElem?_map, ht]; rfl
        have et := take_rlx (c := cLen) (M := rnds cLen (nrs rs) (one0 s0 0) i) htn
        refine ⟨t.1, _, rfl, SqT.of g0, rfl, _, _, rfl, _, _, rfl, _, _, rfl, _, _, rfl, _, _, rfl, rfl, ?_⟩
        rw [et]
        generalize ((nrs rs).take j).foldl (rlx cLen) (rnds cLen (nrs rs) (one0 s0 0) i) = M at d4 ⊢
        have stay : rlx cLen M t.2 = M → FrSt l a D H (rlx cLen M t.2) (1 + i * rs.length + (j + 1)) [some (.ref l), some (.ref a), some (.ref D), o3, some (.ref ak), some (.ref ab), some (.ref ae), some (.int t.2.wd), some (.int t.2.ln)] H4 := fun e => ⟨_, _, _, _, _, _, rfl, s4, by rw [e]; exact d4.le (by omega)⟩
        refine ⟨_, rfl, _, _, rfl, rfl, _, rfl, ?_⟩
        by_cases hw : 0 < t.2.wd
        · refine ifT (decide_eq_true hw) ?_
          cases hm : M t.2.st with
          | none =>
            refine ⟨_, rfl, _, rfl, D, _, rfl, d4.lacks g2 hm, _, rfl, ?_⟩
            refine ifF (by decide) (ifF (by decide) (stay (rlx_off hm)))
          | some da =>
            obtain ⟨y, gy, ry⟩ := d4.gets g2 hm
            obtain rfl : y = .int da := ry
            refine ⟨_, rfl, _, rfl, D, _, rfl, gy, _, rfl, ?_⟩
            refine ifT rfl ?_
            obtain ⟨H5, p5, d5, b5⟩ := d4.put (v := t.2.en) (k := ae) (a := da + t.2.ln) (y := .int (da + t.2.ln)) stay_far (by omega) g3 rfl
            have s5 : Same H H5 := fun b o e => b5 b o (ne_of_none e nD) (s4 _ _ e)
            have putd : rlx cLen M t.2 = upM M t.2.en (da + t.2.ln) → FrSt l a D H (rlx cLen M t.2) (1 + i * rs.length + (j + 1)) [some (.ref l), some (.ref a), some (.ref D), o3, some (.ref ak), some (.ref ab), some (.ref ae), some (.int t.2.wd), some (.int t.2.ln)] H5 := fun e => ⟨_, _, _, _, _, _, rfl, s5, by rw [e]; exact d5⟩
            cases hq : M t.2.en with
            | none =>
              refine ⟨_, rfl, D, rfl, d4.isD, _, rfl, _, rfl, _, rfl, D, _, rfl, gy, _, rfl, _, _, rfl, rfl, _, _, rfl, rfl, _, d4.lacks g3 hq, _, rfl, _, rfl, D, _, rfl, gy, _, rfl, _, _, rfl, rfl, _, _, rfl, rfl, _, rfl, ?_⟩
              refine ifT (by simp; omega) ?_
              refine ⟨_, rfl, _, rfl, D, _, rfl, gy, _, rfl, _, _, rfl, rfl, _, rfl, _, rfl, D, H5, rfl, p5, ?_⟩
              exact putd (rlx_new hw hm hq)
            | some db =>
              obtain ⟨y, gy2, ry⟩ := d4.gets g3 hq
              obtain rfl : y = .int db := ry
              refine ⟨_, rfl, D, rfl, d4.isD, _, rfl, _, rfl, _, rfl, D, _, rfl, gy, _, rfl, _, _, rfl, rfl, _, _, rfl, rfl, _, gy2, _, rfl, _, rfl, D, _, rfl, gy, _, rfl, _, _, rfl, rfl, _, _, rfl, rfl, _, rfl, ?_⟩
              by_cases hb : db ≤ da + t.2.ln
              · refine ifF (by simp; omega) (stay (rlx_keep hw hm hq (decide_eq_true hb)))
              · refine ifT (by simp; omega) ?_
                refine ⟨_, rfl, _, rfl, D, _, rfl, gy, _, rfl, _, _, rfl, rfl, _, rfl, _, rfl, D, H5, rfl, p5, ?_⟩
                exact putd (rlx_put hw hm hq (decide_eq_false hb))
        · refine ifF (by simpa using hw) (ifF (by decide) (stay (rlx_shut hw)))
      · rintro σ H4 ⟨o3, o4, o5, o6, o7, o8, rfl, s4, d4⟩
        refine ⟨_, _, _, _, _, _, rfl, s4, ?_⟩
        have e : (nrs rs).take (rs.map fun t => V.ref t.1).length = nrs rs := List.take_of_length_le (by rw [List.length_map, List.length_map]; exact Nat.le_refl _)
        rw [e] at d4
        exact d4.le (by rw [List.length_map, Nat.succ_mul]; omega)
    · rintro σ H3 ⟨o3, o4, o5, o6, o7, o8, rfl, s3, d3⟩
      have bound : 1 + (rs.length + 1) * rs.length ≤ 4000 := by
        have h1 : (rs.length + 1) * rs.length ≤ 61 * 60 := Nat.mul_le_mul (by omega) l60
        omega
      refine ⟨_, rfl, ?_⟩
      exact z D _ H3 s3 nD (d3.le bound) (isD_len (rnds_snd _) ((rnds_bnd (rs.length + 1)).all hn (by omega)))
end
end K13
end
section
set_option Elab.async false
set_option linter.all false
set_option maxRecDepth 100000
set_option maxHeartbeats 4000000
namespace K13
open PySem PySem.Spec PyProof.Rows L2
section
variable {α : Type} {c : Cst α} {z : α} {N : List NR} {s : P2} {M M' : P2 → Option α}
theorem no_put (h : AllB c z N s M) (k : Snd c z N s M) {e : NR} (he : e ∈ N) (hw : 0 < e.wd) {a : α} (h1 : M e.st = some a) : ∃ b, M e.en = some b ∧ c.le b (c.ext a e) = true := by
  obtain ⟨l, k1, k2⟩ := k _ _ h1
  obtain ⟨b, h4, h5⟩ := h _ _ (.snoc e k1 he hw rfl)
  rw [of_snoc, k2] at h5
  exact ⟨b, h4, h5⟩
theorem AllB.dn (h : AllB c z N s M) (k : Dn c M M') : AllB c z N s M' := fun v l w => by
  obtain ⟨b, h1, h2⟩ := h v l w
  obtain ⟨d, h3, h4⟩ := k v b h1
  exact ⟨d, h3, c.trans _ _ _ h4 h2⟩
end
def LenB (M : P2 → Option (Int × List P2)) (k : Nat) : Prop := ∀ v a, M v = some a → a.2.length ≤ k
theorem LenB.rlx {M : P2 → Option (Int × List P2)} {k : Nat} (h : LenB M k) (e : NR) : LenB (rlx cRow M e) (k + 1) := by
  rcases rlx_cases (c := cRow) M e with ⟨q, _⟩ | ⟨_, a, h1, h2, _⟩
  · rw [q]
    exact fun v a e => Nat.le_succ_of_le (h v a e)
  · rw [h2]
    intro v b hb
    unfold upM at hb
    by_cases q : v = e.en
    · rw [if_pos q] at hb
      cases hb
      have := h _ _ h1
      show (a.2 ++ [e.key]).length ≤ _
      simp
      omega
    · rw [if_neg q] at hb
      exact Nat.le_succ_of_le (h v b hb)
section
variable {P : Program} {w : World} {K : PySem.W.Frag} {mg : Str → Option Value} {base : Heap}
/-! ### shortest_rows -/
def spRows : Sp := fun vs H Q _ => ∃ (l o a : Addr) (rs : List (Addr × NR)) (s : P2), vs = [.ref l, .ref o] ∧ NL H l rs ∧ rs.length ≤ 60 ∧ (∀ e ∈ nrs rs, 0 ≤ e.ln) ∧ (∀ e ∈ nrs rs, 0 ≤ e.wd) ∧ H o = some (.lst [.ref a]) ∧ PaAt H a s ∧
  ∀ (D : Addr) (M : P2 → Option (Int × List P2)) H', Same H H' → H D = none → RowD H' D M 4000 → Snd cRow (0, []) (nrs rs) s M → AllB cRow (0, []) (nrs rs) s M → Q (.ref D) H'
abbrev NSh : List Str := ["streets", "origins", "rows", "improved", "name", "start", "end", "width", "length", "row", "origin"]
theorem scShr : FnScope NSh ["streets", "origins"] (defScope sShortest) := ⟨rfl, rfl, rfl, by decide +kernel, rfl, by decide +kernel, by decide +kernel⟩
def ShSt (l o D : Addr) (H : Hp) (M : P2 → Option (Int × List P2)) (c : Nat) (b : Bool) (σ : L2.St) (H' : Hp) : Prop := ∃ o4 o5 o6 o7 o8 o9 o10 : Option V, σ = [some (.ref l), some (.ref o), some (.ref D), some (.bl b), o4, o5, o6, o7, o8, o9, o10] ∧ Same H H' ∧ RowD H' D M c
def StillE (M : P2 → Option (Int × List P2)) (e : NR) : Prop := 0 < e.wd → ∀ a, M e.st = some a → ∃ b, M e.en = some b ∧ cRow.le b (cRow.ext a e) = true
structure ShIn (N : List NR) (Mi M : P2 → Option (Int × List P2)) (n i j : Nat) (b : Bool) : Prop where
  lb : LenB M (i * n + j)
  bt : b = true → i + 1 ≤ n
  bf : b = false → M = Mi ∧ ∀ e ∈ N.take j, StillE Mi e
def ShJ (l o D : Addr) (H : Hp) (N : List NR) (Mi : P2 → Option (Int × List P2)) (n i j : Nat) (M : P2 → Option (Int × List P2)) (σ : L2.St) (H' : Hp) : Prop := ∃ b, ShSt l o D H M (1 + i * n + j) b σ H' ∧ ShIn N Mi M n i j b
theorem ShIn.stay {N : List NR} {Mi M : P2 → Option (Int × List P2)} {n i j : Nat} {b : Bool} {e : NR} (h : ShIn N Mi M n i j b) (he : N[j]? = some e) (q : rlx cRow M e = M) (k : StillE M e) : ShIn N Mi (rlx cRow M e) n i (j + 1) b := ⟨by
  rw [q]
  exact fun v a x => Nat.le_succ_of_le (h.lb v a x), h.bt, fun hb => by
  obtain ⟨h1, h2⟩ := h.bf hb
  refine ⟨by rw [q]; exact h1, fun x hx => ?_⟩
  rw [List.take_add_one, he] at hx
  rcases List.mem_append.mp hx with hx | hx
  · exact h2 x hx
  · rw [List.mem_singleton.mp hx, ← h1]
    exact k⟩
theorem ShIn.put {N : List NR} {Mi M : P2 → Option (Int × List P2)} {n i j : Nat} {b : Bool} {e : NR} (h : ShIn N Mi M n i j b) (q : i + 1 ≤ n) : ShIn N Mi (rlx cRow M e) n i (j + 1) true := ⟨h.lb.rlx e, fun _ => q, fun hb => by cases hb⟩
theorem ok_rows {f : Addr} {fd : FuncData} (F : FnP K "shortest_rows" sShortest f fd) (T : Tx K mg) (GB : Fz P w K mg base "_is_better" 1 ["row", "other"] spBetter) : FnOk P w K mg base CX0 2 f fd ["streets", "origins"] spRows := by
  refine F.ok scShr (fun vs H Q E h => ?_) (fun cdv A outer s H vs Q E hr h => ?_)
  · obtain ⟨_, _, _, _, _, rfl, _⟩ := h
    rfl
  · obtain ⟨l, o, a, rs, s0, rfl, hl, l60, hn, hwd, ho, ha, z⟩ := h
    have sl := sizeLine_eq
    have two : 2 ≤ sizeLine := by omega
    have hu1 := hr.units
    have u1 : (A.deeper (envOfC "shortest_rows" (defScope sShortest) s.heap.objs.size f cdv)).units + 1 < cLine := by omega
    refine ⟨_, PSs.nox (pss_cons (ps_setDcT (i := 2) (own := [("origin", 10)]) (g := gName 10) (tt := tYes) (tk := tVar 10) (tv := tTup (tCons (tC (.int 0)) (tCons (tLst tNil) tNil))) hr.units0 rfl scShr.nd rfl rfl rfl (pi_list (pv 1)) (blkOk_by (own := [("origin", 10)]) (N := NSh) (sc := defScope sShortest) (by decide +kernel))
        (fun _ _ _ _ _ => pg_name (i := 10) scShr.nd rfl (Or.inl rfl)) (fun _ _ _ _ _ => pts_nil) (fun _ _ _ _ _ => pv 10) (fun _ _ _ _ _ => pe_tup (pa_cons pe_int (pa_cons (pe_lst pa_nil) pa_nil))))
      (pss_cons (ps_set (i := 3) scShr.nd rfl (Or.inl rfl) pe_bl)
      (pss_cons (ps_while PassesOwn.never (pt_val (pv 3))
        (pss_cons (ps_set (i := 3) scShr.nd rfl (Or.inl rfl) pe_bl)
        (pss_one (ps_for PassesOwn.never rfl (pi_list (pv 0)) (pg_tup rfl (pgs_cons (pg_name (i := 4) scShr.nd rfl (Or.inl rfl)) (pgs_cons (pg_name (i := 5) scShr.nd rfl (Or.inl rfl)) (pgs_cons (pg_name (i := 6) scShr.nd rfl (Or.inl rfl)) (pgs_cons (pg_name (i := 7) scShr.nd rfl (Or.inl rfl)) (pgs_cons (pg_name (i := 8) scShr.nd rfl (Or.inl rfl)) pgs_nil))))))
          (pss_cons (ps_if (PW.pt (pw_or (pt_cmpR op_eq (pv 7) pe_int (nomark _)) (pw_or1 (pt_cmp (pc_dnotin u1 (pv 5) (pv 2)))))) (pss_one ps_continue) pss_nil)
          (pss_cons (ps_set (i := 9) scShr.nd rfl (Or.inl rfl) (pe_tup (pa_cons (pe_op op_add (pe_ix ix_tup (pe_dget u1 (pv 2) (pv 5) (fun _ _ => rfl)) pe_int (fun _ _ => rfl)) (pv 8)) (pa_cons (pe_op op_cat (pe_ix ix_tup (pe_dget u1 (pv 2) (pv 5) (fun _ _ => rfl)) pe_int (fun _ _ => rfl)) (pe_lst (pa_cons (pv 4) pa_nil))) pa_nil))))
          (pss_one (ps_if (PW.pt (pw_or (pt_cmp (pc_dnotin u1 (pv 6) (pv 2))) (pw_or1 (pt_val (pe_fz GB hr (by rfl) (pa_cons (pv 9) (pa_cons (pe_dget u1 (pv 2) (pv 6) (fun _ _ => rfl)) pa_nil)))))))
            (pss_cons (ps_asg (pv 9) (pg_sub (pv 2) (pv 6) (set_dict u1)))
            (pss_one (ps_set (i := 3) scShr.nd rfl (Or.inl rfl) pe_bl))) pss_nil))))))))
      (pss_one (ps_ret (pv 2)))))), ?_⟩
    refine ⟨_, rfl, o, rfl, ⟨_, SqL.of ho⟩, fun D nD => ?_⟩
    have s1 := same_upd (o := .dT []) nD
    have d0 := DicD.new (R := rRow) (H := upd H D (.dT [])) (D := D) upd_same
    refine ⟨fun i m H' => (i = 0 ∧ m = 1 ∧ H' = upd H D (.dT [])) ∨ (i = 1 ∧ m = 0 ∧ Same H H' ∧ RowD H' D (one0 s0 (0, [])) 1), ⟨1, Or.inl ⟨rfl, rfl, rfl⟩⟩, ?_⟩
    rintro i m H1 (⟨rfl, rfl, rfl⟩ | ⟨rfl, rfl, s2, d2⟩)
    · refine Or.inr ⟨⟨_, _, SqL.of (s1 _ _ ho), rfl⟩, fun H' => Same H H' ∧ RowD H' D (one0 s0 (0, [])) 1, fun H' h => ⟨0, by decide, Or.inr ⟨rfl, rfl, h⟩⟩, fun x H' hy => ?_⟩
      obtain ⟨rfl, hy⟩ := hy
      have hx := hy _ (SqL.of (s1 _ _ ho))
      cases hx
      refine ⟨by simp [wipe, L2.start], ?_⟩
      refine ⟨_, rfl, Nat.zero_le _, fun L nL => ⟨two, fun r nr => ?_⟩⟩
      have k1 := same_upd (o := .lst []) nL
      have k2 := same_upd (o := .tup [V.int 0, V.ref L]) nr
      have gL : PL (upd (upd (upd H D (.dT [])) L (.lst [])) r (.tup [V.int 0, V.ref L])) L [] := ⟨k2 _ _ upd_same, fun t ht => by simp at ht⟩
      have gr : upd (upd (upd H D (.dT [])) L (.lst [])) r (.tup [V.int 0, V.ref L]) r = some (.tup [V.int 0, V.ref L]) := upd_same
      generalize upd (upd (upd H D (.dT [])) L (.lst [])) r (.tup [V.int 0, V.ref L]) = H5 at k2 gL gr ⊢
      have s5 := same_trans s1 (same_trans k1 k2)
      obtain ⟨H6, p6, d6, b6⟩ := (d0.keep (same_trans k1 k2) fun _ _ h => h.keep (same_trans k1 k2)).put (v := s0) (k := a) (a := ((0 : Int), ([] : List P2))) (y := .ref r) stay_row (by omega) (s5 _ _ ha) ⟨r, L, [], rfl, gr, gL, rfl⟩
      exact ⟨H6, p6, fun b o e => b6 b o (ne_of_none e nD) (s5 _ _ e), d6⟩
    · refine Or.inl ⟨⟨_, SqL.of (s2 _ _ ho), Nat.le_refl _⟩, ?_⟩
      have lN : (nrs rs).length = rs.length := by rw [nrs, List.length_map]
      refine ⟨fun m σ H' => (∃ i, i ≤ rs.length ∧ m = rs.length + 1 - i ∧ LenB (rnds cRow (nrs rs) (one0 s0 (0, [])) i) (i * rs.length) ∧ ShSt l o D H (rnds cRow (nrs rs) (one0 s0 (0, [])) i) (1 + i * rs.length) true σ H') ∨
        (m = 0 ∧ ∃ M, Snd cRow (0, []) (nrs rs) s0 M ∧ AllB cRow (0, []) (nrs rs) s0 M ∧ ShSt l o D H M 4000 false σ H'), ⟨_, Or.inl ⟨0, Nat.zero_le _, rfl, ?_, _, _, _, _, _, _, _, rfl, s2, d2.le (by omega)⟩⟩, ?_⟩
      · intro v b h
        unfold rnds one0 upM at h
        by_cases q : v = s0
        · rw [if_pos q] at h
          cases h
          exact Nat.zero_le _
        · rw [if_neg q] at h
          cases h
      rintro m σ H2 (⟨i, hi, rfl, lb, o4, o5, o6, o7, o8, o9, o10, rfl, s3, d3⟩ | ⟨rfl, M, sM, aM, o4, o5, o6, o7, o8, o9, o10, rfl, s3, d3⟩)
      · refine ⟨_, rfl, _, rfl, ?_⟩
        refine ifT rfl ?_
        have hl3 := hl.keep s3
        have bound : 1 + i * rs.length + rs.length ≤ 3800 := by
          have h1 : i * rs.length ≤ 60 * 60 := Nat.mul_le_mul (by omega) l60
          omega
        have sI : Snd cRow (0, []) (nrs rs) s0 (rnds cRow (nrs rs) (one0 s0 (0, [])) i) := rnds_snd i
        have bI : Bnd cRow (0, []) (nrs rs) s0 i (rnds cRow (nrs rs) (one0 s0 (0, [])) i) := rnds_bnd i
        have eI : rnds cRow (nrs rs) (one0 s0 (0, [])) (i + 1) = (nrs rs).foldl (rlx cRow) (rnds cRow (nrs rs) (one0 s0 (0, [])) i) := rfl
        have zI : ∃ a, rnds cRow (nrs rs) (one0 s0 (0, [])) i s0 = some a ∧ cRow.le a (0, []) = true := bI s0 [] .nil (Nat.zero_le _)
        generalize hMi : rnds cRow (nrs rs) (one0 s0 (0, [])) i = Mi at sI bI d3 lb eI zI ⊢
        refine ⟨fun σ' H' => (i + 1 ≤ rs.length ∧ LenB ((nrs rs).foldl (rlx cRow) Mi) ((i + 1) * rs.length) ∧ ShSt l o D H ((nrs rs).foldl (rlx cRow) Mi) (1 + (i + 1) * rs.length) true σ' H') ∨
          (∃ M, Snd cRow (0, []) (nrs rs) s0 M ∧ AllB cRow (0, []) (nrs rs) s0 M ∧ ShSt l o D H M 4000 false σ' H'), ?_, ?_⟩
        · rintro σ' H' (⟨h1, h2, h3⟩ | h)
          · exact ⟨rs.length + 1 - (i + 1), by omega, Or.inl ⟨i + 1, h1, rfl, by rw [eI]; exact h2, by rw [eI]; exact h3⟩⟩
          · exact ⟨0, by omega, Or.inr ⟨rfl, h⟩⟩
        · refine ⟨_, rfl, l, rfl, ⟨_, SqL.of hl3.at_⟩, ?_⟩
          have subN : ∀ j, ∀ e ∈ (nrs rs).take j, e ∈ nrs rs := fun j e h => List.mem_of_mem_take h
          refine for_list (K := K) (a := l) (xs := rs.map fun t => V.ref t.1) (fun j σ H' => ShJ l o D H (nrs rs) Mi rs.length i j (((nrs rs).take j).foldl (rlx cRow) Mi) σ H')
            ⟨false, ⟨_, _, _, _, _, _, _, rfl, s3, d3⟩, lb, (fun h => by cases h), fun _ => ⟨rfl, fun e h => by simp at h⟩⟩ (fun j σ H' _ h => by obtain ⟨_, ⟨_, _, _, _, _, _, _, _, s, _⟩, _⟩ := h; exact SqL.of (s _ _ hl.at_)) ?_ ?_
          · rintro j x σ H4 hj ⟨b, ⟨o4, o5, o6, o7, o8, o9, o10, rfl, s4, d4⟩, I⟩
            obtain ⟨t, ht, rfl⟩ := at_map hj
            have jl := (List.getElem?_eq_some_iff.mp ht).1
            have hx := (hl.each t (List.mem_of_getElem? ht)).keep s4
            obtain ⟨ak, ab, ae, g0, g1, g2, g3⟩ := hx
            have htn : (nrs rs)[j]? = some t.2 := by rw [nrs, List.getElem?_map, ht]; rfl
            have htm : t.2 ∈ nrs rs := List.mem_of_getElem? htn
            have et := take_rlx (c := cRow) (M := Mi) htn
            refine ⟨t.1, _, rfl, SqT.of g0, rfl, _, _, rfl, _, _, rfl, _, _, rfl, _, _, rfl, _, _, rfl, rfl, ?_⟩
            rw [et]
            have sM : Snd cRow (0, []) (nrs rs) s0 (((nrs rs).take j).foldl (rlx cRow) Mi) := snd_rnd sI _ (subN j)
            have dM : Dn cRow Mi (((nrs rs).take j).foldl (rlx cRow) Mi) := dn_rnd _
            generalize ((nrs rs).take j).foldl (rlx cRow) Mi = M at d4 I sM dM ⊢
            have early : rs.length ≤ i → StillE M t.2 := fun h hw a ha => no_put ((bI.all hn (by omega)).dn dM) sM htm hw ha
            have step : ¬ StillE M t.2 → i + 1 ≤ rs.length := fun h => Nat.lt_of_not_le fun q => h (early q)
            refine ⟨_, rfl, rfl, _, rfl, ?_⟩
            refine ite2 (fun hc => ?_) (fun hc => ?_)
            · have h0 : ¬ 0 < t.2.wd := fun h => by
                have hc := of_decide_eq_true hc
                injection hc with hc
                omega
              exact ⟨b, ⟨_, _, _, _, _, _, _, rfl, s4, by rw [rlx_shut h0]; exact d4.le (by omega)⟩, I.stay htn (rlx_shut h0) fun h => absurd h h0⟩
            · have hw : 0 < t.2.wd := by
                have h1 := hwd t.2 htm
                have h2 : ¬ t.2.wd = 0 := fun e => hc (decide_eq_true (by rw [e]))
                omega
              cases hm : M t.2.st with
              | none =>
                refine ⟨_, rfl, _, rfl, D, _, rfl, d4.lacks g2 hm, _, rfl, ?_⟩
                exact ⟨b, ⟨_, _, _, _, _, _, _, rfl, s4, by rw [rlx_off hm]; exact d4.le (by omega)⟩, I.stay htn (rlx_off hm) fun _ a h => by rw [hm] at h; cases h⟩
              | some da =>
                obtain ⟨y, gy, ry⟩ := d4.gets g2 hm
                obtain ⟨r, lw, ps, rfl, q1, q2, q3⟩ := ry
                have lps : ps.length ≤ 3900 := by
                  have h1 := I.lb _ _ hm
                  rw [← q3, List.length_map] at h1
                  omega
                refine ⟨_, rfl, _, rfl, D, _, rfl, gy, _, rfl, ?_⟩
                refine ⟨_, rfl, _, rfl, D, _, rfl, gy, r, _, ((0 : Nat) : Int), _, rfl, rfl, SqT.of q1, atI_nat rfl, _, rfl, _, _, rfl, rfl, _, rfl, _, rfl, D, _, rfl, gy, r, _, ((1 : Nat) : Int), _, rfl, rfl, SqT.of q1, atI_nat rfl, _, rfl, by show 1 ≤ sizeLine; omega, fun L nL => ?_⟩
                have k1 := same_upd (o := .lst [V.ref ak]) nL
                have gL : upd H4 L (.lst [V.ref ak]) L = some (.lst [V.ref ak]) := upd_same
                generalize upd H4 L (.lst [V.ref ak]) = H5 at k1 gL ⊢
                refine ⟨lw, L, _, _, rfl, rfl, k1 _ _ q2.at_, gL, by rw [List.length_map]; show ps.length + 1 ≤ sizeLine; omega, fun C nC => ⟨two, fun r2 nr2 => ?_⟩⟩
                have k2 := same_upd (o := .lst ((ps.map fun t => V.ref t.1) ++ [V.ref ak])) nC
                have k3 := same_upd (o := .tup [V.int (da.1 + t.2.ln), V.ref C]) nr2
                have k13 := same_trans k1 (same_trans k2 k3)
                have gC : PL (upd (upd H5 C (.lst ((ps.map fun t => V.ref t.1) ++ [V.ref ak]))) r2 (.tup [V.int (da.1 + t.2.ln), V.ref C])) C (ps ++ [(ak, t.2.key)]) := ⟨by
                  rw [List.map_append]
                  exact k3 _ _ upd_same, fun u hu => by
                  rcases List.mem_append.mp hu with h | h
                  · exact (q2.keep k13).each u h
                  · rw [List.mem_singleton.mp h]
                    exact k13 _ _ g1⟩
                have gr : upd (upd H5 C (.lst ((ps.map fun t => V.ref t.1) ++ [V.ref ak]))) r2 (.tup [V.int (da.1 + t.2.ln), V.ref C]) r2 = some (.tup [V.int (da.1 + t.2.ln), V.ref C]) := upd_same
                generalize upd (upd H5 C (.lst ((ps.map fun t => V.ref t.1) ++ [V.ref ak]))) r2 (.tup [V.int (da.1 + t.2.ln), V.ref C]) = H7 at k3 k13 gC gr ⊢
                have rw7 : rRow H7 (cRow.ext da t.2) (.ref r2) := ⟨r2, C, _, rfl, gr, gC, by rw [prs, List.map_append]; show prs ps ++ _ = _; rw [q3]; rfl⟩
                have s7 := same_trans s4 k13
                have d7 := d4.keep k13 fun _ _ h => h.keep k13
                have g37 : PaAt H7 ae t.2.en := k13 _ _ g3
                have put : ∀ {H8 : Hp}, Same H7 H8 → ∃ H9, DPut H8 D (.ref ae) (.ref r2) H9 ∧ RowD H9 D (upM M t.2.en (cRow.ext da t.2)) (1 + i * rs.length + j + 1) ∧ Same H H9 := fun {H8} s8 => by
                  obtain ⟨H9, p9, d9, b9⟩ := (d7.keep s8 fun _ _ h => h.keep s8).put (v := t.2.en) (k := ae) (a := cRow.ext da t.2) (y := .ref r2) stay_row (by omega) (s8 _ _ g37) (rw7.keep s8)
                  exact ⟨H9, p9, d9, fun b o e => b9 b o (ne_of_none e nD) (s8 _ _ (s7 _ _ e))⟩
                cases hq : M t.2.en with
                | none =>
                  obtain ⟨H9, p9, d9, s9⟩ := put (Same.refl _)
                  refine ⟨_, rfl, _, rfl, D, _, rfl, d7.lacks g37 hq, _, rfl, ?_⟩
                  refine ⟨_, rfl, _, rfl, _, rfl, D, H9, rfl, p9, ?_⟩
                  exact ⟨true, ⟨_, _, _, _, _, _, _, rfl, s9, by rw [rlx_new hw hm hq]; exact d9⟩, I.put (step fun h => by
                    obtain ⟨b, h1, _⟩ := h hw _ hm
                    rw [hq] at h1
                    cases h1)⟩
                | some db =>
                  obtain ⟨y2, gy2, ry2⟩ := d7.gets g37 hq
                  refine ⟨_, rfl, _, rfl, D, _, rfl, gy2, _, rfl, ?_⟩
                  refine ⟨_, rfl, _, rfl, _, rfl, D, _, rfl, gy2, _, _, cRow.ext da t.2, db, rfl, rw7, ry2, ?_, ?_, fun H8 s8 => ⟨_, rfl, ?_⟩⟩
                  · have h1 := I.lb _ _ hm
                    show (da.2 ++ [t.2.key]).length ≤ _
                    simp
                    omega
                  · have h1 := I.lb _ _ hq
                    omega
                  · cases hle : cRow.le db (cRow.ext da t.2) with
                    | true =>
                      have er := rlx_keep (c := cRow) hw hm hq hle
                      exact ⟨b, ⟨_, _, _, _, _, _, _, rfl, same_trans s7 s8, by rw [er]; exact (d7.keep s8 fun _ _ h => h.keep s8).le (by omega)⟩, I.stay htn er fun _ a h => by
                        rw [hm] at h
                        cases h
                        exact ⟨db, hq, hle⟩⟩
                    | false =>
                      obtain ⟨H9, p9, d9, s9⟩ := put s8
                      refine ⟨_, rfl, _, rfl, _, rfl, D, H9, rfl, p9, ?_⟩
                      exact ⟨true, ⟨_, _, _, _, _, _, _, rfl, s9, by rw [rlx_put hw hm hq hle]; exact d9⟩, I.put (step fun h => by
                        obtain ⟨b, h1, h2⟩ := h hw _ hm
                        rw [hq] at h1
                        cases h1
                        rw [hle] at h2
                        cases h2)⟩
          · rintro σ H4 ⟨b, ⟨o4, o5, o6, o7, o8, o9, o10, rfl, s4, d4⟩, I⟩
            have e : (nrs rs).take (rs.map fun t => V.ref t.1).length = nrs rs := List.take_of_length_le (by rw [List.length_map, List.length_map]; exact Nat.le_refl _)
            have q := I.bf
            have lb4 := I.lb
            rw [e] at d4 lb4 q
            have e2 : (i + 1) * rs.length = i * rs.length + rs.length := Nat.succ_mul _ _
            cases b with
            | true =>
              refine Or.inl ⟨I.bt rfl, ?_, _, _, _, _, _, _, _, rfl, s4, d4.le (by rw [List.length_map]; omega)⟩
              rw [List.length_map] at lb4
              rw [e2]
              exact lb4
            | false =>
              obtain ⟨q1, q2⟩ := q rfl
              refine Or.inr ⟨Mi, sI, all_of_still zI fun e he => q2 e he, _, _, _, _, _, _, _, rfl, s4, ?_⟩
              rw [q1] at d4
              exact d4.le (by rw [List.length_map]; omega)
      · refine ⟨_, rfl, _, rfl, ?_⟩
        refine ifF (by decide) ⟨_, rfl, ?_⟩
        exact z D M H2 s3 nD d3 sM aM
end
end K13
end
section
set_option Elab.async false
set_option linter.all false
set_option maxRecDepth 100000
set_option maxHeartbeats 4000000
namespace K13
open PySem PySem.Spec PyProof.Rows L2
def rev (e : NR) : NR := ⟨e.key, e.en, e.st, e.wd, e.ln⟩
section
variable {P : Program} {w : World} {K : PySem.W.Frag} {mg : Str → Option Value} {base : Heap}
/-! ### turned -/
def spTurned : Sp := fun vs H Q _ => ∃ (l : Addr) (rs : List (Addr × NR)), vs = [.ref l] ∧ NL H l rs ∧ rs.length ≤ 60 ∧
  ∀ (D : Addr) (qs : List (Addr × NR)) H', Same H H' → H D = none → NL H' D qs → nrs qs = (nrs rs).map rev → Q (.ref D) H'
abbrev NTd : List Str := ["streets", "name", "start", "end", "width", "length"]
theorem scTd : FnScope NTd ["streets"] (defScope sTurned) := ⟨rfl, rfl, rfl, by decide +kernel, rfl, by decide +kernel, by decide +kernel⟩
theorem ok_turned {f : Addr} {fd : FuncData} (F : FnP K "turned" sTurned f fd) : FnOk P w K mg base CX0 1 f fd ["streets"] spTurned := by
  refine F.ok scTd (fun vs H Q E h => ?_) (fun cdv A outer s H vs Q E hr h => ?_)
  · obtain ⟨_, _, rfl, _⟩ := h
    rfl
  · obtain ⟨l, rs, rfl, hl, l60, q⟩ := h
    have sl := sizeLine_eq
    have five : 5 ≤ sizeLine := by omega
    refine ⟨_, PSs.nox (pss_one (ps_ret (pe_lc (own := [("name", 1), ("start", 2), ("end", 3), ("width", 4), ("length", 5)]) (g := gTup K 5 (gCons (gName 1) (gCons (gName 2) (gCons (gName 3) (gCons (gName 4) (gCons (gName 5) gNil)))))) (tt := tYes)
      (te := tTup (tCons (tVar 1) (tCons (tVar 3) (tCons (tVar 2) (tCons (tVar 4) (tCons (tVar 5) tNil))))))
      rfl scTd.nd (pi_list (pv 0)) (blkOk_by (own := [("name", 1), ("start", 2), ("end", 3), ("width", 4), ("length", 5)]) (N := NTd) (sc := defScope sTurned) (by decide +kernel))
      (fun _ _ _ _ _ => pg_tup rfl (pgs_cons (pg_name (i := 1) scTd.nd rfl (Or.inl rfl)) (pgs_cons (pg_name (i := 2) scTd.nd rfl (Or.inl rfl)) (pgs_cons (pg_name (i := 3) scTd.nd rfl (Or.inl rfl)) (pgs_cons (pg_name (i := 4) scTd.nd rfl (Or.inl rfl)) (pgs_cons (pg_name (i := 5) scTd.nd rfl (Or.inl rfl)) pgs_nil)))))) (fun _ _ _ _ _ => pts_nil)
      (fun _ _ _ _ _ => pe_tup (pa_cons (pv 1) (pa_cons (pv 3) (pa_cons (pv 2) (pa_cons (pv 4) (pa_cons (pv 5) pa_nil))))))))), ?_⟩
    refine ⟨_, rfl, l, rfl, ⟨_, SqL.of hl.at_⟩, fun D nD => ?_⟩
    refine H3.lc_gen (us := rs) (vf := fun t => V.ref t.1) (p := fun _ => true) (R := fun t y H' => ∃ a, y = .ref a ∧ NAt (del H' D) a (rev t.2)) nD hl.at_ (by omega) (fun u y H H' ⟨a, h1, h2⟩ k => ⟨a, h1, h2.keep (del_but k)⟩) (fun t ht H1 s1 hD N N0 n1 _ => ?_) (fun H1 zs s1 hD e hR => ?_)
    · have ht1 := (hl.each t ht).keep s1
      obtain ⟨acc, hD⟩ := hD
      obtain ⟨ak, ab, ae, g0, g1, g2, g3⟩ := ht1
      have nt : ∀ {a xs}, H1 a = some (.tup xs) → a ≠ D := fun {a xs} e z => by rw [z, hD] at e; cases e
      refine ⟨t.1, _, rfl, SqT.of g0, rfl, _, _, rfl, _, _, rfl, _, _, rfl, _, _, rfl, _, _, rfl, rfl, by simp [wipe, L2.start], ?_⟩
      refine ⟨_, rfl, _, rfl, _, rfl, _, rfl, _, rfl, five, fun r nr => ?_⟩
      have k4 := same_upd (o := .tup [V.ref ak, V.ref ae, V.ref ab, V.int t.2.wd, V.int t.2.ln]) nr
      have d4 : r ≠ D := (ne_of_none hD nr).symm
      exact n1 rfl _ _ k4 ⟨r, rfl, ak, ae, ab, del_of upd_same d4, del_of (k4 _ _ g1) (nt g1), del_of (k4 _ _ g3) (nt g3), del_of (k4 _ _ g2) (nt g2)⟩
    · have e1 : (zs.map fun z => z.1) = rs := by rw [e, List.filter_eq_self.mpr (fun _ _ => rfl)]
      obtain ⟨qs, h1, h2, h3⟩ : ∃ qs : List (Addr × NR), (zs.map fun z => z.2) = qs.map (fun t => V.ref t.1) ∧ nrs qs = (nrs (zs.map fun z => z.1)).map rev ∧ ∀ t ∈ qs, NAt (del H1 D) t.1 t.2 := by
        clear hD e e1
        induction zs with
        | nil => exact ⟨[], rfl, rfl, fun t ht => by simp at ht⟩
        | cons z zs ih =>
          obtain ⟨rs, h1, h2, h3⟩ := ih fun z hz => hR z (List.mem_cons_of_mem _ hz)
          obtain ⟨a, e, h⟩ := hR z List.mem_cons_self
          refine ⟨(a, rev z.1.2) :: rs, by rw [List.map_cons, List.map_cons, h1, e], by rw [nrs, List.map_cons, List.map_cons, nrs, List.map_cons, List.map_cons]; exact congrArg _ h2, fun t ht => ?_⟩
          rcases List.mem_cons.mp ht with rfl | ht
          · exact h
          · exact h3 t ht
      rw [e1] at h2
      exact q D qs H1 s1 nD ⟨by rw [hD, h1], fun t ht => (h3 t ht).keep del_same⟩ h2
/-! ### _best_way -/
/-- what is known of _NO_WAY -/
structure NoW (K : PySem.W.Frag) (mg : Str → Option Value) (nw : Addr) : Prop where
  m : mg "_NO_WAY" = some (.ref nw)
  t : ∀ H, SqT K H nw [.non, .non]
def oV : Option Int → V
  | none => .non
  | some d => .int d
def spBest (K : PySem.W.Frag) : Sp := fun vs H Q _ => ∃ (l a b : Addr) (rs : List (Addr × NR)) (s t : P2), vs = [.ref l, .ref a, .ref b] ∧ NL H l rs ∧ rs.length ≤ 60 ∧ (∀ e ∈ nrs rs, 0 ≤ e.ln) ∧ (∀ e ∈ nrs rs, 0 ≤ e.wd) ∧ PaAt H a s ∧ PaAt H b t ∧
  ∀ (y : Addr) (xs : List V) (F : P2 → Option Int) H', Same H H' → IsD (nrs rs) s F → SqT K H' y (oV (F t) :: xs) → Q (.ref y) H'
theorem scBw : FnScope ["streets", "start", "goal"] ["streets", "start", "goal"] (defScope sBestWay) := ⟨rfl, rfl, rfl, by decide +kernel, rfl, by decide +kernel, by decide +kernel⟩
theorem ok_best {nw : Addr} {f : Addr} {fd : FuncData} (F : FnP K "_best_way" sBestWay f fd) (W : NoW K mg nw) (GR : Fz P w K mg base "shortest_rows" 2 ["streets", "origins"] spRows) : FnOk P w K mg base CX0 3 f fd ["streets", "start", "goal"] (spBest K) := by
  refine F.ok scBw (fun vs H Q E h => ?_) (fun cdv A outer s H vs Q E hr h => ?_)
  · obtain ⟨_, _, _, _, _, _, rfl, _⟩ := h
    rfl
  · obtain ⟨l, a, b, rs, s0, t0, rfl, hl, l60, hn, hw, ha, hb, z⟩ := h
    have sl := sizeLine_eq
    have hu1 := hr.units
    have u1 : (A.deeper (envOfC "_best_way" (defScope sBestWay) s.heap.objs.size f cdv)).units + 1 < cLine := by omega
    refine ⟨_, PSs.nox (pss_one (ps_ret (pe_dget2 u1 (pe_fz GR hr (by rfl) (pa_cons (pv 0) (pa_cons (pe_lst (pa_cons (pv 1) pa_nil)) pa_nil))) (pv 2) (pe_glob (v := .ref nw) (by rfl) W.m rfl) ⟨rfl, rfl, rfl, rfl⟩))), ?_⟩
    refine ⟨_, rfl, _, rfl, by show 1 ≤ sizeLine; omega, fun O nO => ?_⟩
    have s1 := same_upd (o := .lst [V.ref a]) nO
    have gO : upd H O (.lst [V.ref a]) O = some (.lst [V.ref a]) := upd_same
    generalize upd H O (.lst [V.ref a]) = H1 at s1 gO ⊢
    refine ⟨l, O, a, rs, s0, rfl, hl.keep s1, l60, hn, hw, gO, s1 _ _ ha, fun D M H2 s2 nD hM sM aM => ?_⟩
    have hb2 := (hb.keep s1).keep s2
    refine ⟨D, rfl, hM.isD, _, rfl, ?_⟩
    cases hm : M t0 with
    | none =>
      refine ⟨_, hM.lacks hb2 hm, ?_⟩
      exact z nw [.non] (fun v => (M v).map (·.1)) H2 (same_trans s1 s2) (isD_row sM aM) (by show SqT K H2 nw (oV ((M t0).map (·.1)) :: _); rw [hm]; exact W.t _)
    | some d =>
      obtain ⟨y, gy, r, lw, ps, rfl, q1, _, _⟩ := hM.gets hb2 hm
      refine ⟨_, gy, ?_⟩
      exact z r [.ref lw] (fun v => (M v).map (·.1)) H2 (same_trans s1 s2) (isD_row sM aM) (by show SqT K H2 r (oV ((M t0).map (·.1)) :: _); rw [hm]; exact SqT.of q1)
/-! ### check_places -/
def spChkP : Sp := fun vs H Q _ => ∃ (l : Addr) (zs : List Str) (x y : Str), vs = [.ref l, .str x, .str y] ∧ Ws H l zs ∧ x ∈ zs ∧ y ∈ zs ∧ x ≠ y ∧ Q .non H
theorem scCp : FnScope ["words", "start", "goal"] ["words", "start", "goal"] (defScope sChkPlaces) := ⟨rfl, rfl, rfl, by decide +kernel, rfl, by decide +kernel, by decide +kernel⟩
theorem ok_chkP {f : Addr} {fd : FuncData} (F : FnP K "check_places" sChkPlaces f fd) : FnOk P w K mg base CX0 1 f fd ["words", "start", "goal"] spChkP := by
  refine F.ok scCp (fun vs H Q E h => ?_) (fun cdv A outer s H vs Q E hr h => ?_)
  · obtain ⟨_, _, _, _, rfl, _⟩ := h
    rfl
  · obtain ⟨l, zs, x, y, rfl, hl, hx, hy, ne, q⟩ := h
    refine ⟨_, PSs.nox (pss_cons (ps_if (pt_cmpR op_notIn_seq (pv 1) (pv 0) rfl) (pss_one ps_never) pss_nil)
      (pss_one (ps_if (PW.pt (pw_or (pt_cmpR op_notIn_seq (pv 2) (pv 0) rfl) (pw_or1 (pt_cmpR op_eq (pv 2) (pv 1) (nomark _))))) (pss_one ps_never) pss_nil))), ?_⟩
    refine ⟨_, rfl, _, rfl, l, zs.map V.str, rfl, Or.inl (SqL.of hl), rfl, flat_strs zs, _, rfl, ?_⟩
    rw [inV_str]
    refine ifF (by rw [decide_eq_true hx]; decide) ?_
    refine ⟨_, rfl, _, rfl, l, zs.map V.str, rfl, Or.inl (SqL.of hl), rfl, flat_strs zs, _, rfl, ?_⟩
    rw [inV_str]
    refine ifF (by rw [decide_eq_true hy]; decide) ?_
    refine ⟨_, rfl, _, rfl, rfl, _, rfl, ?_⟩
    refine ifF (by simp; exact fun e => ne e.symm) ?_
    exact q
/-! ### asked_net -/
def spANet (CQ CT : Addr) : Sp := fun vs H Q _ => ∃ (q dx l g p dp lp : Addr) (ts us : List (Addr × S5)) (gs : List Str) (x y : Str), vs = [.ref q, .ref p, .str x, .str y] ∧ QuP H CQ q dx l g ts gs ∧ ts.length ≤ 30 ∧ gs.length ≤ 30 ∧ TwP H CT p dp lp us ∧ us.length ≤ 30 ∧
  x ∈ gs ++ ends (snds us) ∧ y ∈ gs ++ ends (snds us) ∧ x ≠ y ∧
  ∀ (T D ao at_ : Addr) (rs : List (Addr × NR)) H', Same H H' → H' T = some (.tup [.ref D, .ref ao, .ref at_]) → NL H' D rs → nrs rs = netOf gs (snds ts) (snds us) → PaAt H' ao (place "town" gs x) → PaAt H' at_ (place "town" gs y) → Q (.ref T) H'
abbrev NAn : List Str := ["quarter", "town", "start", "goal", "gates"]
theorem scAn : FnScope NAn ["quarter", "town", "start", "goal"] (defScope sAskedNet) := ⟨rfl, rfl, rfl, by decide +kernel, rfl, by decide +kernel, by decide +kernel⟩
theorem ok_aNet {CQ CT : Addr} {f : Addr} {fd : FuncData} (F : FnP K "asked_net" sAskedNet f fd) (M : Ms P w K mg base CQ CT) (GA : Fz P w K mg base "asked_of" 3 ["quarter", "town"] (spAsked CQ CT)) (GC : Fz P w K mg base "check_places" 1 ["words", "start", "goal"] spChkP)
    (GN : Fz P w K mg base "streets_of_net" 3 ["quarter", "town"] (spNetS CQ CT)) (GP : Fz P w K mg base "_place" 1 ["side", "word", "gates"] spPl) : FnOk P w K mg base CX0 4 f fd ["quarter", "town", "start", "goal"] (spANet CQ CT) := by
  refine F.ok scAn (fun vs H Q E h => ?_) (fun cdv A outer s H vs Q E hr h => ?_)
  · obtain ⟨_, _, _, _, _, _, _, _, _, _, _, _, rfl, _⟩ := h
    rfl
  · obtain ⟨q, dx, l, g, p, dp, lp, ts, us, gs, x, y, rfl, hq, t30, g30, hp, u30, hx, hy, ne, z⟩ := h
    have sl := sizeLine_eq
    have r1 : Room 1 (A.deeper (envOfC "asked_net" (defScope sAskedNet) s.heap.objs.size f cdv)) := hr.mono (by decide)
    refine ⟨_, PSs.nox (pss_cons (ps_expr (pe_fz GC r1 (by rfl) (pa_cons (pe_fz GA hr (by rfl) (pa_cons (pv 0) (pa_cons (pv 1) pa_nil))) (pa_cons (pv 2) (pa_cons (pv 3) pa_nil)))))
      (pss_cons (ps_set (i := 4) scAn.nd rfl (Or.inl rfl) (pe_mz M.qg (pv 0) r1))
      (pss_one (ps_ret (pe_tup (pa_cons (pe_fz GN hr (by rfl) (pa_cons (pv 0) (pa_cons (pv 1) pa_nil))) (pa_cons (pe_fz GP r1 (by rfl) (pa_cons pe_str (pa_cons (pv 2) (pa_cons (pv 4) pa_nil)))) (pa_cons (pe_fz GP r1 (by rfl) (pa_cons pe_str (pa_cons (pv 3) (pa_cons (pv 4) pa_nil)))) pa_nil)))))))), ?_⟩
    refine ⟨_, rfl, _, rfl, q, dx, l, g, ts, gs, p, dp, lp, us, rfl, hq, by omega, hp, by omega, fun Z zs H1 s1 nZ tz hZ => ?_⟩
    refine ⟨_, rfl, _, rfl, Z, zs, x, y, rfl, hZ, (tz.mem x).mpr hx, (tz.mem y).mpr hy, ne, ?_⟩
    have hq1 := hq.keep s1
    refine ⟨_, rfl, q, dx, _, rfl, hq1.at_, rfl, q, dx, g, _, _, rfl, hq1.at_, rfl, hq1.g, fun G nG => ?_⟩
    have s2 := same_upd (o := .lst (gs.map V.str)) nG
    have hG : Ws (upd H1 G (.lst (gs.map V.str))) G gs := upd_same
    generalize upd H1 G (.lst (gs.map V.str)) = H2 at s2 hG ⊢
    have s12 := same_trans s1 s2
    refine ⟨_, rfl, _, rfl, q, dx, l, g, p, dp, lp, ts, us, gs, rfl, hq.keep s12, by omega, hp.keep s12, by omega, fun D rs H3 s3 nD hD eD => ?_⟩
    have hG3 := s3 _ _ hG
    refine ⟨_, rfl, _, rfl, "town", x, G, gs, rfl, hG3, fun ao H4 s4 no ho => ?_⟩
    refine ⟨_, rfl, _, rfl, "town", y, G, gs, rfl, s4 _ _ hG3, fun ad H5 s5 nd hd => ?_⟩
    refine ⟨by show 3 ≤ sizeLine; omega, fun T nT => ?_⟩
    have s6 := same_upd (o := .tup [V.ref D, V.ref ao, V.ref ad]) nT
    exact z T D ao ad rs _ (same_trans s12 (same_trans s3 (same_trans s4 (same_trans s5 s6)))) upd_same (((hD.keep s4).keep s5).keep s6) eD ((ho.keep s5).keep s6) (hd.keep s6)
end
end K13
end
section
set_option Elab.async false
set_option linter.all false
set_option maxRecDepth 100000
set_option maxHeartbeats 4000000
namespace K13
open PySem PySem.Spec PyProof.Rows L2
/-! ### distances -/
def dist (N : List NR) (s : P2) : P2 → Option Int := rnds cLen N (one0 s 0) N.length
section
variable {N N' : List NR} {s t : P2}
theorem isD_dist (pos : ∀ e ∈ N, 0 ≤ e.ln) : IsD N s (dist N s) := isD_len (rnds_snd _) ((rnds_bnd N.length).all pos (Nat.le_refl _))
theorem IsD.eq {F : P2 → Option Int} (h : IsD N s F) (pos : ∀ e ∈ N, 0 ≤ e.ln) : F = dist N s := h.uniq (isD_dist pos)
theorem rev_rev (e : NR) : rev (rev e) = e := rfl
theorem rev_pos (pos : ∀ e ∈ N, 0 ≤ e.ln) : ∀ e ∈ N.map rev, 0 ≤ e.ln := fun e he => by
  obtain ⟨x, hx, rfl⟩ := List.mem_map.mp he
  exact pos x hx
theorem lenS_rev (l : List NR) : lenS (l.reverse.map rev) = lenS l := by
  induction l with
  | nil => rfl
  | cons x l ih =>
    rw [List.reverse_cons, List.map_append, lenS_append, ih, lenS_cons]
    show lenS l + (0 + x.ln) = _
    omega
theorem Wk.rev {v : P2} {l : List NR} (h : Wk N s v l) : Wk (N.map rev) v s (l.reverse.map rev) := by
  induction h with
  | nil => exact .nil
  | snoc e h he hw hs ih =>
    rw [List.reverse_append, List.reverse_singleton, List.singleton_append, List.map_cons]
    rw [← hs] at ih
    exact Wk.cons (K13.rev e) (List.mem_map.mpr ⟨e, he, rfl⟩) hw ih
theorem Wk.unrev {v : P2} {l : List NR} (h : Wk (N.map K13.rev) v s l) : ∃ l', Wk N s v l' ∧ lenS l' = lenS l := by
  have := h.rev
  rw [List.map_map, show K13.rev ∘ K13.rev = id from rfl, List.map_id] at this
  exact ⟨_, this, lenS_rev l⟩
/-- a street lies on a least way -/
def usB (F G : P2 → Option Int) (t : P2) (e : NR) : Bool := decide (0 < e.wd) && (match F e.st with
  | none => false
  | some a => match G e.en with
    | none => false
    | some b => match F t with
      | none => false
      | some d => decide (a + e.ln + b = d))
def usedL (N : List NR) (s t : P2) : List P2 := (N.filter (usB (dist N s) (dist (N.map K13.rev) t) t)).map NR.key
def butK (N : List NR) (k : P2) : List NR := N.filter fun e => decide (e.key ≠ k)
def needB (N : List NR) (s t : P2) (k : P2) : Bool := !decide (dist (butK N k) s t = dist N s t)
def needL (N : List NR) (s t : P2) : List P2 := (usedL N s t).filter (needB N s t)
theorem butK_pos {k : P2} (pos : ∀ e ∈ N, 0 ≤ e.ln) : ∀ e ∈ butK N k, 0 ≤ e.ln := fun e he => pos e (List.mem_filter.mp he).1
/-- the goal is reached where a street can be gone through to it -/
theorem mid_reach (pos : ∀ e ∈ N, 0 ≤ e.ln) {e : NR} (he : e ∈ N) (hw : 0 < e.wd) {a b : Int} (h1 : dist N s e.st = some a) (h2 : dist (N.map K13.rev) t e.en = some b) : ∃ d, dist N s t = some d := by
  obtain ⟨l1, w1, _⟩ := (isD_dist pos).snd _ _ h1
  obtain ⟨l2, w2, _⟩ := (isD_dist (rev_pos pos)).snd _ _ h2
  obtain ⟨l3, w3, _⟩ := w2.unrev
  obtain ⟨d, h, _⟩ := (isD_dist pos).all _ _ (w1.append (.cons e he hw w3))
  exact ⟨d, h⟩
/-- every street of a least way is used -/
theorem least_used (pos : ∀ e ∈ N, 0 ≤ e.ln) {l : List NR} {d : Int} (w : Wk N s t l) (hd : dist N s t = some d) (hl : lenS l = d) : ∀ e ∈ l, e.key ∈ usedL N s t := fun e he => by
  obtain ⟨l1, l2, rfl⟩ := List.append_of_mem he
  obtain ⟨hN, hw⟩ := w.in_ e he
  obtain ⟨w1, w2⟩ := w.mid
  obtain ⟨a, ha, la⟩ := (isD_dist pos).all _ _ w1
  obtain ⟨b, hb, lb⟩ := (isD_dist (rev_pos pos)).all _ _ w2.rev
  rw [lenS_rev] at lb
  obtain ⟨k1, v1, m1⟩ := (isD_dist pos).snd _ _ ha
  obtain ⟨k2', v2', m2'⟩ := (isD_dist (rev_pos pos)).snd _ _ hb
  obtain ⟨k2, v2, m2⟩ := v2'.unrev
  obtain ⟨d', hd', ld⟩ := (isD_dist pos).all _ _ (v1.append (.cons e hN hw v2))
  rw [hd] at hd'
  cases hd'
  rw [lenS_append, lenS_cons] at ld hl
  refine List.mem_map.mpr ⟨e, List.mem_filter.mpr ⟨hN, ?_⟩, rfl⟩
  unfold usB
  rw [decide_eq_true hw, ha, hb, hd]
  simp
  omega
/-- a walk that shuns a street's key -/
theorem Wk.shun {v : P2} {l : List NR} {k : P2} (w : Wk N s v l) (h : ∀ e ∈ l, e.key ≠ k) : Wk (butK N k) s v l := w.mono fun e he hN => List.mem_filter.mpr ⟨hN, decide_eq_true (h e he)⟩
theorem Wk.unshun {v : P2} {l : List NR} {k : P2} (w : Wk (butK N k) s v l) : Wk N s v l := w.mono fun e _ hN => (List.mem_filter.mp hN).1
/-- a least way that shuns k: nothing is lost without k -/
theorem shun_same (pos : ∀ e ∈ N, 0 ≤ e.ln) {l : List NR} {d : Int} {k : P2} (w : Wk N s t l) (hd : dist N s t = some d) (hl : lenS l = d) (h : ∀ e ∈ l, e.key ≠ k) : dist (butK N k) s t = dist N s t := by
  obtain ⟨d', h1, h2⟩ := (isD_dist (butK_pos pos)).all _ _ (w.shun h)
  obtain ⟨l', w', m⟩ := (isD_dist (butK_pos pos)).snd _ _ h1
  obtain ⟨d'', h3, h4⟩ := (isD_dist pos).all _ _ w'.unshun
  rw [hd] at h3
  cases h3
  rw [h1, hd]
  congr 1
  omega
/-- a least way goes through every needed street -/
theorem least_needs (pos : ∀ e ∈ N, 0 ≤ e.ln) {l : List NR} {d : Int} (w : Wk N s t l) (hd : dist N s t = some d) (hl : lenS l = d) : ∀ k ∈ needL N s t, k ∈ l.map NR.key := fun k hk => by
  have hb := (List.mem_filter.mp hk).2
  apply Decidable.byContradiction
  intro hn
  have := shun_same (k := k) pos w hd hl fun e he q => hn (List.mem_map.mpr ⟨e, he, q⟩)
  unfold needB at hb
  rw [decide_eq_true this] at hb
  cases hb
/-- what is needed, by the lengths alone -/
theorem need_iff (pos : ∀ e ∈ N, 0 ≤ e.ln) {d : Int} (hd : dist N s t = some d) (k : P2) : k ∈ needL N s t ↔ dist (butK N k) s t ≠ dist N s t := by
  constructor
  · intro h q
    have hb := (List.mem_filter.mp h).2
    unfold needB at hb
    rw [decide_eq_true q] at hb
    cases hb
  · intro h
    refine List.mem_filter.mpr ⟨?_, by unfold needB; rw [decide_eq_false h]; rfl⟩
    obtain ⟨l, w, hl⟩ := (isD_dist pos).snd _ _ hd
    apply Decidable.byContradiction
    intro hn
    exact h (shun_same pos w hd hl fun e he q => hn (q ▸ least_used pos w hd hl e he))
/-- a net with a street shut walks as the net without it -/
def shutK (k : P2) (e : NR) : NR := if e.key = k then ⟨e.key, e.st, e.en, 0, e.ln⟩ else e
theorem shut_walk (k : P2) (v : P2) (l : List NR) : Wk (N.map (shutK k)) s v l ↔ Wk (butK N k) s v l := by
  constructor
  · intro w
    induction w with
    | nil => exact .nil
    | snoc e w he hw hs ih =>
      obtain ⟨x, hx, q⟩ := List.mem_map.mp he
      unfold shutK at q
      by_cases e1 : x.key = k
      · rw [if_pos e1] at q
        rw [← q] at hw
        exact absurd hw (by show ¬ (0 : Int) < 0; decide)
      · rw [if_neg e1] at q
        subst q
        exact .snoc x ih (List.mem_filter.mpr ⟨hx, decide_eq_true e1⟩) hw hs
  · intro w
    refine w.mono fun e _ he => ?_
    obtain ⟨h1, h2⟩ := List.mem_filter.mp he
    refine List.mem_map.mpr ⟨e, h1, ?_⟩
    unfold shutK
    rw [if_neg (of_decide_eq_true h2)]
theorem dist_shut (pos : ∀ e ∈ N, 0 ≤ e.ln) (k : P2) : dist (N.map (shutK k)) s = dist (butK N k) s := by
  have pos' : ∀ e ∈ N.map (shutK k), 0 ≤ e.ln := fun e he => by
    obtain ⟨x, hx, rfl⟩ := List.mem_map.mp he
    unfold shutK
    split
    · exact pos x hx
    · exact pos x hx
  exact ((isD_dist pos').walks fun v l => shut_walk k v l).eq (butK_pos pos)
end
end K13
end
section
set_option Elab.async false
set_option linter.all false
set_option maxRecDepth 100000
set_option maxHeartbeats 4000000
namespace K13
open PySem PySem.Spec PyProof.Rows L2
def addP (acc : List P2) (x : P2) : List P2 := if x ∈ acc then acc else acc ++ [x]
theorem addP_mem {acc : List P2} {x y : P2} : y ∈ addP acc x ↔ y ∈ acc ∨ y = x := by
  unfold addP
  split
  · rename_i h
    exact ⟨Or.inl, fun z => z.elim id fun e => by rw [e]; exact h⟩
  · simp
theorem addP_nd {acc : List P2} {x : P2} (h : acc.Nodup) : (addP acc x).Nodup := by
  unfold addP
  split
  · exact h
  · rename_i hx
    exact List.nodup_append.mpr ⟨h, by simp, fun a ha b hb e => by
      rw [List.mem_singleton.mp hb] at e
      exact hx (by rw [← e]; exact ha)⟩
theorem addP_len (acc : List P2) (x : P2) : (addP acc x).length ≤ acc.length + 1 := by
  unfold addP
  split <;> simp
theorem foldP_mem {y : P2} : ∀ {xs acc : List P2}, y ∈ xs.foldl addP acc ↔ y ∈ acc ∨ y ∈ xs
  | [], acc => by simp
  | x :: xs, acc => by rw [List.foldl_cons, foldP_mem, addP_mem, List.mem_cons, or_assoc]
theorem foldP_nd : ∀ {xs acc : List P2}, acc.Nodup → (xs.foldl addP acc).Nodup
  | [], _, h => h
  | x :: xs, acc, h => foldP_nd (xs := xs) (addP_nd h)
theorem foldP_len : ∀ (xs acc : List P2), (xs.foldl addP acc).length ≤ acc.length + xs.length
  | [], acc => by simp
  | x :: xs, acc => by
    have h1 := foldP_len xs (addP acc x)
    have h2 := addP_len acc x
    rw [List.foldl_cons, List.length_cons]
    omega
theorem foldP_take {xs acc : List P2} {j : Nat} {x : P2} (h : xs[j]? = some x) : (xs.take (j + 1)).foldl addP acc = addP ((xs.take j).foldl addP acc) x := by
  rw [List.take_add_one, h, List.foldl_append]
  rfl
/-- the ends of the rows -/
def endsN (rs : List NR) : List P2 := rs.flatMap fun r => [r.st, r.en]
theorem endsN_take {rs : List NR} {acc : List P2} {j : Nat} {x : NR} (h : rs[j]? = some x) : (endsN (rs.take (j + 1))).foldl addP acc = addP (addP ((endsN (rs.take j)).foldl addP acc) x.st) x.en := by
  unfold endsN
  rw [List.take_add_one, h, List.flatMap_append, List.foldl_append]
  rfl
theorem endsN_len (rs : List NR) : (endsN rs).length = 2 * rs.length := by
  induction rs with
  | nil => rfl
  | cons r rs ih =>
    unfold endsN at ih ⊢
    rw [List.flatMap_cons, List.length_append, ih]
    show 2 + 2 * rs.length = 2 * (rs.length + 1)
    omega
/-- the places of a net -/
def isPl (gs : List Str) (rs : List NR) (x : P2) : Prop := (∃ g ∈ gs, x = (("gate" : Str), g)) ∨ x ∈ endsN rs
theorem netRow_wd {side : Str} {gs : List Str} {s : S5} (hs : Wd side) (h : s.Ok) : WdP (netRow side gs s).st ∧ WdP (netRow side gs s).en ∧ WdP (netRow side gs s).key := ⟨place_wd hs h.2.1, place_wd hs h.2.2.1, hs, h.1⟩
theorem netOf_wd {gs : List Str} {ss us : List S5} (h1 : SOk ss) (h2 : SOk us) : ∀ r ∈ netOf gs ss us, WdP r.st ∧ WdP r.en ∧ WdP r.key := fun r hr => by
  rcases List.mem_append.mp hr with h | h
  · obtain ⟨s, hs, rfl⟩ := List.mem_map.mp h
    exact netRow_wd wd_quarter (h1.ok s hs)
  · obtain ⟨s, hs, rfl⟩ := List.mem_map.mp h
    exact netRow_wd wd_town (h2.ok s hs)
theorem endsN_wd {rs : List NR} (h : ∀ r ∈ rs, WdP r.st ∧ WdP r.en ∧ WdP r.key) : ∀ x ∈ endsN rs, WdP x := fun x hx => by
  obtain ⟨r, hr, hx⟩ := List.mem_flatMap.mp hx
  simp only [List.mem_cons, List.not_mem_nil, or_false] at hx
  rcases hx with rfl | rfl
  · exact (h r hr).1
  · exact (h r hr).2.1
section
variable {P : Program} {w : World} {K : PySem.W.Frag} {mg : Str → Option Value} {base : Heap}
/-! ### _law_places -/
/-- what a net is asked with -/
structure Wt (H : Hp) (W ls lg t : Addr) (ts us : List (Addr × S5)) (gs : List Str) : Prop where
  w : Wn H W ls lg ts gs
  t : Sts H t us
  l1 : ts.length ≤ 20
  l2 : us.length ≤ 20
  l3 : gs.length ≤ 20
  o1 : SOk (snds ts)
  o2 : SOk (snds us)
  g : GOk gs
theorem Wt.keep {H H' : Hp} {W ls lg t : Addr} {ts us : List (Addr × S5)} {gs : List Str} (h : Wt H W ls lg t ts us gs) (s : Same H H') : Wt H' W ls lg t ts us gs := ⟨h.w.keep s, h.t.keep s, h.l1, h.l2, h.l3, h.o1, h.o2, h.g⟩
def spLPls : Sp := fun vs H Q _ => ∃ (W ls lg t : Addr) (ts us : List (Addr × S5)) (gs : List Str), vs = [.ref W, .ref t] ∧ Wt H W ls lg t ts us gs ∧
  ∀ (D : Addr) (ps : List (Addr × P2)) H', Same H H' → H D = none → PL H' D ps → (prs ps).Nodup → (∀ x, x ∈ prs ps ↔ isPl gs (netOf gs (snds ts) (snds us)) x) → AscP (prs ps) → (∀ x ∈ prs ps, WdP x) → ps.length ≤ 200 → Q (.ref D) H'
abbrev NLp : List Str := ["_law_world_here", "_law_town_here", "_law_found", "_law_row", "_law_place_here", "_law_gate"]
theorem scLp : FnScope NLp ["_law_world_here", "_law_town_here"] (defScope sPlaces) := ⟨rfl, rfl, rfl, by decide +kernel, rfl, by decide +kernel, by decide +kernel⟩
/-- the pair at a place -/
noncomputable def prAt (H : Hp) (v : V) : P2 := match v with
  | .ref r => match H r with
    | some (.tup [.str a, .str b]) => (a, b)
    | _ => ("", "")
  | _ => ("", "")
theorem prAt_of {H : Hp} {r : Addr} {x : P2} (h : PaAt H r x) : prAt H (.ref r) = x := by
  unfold prAt
  have h : H r = some (.tup [.str x.1, .str x.2]) := h
  simp only [h]
theorem ok_lpls {f : Addr} {fd : FuncData} (F : FnP K "_law_places" sPlaces f fd) (GN : Fz P w K mg base "_law_net" 2 ["_law_world_here", "_law_town_here"] spLNet) (T : Tx K mg) : FnOk P w K mg base CX0 3 f fd ["_law_world_here", "_law_town_here"] spLPls := by
  refine F.ok scLp (fun vs H Q E h => ?_) (fun cdv A outer s H vs Q E hr h => ?_)
  · obtain ⟨_, _, _, _, _, _, _, rfl, _⟩ := h
    rfl
  · obtain ⟨W, ls, lg, t, ts, us, gs, rfl, hw, z⟩ := h
    have gSo := T.fr "sorted" (by decide +kernel)
    have gI := T.fr "int" (by decide +kernel)
    have sl := sizeLine_eq
    have two : 2 ≤ sizeLine := by omega
    have hu1 : (A.deeper (envOfC "_law_places" (defScope sPlaces) s.heap.objs.size f cdv)).units + 65 < cLine := by
      have := hr.un
      omega
    refine ⟨_, PSs.nox (pss_cons (ps_setLc (i := 2) (own := [("_law_gate", 5)]) (g := gName 5) (tt := tYes) rfl scLp.nd rfl rfl (sw_true rfl rfl rfl (by decide +kernel)) (pi_list (pe_ix ix_list (pv 0) pe_int (fun _ _ => rfl))) (blkOk_by (own := [("_law_gate", 5)]) (N := NLp) (sc := defScope sPlaces) (by decide +kernel))
        (fun _ _ _ _ _ => pg_name (i := 5) scLp.nd rfl (Or.inl rfl)) (fun _ _ _ _ _ => pts_nil) (fun _ _ _ _ _ => pe_tup (pa_cons pe_str (pa_cons (pv 5) pa_nil))))
      (pss_cons (ps_for PassesOwn.never rfl (pi_list (pe_fz GN hr (by rfl) (pa_cons (pv 0) (pa_cons (pv 1) pa_nil)))) (pg_name (i := 3) scLp.nd rfl (Or.inl rfl))
        (pss_one (ps_for PassesOwn.never rfl (pi_tup (pe_slice sl_tup (pv 3) (po_some pe_int) (po_some pe_int))) (pg_name (i := 4) scLp.nd rfl (Or.inl rfl))
          (pss_one (ps_set (i := 2) scLp.nd rfl (Or.inl rfl) (pe_op op_cat (pv 2) (pe_op op_rep (pe_lst (pa_cons (pv 4) pa_nil)) (pe_callTy call_int1 (by rfl) gI (by decide +kernel) (pa_cons (pe_cmpR (op_notInD hu1) (pv 4) (pv 2) rfl) pa_nil)))))))))
      (pss_one (ps_ret (pe_callB cr_sortedPr (by rfl) gSo (by decide +kernel) (pa_cons (pv 2) pa_nil)))))), ?_⟩
    obtain ⟨⟨r0, h0⟩, hs, hg⟩ := hw.w
    have gl60 := hw.g.l
    refine ⟨_, rfl, W, _, ((1 : Nat) : Int), _, rfl, rfl, SqL.of h0, atI_nat rfl, lg, rfl, ⟨_, SqL.of hg⟩, fun D nD => ?_⟩
    refine H3.lc_gen (us := gs) (vf := V.str) (p := fun _ => true) (R := fun g y H' => ∃ a, y = .ref a ∧ a ≠ D ∧ PaAt H' a ("gate", g)) nD hg (by omega) (fun u y H H' ⟨a, h1, h2, h3⟩ k => ⟨a, h1, h2, k _ _ h2 h3⟩) (fun g hg H1 s1 hD N N0 n1 _ => ?_) (fun H1 zs s1 hD e hR => ?_)
    · obtain ⟨acc, hD⟩ := hD
      refine ⟨rfl, _, rfl, two, fun a na => ?_⟩
      exact n1 rfl _ _ (same_upd na) ⟨a, rfl, (ne_of_none hD na).symm, upd_same⟩
    have e1 : (zs.map fun z => z.1) = gs := by rw [e, List.filter_eq_self.mpr (fun _ _ => rfl)]
    obtain ⟨ps0, hps0, ep0⟩ : ∃ ps, PL H1 D ps ∧ prs ps = gs.map fun g => (("gate" : Str), g) := by
      obtain ⟨ps, h1, h2, h3⟩ : ∃ ps : List (Addr × P2), (zs.map fun z => z.2) = ps.map (fun t => V.ref t.1) ∧ prs ps = (zs.map fun z => z.1).map (fun g => (("gate" : Str), g)) ∧ ∀ t ∈ ps, PaAt H1 t.1 t.2 := by
        clear hD e e1
        induction zs with
        | nil => exact ⟨[], rfl, rfl, fun t ht => by simp at ht⟩
        | cons z zs ih =>
          obtain ⟨ps, h1, h2, h3⟩ := ih fun z hz => hR z (List.mem_cons_of_mem _ hz)
          obtain ⟨a, e, _, h⟩ := hR z List.mem_cons_self
          refine ⟨(a, ("gate", z.1)) :: ps, by rw [List.map_cons, List.map_cons, h1, e], by rw [prs, List.map_cons, List.map_cons, List.map_cons]; exact congrArg _ h2, fun t ht => ?_⟩
          rcases List.mem_cons.mp ht with rfl | ht
          · exact h
          · exact h3 t ht
      exact ⟨ps, ⟨by rw [hD, h1], h3⟩, by rw [h2, e1]⟩
    have hw1 := hw.keep s1
    have ogs : ∀ x ∈ gs.map (fun g => (("gate" : Str), g)), WdP x := fun x hx => by
      obtain ⟨g, hg, rfl⟩ := List.mem_map.mp hx
      exact ⟨wd_gate, hw.g.wd g hg⟩
    refine ⟨_, rfl, _, rfl, W, ls, lg, t, ts, us, gs, rfl, hw1.w, hw1.t, by have := hw.l1; omega, by have := hw.l2; omega, hw.o1.nd, hw.o2.nd, fun N rs H2 s2 nN hN pm as => ?_⟩
    have lrs : rs.length ≤ 60 := by
      have h1 := pm.length_eq
      unfold netOf at h1
      rw [List.length_map, List.length_append, List.length_map, List.length_map, List.length_map, List.length_map] at h1
      have := hw.l1
      have := hw.l2
      omega
    have rwd : ∀ r ∈ nrs rs, WdP r.st ∧ WdP r.en ∧ WdP r.key := fun r hr => netOf_wd hw.o1 hw.o2 r (pm.mem_iff.mp hr)
    refine ⟨N, rfl, ⟨_, SqL.of hN.at_⟩, ?_⟩
    generalize hacc : gs.map (fun g => (("gate" : Str), g)) = acc0 at ep0 ogs
    have la0 : acc0.length ≤ 60 := by rw [← hacc, List.length_map]; exact gl60
    refine for_list (K := K) (a := N) (xs := rs.map fun t => V.ref t.1) (fun j σ H' => ∃ (F : Addr) (ps : List (Addr × P2)) (o3 o4 o5 : Option V), σ = [some (.ref W), some (.ref t), some (.ref F), o3, o4, o5] ∧ Same H2 H' ∧ PL H' F ps ∧ prs ps = (endsN ((nrs rs).take j)).foldl addP acc0)
      ⟨D, ps0, _, _, _, rfl, .refl _, hps0.keep s2, ep0⟩ (fun j σ H' _ h => by obtain ⟨_, _, _, _, _, _, s, _⟩ := h; exact SqL.of (s _ _ hN.at_)) ?_ ?_
    · rintro j x σ H3 hj ⟨F0, ps, o3, o4, o5, rfl, s3, hF, ef⟩
      obtain ⟨y, hy, rfl⟩ := at_map hj
      have jl := (List.getElem?_eq_some_iff.mp hy).1
      have hy2 : (nrs rs)[j]? = some y.2 := by rw [nrs, List.getElem?_map, hy]; rfl
      have ym := List.mem_of_getElem? hy2
      obtain ⟨ak, as', ae, n1, n2, n3, n4⟩ := (hN.each y (List.mem_of_getElem? hy)).keep s3
      refine ⟨_, rfl, ((1 : Nat) : Int), rfl, ((3 : Nat) : Int), rfl, y.1, _, rfl, SqT.of n1, (by show ¬ (HT.sIx 5 0 (some ((1 : Nat) : Int)) = 0 ∧ HT.sIx 5 5 (some ((3 : Nat) : Int)) = 5); decide), fun S nS => ?_⟩
      rw [show cutV [V.ref ak, V.ref as', V.ref ae, V.int y.2.wd, V.int y.2.ln] (some ((1 : Nat) : Int)) (some ((3 : Nat) : Int)) = [V.ref as', V.ref ae] from rfl]
      have s4 := same_upd (o := .tup [V.ref as', V.ref ae]) nS
      have hS : upd H3 S (.tup [V.ref as', V.ref ae]) S = some (.tup [V.ref as', V.ref ae]) := upd_same
      refine ⟨S, rfl, ⟨_, SqT.of hS⟩, ?_⟩
      have key : ∀ (x : P2) (ax : Addr) (F1 : Addr) (ps1 : List (Addr × P2)) (o4 : Option V) (H4 : Hp), PaAt H4 ax x → WdP x → PL H4 F1 ps1 → (∀ x ∈ prs ps1, WdP x) → ps1.length ≤ 190 → ∀ (u : L2.St → Hp → Prop), (∀ F2 ps2 H5, Same H4 H5 → PL H5 F2 ps2 → prs ps2 = addP (prs ps1) x → u [some (.ref W), some (.ref t), some (.ref F2), some (.ref y.1), some (.ref ax), o5] H5) →
          tOp rCat (tVar 2) (tOp rRep (tLst (tCons (tVar 4) tNil)) (tCB (fun xs H Q => (∃ i, xs = [V.int i] ∧ Q (V.int i) H) ∨ ∃ k, xs = [V.bl k] ∧ Q (V.int (if k = true then 1 else 0)) H) (tCons (tOp (rNotInD K) (tVar 4) (tVar 2)) tNil))) [some (.ref W), some (.ref t), some (.ref F1), some (.ref y.1), some (.ref ax), o5] H4
            (fun v H' => u ([some (.ref W), some (.ref t), some (.ref F1), some (.ref y.1), some (.ref ax), o5].set 2 (some v)) H') := by
        intro x ax F1 ps1 o4 H4 hx wx hF1 w1 l1 u hu'
        refine ⟨_, rfl, _, rfl, (by show 1 ≤ sizeLine; omega), fun L nL => ?_⟩
        have k1 := same_upd (o := .lst [V.ref ax]) nL
        have hL : upd H4 L (.lst [V.ref ax]) L = some (.lst [V.ref ax]) := upd_same
        generalize upd H4 L (.lst [V.ref ax]) = H5 at k1 hL ⊢
        have hF2 := hF1.keep k1
        refine ⟨_, rfl, _, rfl, prD x, _, dp_pr (k1 _ _ hx), hF2.dp, prD_shaped wx, prs_shaped w1, Or.inr ⟨_, rfl, ?_⟩⟩
        rw [any_pr]
        by_cases hin : x ∈ prs ps1
        · rw [decide_eq_true hin]
          refine ⟨L, _, [V.ref ax], rfl, rfl, hL, by decide, by decide, by show 1 * 0 ≤ sizeLine; omega, fun p np => ?_⟩
          have k2 := same_upd (o := .lst (List.replicate (if (!true) = true then (1 : Int) else 0).toNat [V.ref ax]).flatten) np
          refine ⟨F1, p, _, _, rfl, rfl, k2 _ _ hF2.at_, upd_same, by rw [List.length_map]; show ps1.length + 0 ≤ _; omega, fun q nq => ?_⟩
          have k3 := same_upd (o := .lst ((ps1.map fun t => V.ref t.1) ++ (List.replicate (if (!true) = true then (1 : Int) else 0).toNat [V.ref ax]).flatten)) nq
          have k13 := same_trans k1 (same_trans k2 k3)
          refine hu' q ps1 _ k13 ⟨?_, fun t ht => k13 _ _ (hF1.each t ht)⟩ (by unfold addP; rw [if_pos hin])
          rw [upd_same]
          show some (HO.lst (_ ++ [])) = _
          rw [List.append_nil]
        · rw [decide_eq_false hin]
          refine ⟨L, _, [V.ref ax], rfl, rfl, hL, by decide, by decide, by show 1 * 1 ≤ sizeLine; omega, fun p np => ?_⟩
          have k2 := same_upd (o := .lst (List.replicate (if (!false) = true then (1 : Int) else 0).toNat [V.ref ax]).flatten) np
          refine ⟨F1, p, _, _, rfl, rfl, k2 _ _ hF2.at_, upd_same, by rw [List.length_map]; show ps1.length + 1 ≤ _; omega, fun q nq => ?_⟩
          have k3 := same_upd (o := .lst ((ps1.map fun t => V.ref t.1) ++ (List.replicate (if (!false) = true then (1 : Int) else 0).toNat [V.ref ax]).flatten)) nq
          have k13 := same_trans k1 (same_trans k2 k3)
          refine hu' q (ps1 ++ [(ax, x)]) _ k13 ⟨?_, fun t ht => ?_⟩ (by unfold addP; rw [if_neg hin, prs, List.map_append]; rfl)
          · rw [upd_same, List.map_append]
            rfl
          · rcases List.mem_append.mp ht with h | h
            · exact k13 _ _ (hF1.each t h)
            · rw [List.mem_singleton.mp h]
              exact k13 _ _ hx
      have lps : ps.length ≤ 180 := by
        have h1 := congrArg List.length ef
        rw [List.length_map] at h1
        have h2 := foldP_len (endsN ((nrs rs).take j)) acc0
        rw [endsN_len, List.length_take, List.length_map] at h2
        omega
      have wps : ∀ x ∈ prs ps, WdP x := fun x hx => by
        rw [ef, foldP_mem] at hx
        rcases hx with h | h
        · exact ogs x h
        · exact endsN_wd (fun r hr => rwd r (List.mem_of_mem_take hr)) x h
      have hF4 := hF.keep s4
      have g2 := s4 _ _ n3
      have g3 := s4 _ _ n4
      generalize upd H3 S (.tup [V.ref as', V.ref ae]) = H4 at s4 hS hF4 g2 g3 ⊢
      refine for_it (walk_tup (xs := [V.ref as', V.ref ae])) (fun i σ H' => ∃ (F1 : Addr) (ps1 : List (Addr × P2)) (o4 : Option V), σ = [some (.ref W), some (.ref t), some (.ref F1), some (.ref y.1), o4, o5] ∧ Same H4 H' ∧ PL H' F1 ps1 ∧ prs ps1 = ([y.2.st, y.2.en].take i).foldl addP (prs ps))
        ⟨F0, ps, _, rfl, .refl _, hF4, rfl⟩ (fun i σ H' _ h => by obtain ⟨_, _, _, _, s, _⟩ := h; exact SqT.of (s _ _ hS)) ?_ ?_
      · rintro i v σ H5 H6 hi ⟨F1, ps1, o4, rfl, s5, hF1, e1⟩ ⟨rfl, hv⟩
        have wp1 : ∀ x ∈ prs ps1, WdP x := fun x hx => by
          rw [e1, foldP_mem] at hx
          rcases hx with h | h
          · exact wps x h
          · have := List.mem_of_mem_take h
            simp only [List.mem_cons, List.not_mem_nil, or_false] at this
            rcases this with rfl | rfl
            · exact (rwd _ ym).1
            · exact (rwd _ ym).2.1
        have l1 : ps1.length ≤ 190 := by
          have h1 := congrArg List.length e1
          rw [List.length_map] at h1
          have h2 := foldP_len ([y.2.st, y.2.en].take i) (prs ps)
          rw [List.length_take, List.length_map] at h2
          simp only [List.length_cons, List.length_nil] at h2
          omega
        match i, hi, hv with
        | 0, _, hv =>
          cases hv
          refine key y.2.st as' F1 ps1 o4 _ (s5 _ _ g2) (rwd _ ym).1 hF1 wp1 l1 _ fun F2 ps2 H7 s7 hF2 e2 => ?_
          exact ⟨F2, ps2, _, rfl, same_trans s5 s7, hF2, by rw [e2, e1]; rfl⟩
        | 1, _, hv =>
          cases hv
          refine key y.2.en ae F1 ps1 o4 _ (s5 _ _ g3) (rwd _ ym).2.1 hF1 wp1 l1 _ fun F2 ps2 H7 s7 hF2 e2 => ?_
          exact ⟨F2, ps2, _, rfl, same_trans s5 s7, hF2, by rw [e2, e1]; rfl⟩
      · rintro σ H5 ⟨F1, ps1, o4, rfl, s5, hF1, e1⟩
        refine ⟨F1, ps1, _, _, _, rfl, same_trans s3 (same_trans s4 s5), hF1, ?_⟩
        rw [endsN_take hy2, ← ef, e1]
        rfl
    · rintro σ H3 ⟨F0, ps, o3, o4, o5, rfl, s3, hF, ef⟩
      rw [List.length_map] at ef
      have et : (nrs rs).take rs.length = nrs rs := List.take_of_length_le (by rw [List.length_map]; exact Nat.le_refl _)
      rw [et] at ef
      have fnd : (prs ps).Nodup := by
        rw [ef]
        refine foldP_nd ?_
        rw [← hacc]
        exact List.Pairwise.map _ (fun a b hne e => hne (by cases e; rfl)) hw.g.nd
      have hk : ∀ u ∈ ps, prAt H3 (.ref u.1) = u.2 := fun u h => prAt_of (hF.each u h)
      refine ⟨_, rfl, F0, _, prAt H3, rfl, SqL.of hF.at_, fun x hx => ?_, fun ys p pm' pw np => ?_⟩
      · obtain ⟨u, hu, rfl⟩ := List.mem_map.mp hx
        rw [hk u hu]
        exact ⟨u.1, rfl, SqT.of (hF.each u hu)⟩
      · obtain ⟨qs, pr, rfl⟩ := perm_map_inv pm' ps rfl
        have s4 := same_upd (o := .lst (qs.map fun t => V.ref t.1)) np
        have s24 := same_trans s2 (same_trans s3 s4)
        have pq : (prs qs).Perm (prs ps) := pr.map _
        have memq : ∀ x, x ∈ prs qs ↔ isPl gs (netOf gs (snds ts) (snds us)) x := fun x => by
          rw [pq.mem_iff, ef, foldP_mem, ← hacc]
          unfold isPl
          have e2 : x ∈ endsN (nrs rs) ↔ x ∈ endsN (netOf gs (snds ts) (snds us)) := by
            unfold endsN
            rw [List.mem_flatMap, List.mem_flatMap]
            exact ⟨fun ⟨r, hr, h⟩ => ⟨r, pm.mem_iff.mp hr, h⟩, fun ⟨r, hr, h⟩ => ⟨r, pm.mem_iff.mpr hr, h⟩⟩
          rw [e2, List.mem_map]
          constructor
          · rintro (⟨g, hg, rfl⟩ | h)
            · exact .inl ⟨g, hg, rfl⟩
            · exact .inr h
          · rintro (⟨g, hg, rfl⟩ | h)
            · exact .inl ⟨g, hg, rfl⟩
            · exact .inr h
        refine z p qs _ (same_trans s1 s24) ((same_trans s1 (same_trans s2 s3)).free np) ⟨upd_same, fun u h => s4 _ _ (hF.each u (pr.mem_iff.mp h))⟩ (pq.nodup_iff.mpr fnd) memq ?_ (fun x hx => ?_) ?_
        · have h1 := List.pairwise_map.mp pw
          refine List.pairwise_map.mpr (h1.imp_of_mem fun {a b} ha hb h => ?_)
          rwa [hk a (pr.mem_iff.mp ha), hk b (pr.mem_iff.mp hb)] at h
        · have hx := pq.mem_iff.mp hx
          rw [ef, foldP_mem] at hx
          rcases hx with h | h
          · exact ogs x h
          · exact endsN_wd rwd x h
        · have h1 := congrArg List.length ef
          rw [List.length_map] at h1
          have h2 := foldP_len (endsN (nrs rs)) acc0
          rw [endsN_len, List.length_map] at h2
          rw [pr.length_eq]
          omega
end
end K13
end
section
set_option Elab.async false
set_option linter.all false
set_option maxRecDepth 100000
set_option maxHeartbeats 4000000
namespace K13
open PySem PySem.Spec PyProof.Rows L2
/-- a net that can be walked -/
structure NOk (N : List NR) : Prop where
  ln : ∀ e ∈ N, 0 ≤ e.ln
  wd : ∀ e ∈ N, 0 ≤ e.wd
  w : ∀ e ∈ N, WdP e.st ∧ WdP e.en ∧ WdP e.key
/-- a quarter and its town, asked between two words -/
structure NetA (H : Hp) (CQ CT q p : Addr) (N : List NR) (gs : List Str) (x y : Str) : Prop where
  ex : ∃ dx l g dp lp ts us, QuP H CQ q dx l g ts gs ∧ ts.length ≤ 30 ∧ gs.length ≤ 30 ∧ TwP H CT p dp lp us ∧ us.length ≤ 30 ∧ x ∈ gs ++ ends (snds us) ∧ y ∈ gs ++ ends (snds us) ∧ x ≠ y ∧ netOf gs (snds ts) (snds us) = N
  ok : NOk N
theorem NetA.keep {H H' : Hp} {CQ CT q p : Addr} {N : List NR} {gs : List Str} {x y : Str} (h : NetA H CQ CT q p N gs x y) (s : Same H H') : NetA H' CQ CT q p N gs x y := by
  obtain ⟨⟨dx, l, g, dp, lp, ts, us, h1, h2, h3, h4, h5⟩, ok⟩ := h
  exact ⟨⟨dx, l, g, dp, lp, ts, us, h1.keep s, h2, h3, h4.keep s, h5⟩, ok⟩
theorem rev_ok {N : List NR} (h : NOk N) : (∀ e ∈ N.map rev, 0 ≤ e.ln) ∧ (∀ e ∈ N.map rev, 0 ≤ e.wd) := ⟨rev_pos h.ln, fun e he => by
  obtain ⟨x, hx, rfl⟩ := List.mem_map.mp he
  exact h.wd x hx⟩
section
variable {P : Program} {w : World} {K : PySem.W.Frag} {mg : Str → Option Value} {base : Heap}
/-- asked_net, as the others call it -/
def spANet2 (CQ CT : Addr) : Sp := fun vs H Q _ => ∃ (q p : Addr) (N : List NR) (gs : List Str) (x y : Str), vs = [.ref q, .ref p, .str x, .str y] ∧ NetA H CQ CT q p N gs x y ∧
  ∀ (T D ao at_ : Addr) (rs : List (Addr × NR)) H', Same H H' → H' T = some (.tup [.ref D, .ref ao, .ref at_]) → NL H' D rs → nrs rs = N → N.length ≤ 60 → PaAt H' ao (place "town" gs x) → PaAt H' at_ (place "town" gs y) → Q (.ref T) H'
theorem an_two {CQ CT : Addr} {vs : List V} {H : Hp} {Q : VK} {E : XK} (h : spANet2 CQ CT vs H Q E) : spANet CQ CT vs H Q E := by
  obtain ⟨q, p, N, gs, x, y, rfl, ⟨⟨dx, l, g, dp, lp, ts, us, h1, h2, h3, h4, h5, h6, h7, h8, h9⟩, ok⟩, z⟩ := h
  refine ⟨q, dx, l, g, p, dp, lp, ts, us, gs, x, y, rfl, h1, h2, h3, h4, h5, h6, h7, h8, fun T D ao at_ rs H' s k1 k2 k3 k4 k5 => z T D ao at_ rs H' s k1 k2 (k3.trans h9) ?_ k4 k5⟩
  rw [← h9]
  unfold netOf
  rw [List.length_append, List.length_map, List.length_map, List.length_map, List.length_map]
  omega
theorem ok_aNet2 {CQ CT : Addr} {f : Addr} {fd : FuncData} (h : FnOk P w K mg base CX0 4 f fd ["quarter", "town", "start", "goal"] (spANet CQ CT)) : FnOk P w K mg base CX0 4 f fd ["quarter", "town", "start", "goal"] (spANet2 CQ CT) := h.imp fun _ _ _ _ => an_two
/-! ### way_length -/
def spWay (CQ CT : Addr) : Sp := fun vs H Q _ => ∃ (q p : Addr) (N : List NR) (gs : List Str) (x y : Str), vs = [.ref q, .ref p, .str x, .str y] ∧ NetA H CQ CT q p N gs x y ∧
  ∀ H', Same H H' → Q (oV (dist N (place "town" gs x) (place "town" gs y))) H'
abbrev NWl : List Str := ["quarter", "town", "start", "goal", "streets", "origin", "target"]
theorem scWl : FnScope NWl ["quarter", "town", "start", "goal"] (defScope sWayLength) := ⟨rfl, rfl, rfl, by decide +kernel, rfl, by decide +kernel, by decide +kernel⟩
abbrev ANZ (P : Program) (w : World) (K : PySem.W.Frag) (mg : Str → Option Value) (base : Heap) (CQ CT : Addr) : Prop := Fz P w K mg base "asked_net" 4 ["quarter", "town", "start", "goal"] (spANet2 CQ CT)
theorem ok_way {CQ CT : Addr} {f : Addr} {fd : FuncData} (F : FnP K "way_length" sWayLength f fd) (GA : ANZ P w K mg base CQ CT) (GB : Fz P w K mg base "_best_way" 3 ["streets", "start", "goal"] (spBest K)) : FnOk P w K mg base CX0 5 f fd ["quarter", "town", "start", "goal"] (spWay CQ CT) := by
  refine F.ok scWl (fun vs H Q E h => ?_) (fun cdv A outer s H vs Q E hr h => ?_)
  · obtain ⟨_, _, _, _, _, _, rfl, _⟩ := h
    rfl
  · obtain ⟨q, p, N, gs, x, y, rfl, hN, z⟩ := h
    have r3 : Room 3 (A.deeper (envOfC "way_length" (defScope sWayLength) s.heap.objs.size f cdv)) := hr.mono (by decide)
    refine ⟨_, PSs.nox (pss_cons (ps_asg (pe_fz GA hr (by rfl) (pa_cons (pv 0) (pa_cons (pv 1) (pa_cons (pv 2) (pa_cons (pv 3) pa_nil))))) (pg_tup rfl (pgs_cons (pg_name (i := 4) scWl.nd rfl (Or.inl rfl)) (pgs_cons (pg_name (i := 5) scWl.nd rfl (Or.inl rfl)) (pgs_cons (pg_name (i := 6) scWl.nd rfl (Or.inl rfl)) pgs_nil)))))
      (pss_one (ps_ret (pe_ix ix_tup (pe_fz GB r3 (by rfl) (pa_cons (pv 4) (pa_cons (pv 5) (pa_cons (pv 6) pa_nil)))) pe_int (fun _ _ => rfl))))), ?_⟩
    refine ⟨_, rfl, _, rfl, _, rfl, _, rfl, q, p, N, gs, x, y, rfl, hN, fun T D ao ad rs H1 s1 hT hD eD l60 ho hd => ?_⟩
    refine ⟨T, _, rfl, SqT.of hT, rfl, _, _, rfl, _, _, rfl, _, _, rfl, rfl, ?_⟩
    subst eD
    refine ⟨_, rfl, _, rfl, _, rfl, D, ao, ad, rs, _, _, rfl, hD, by rwa [nrs, List.length_map] at l60, hN.ok.ln, hN.ok.wd, ho, hd, fun r xs F H2 s2 hF hr => ?_⟩
    obtain rfl := hF.eq hN.ok.ln
    exact ⟨r, _, ((0 : Nat) : Int), _, rfl, rfl, hr, atI_nat rfl, z H2 (same_trans s1 s2)⟩
theorem take_filter {α : Type} {N : List α} {j : Nat} {x : α} {u : α → Bool} (h : N[j]? = some x) : (N.take (j + 1)).filter u = (N.take j).filter u ++ (if u x = true then [x] else []) := by
  rw [List.take_add_one, h, List.filter_append]
  cases hu : u x <;> simp [hu]
theorem filter_take_len {α : Type} (N : List α) (u : α → Bool) (j : Nat) : ((N.take j).filter u).length ≤ j := by
  have h1 := List.length_filter_le u (N.take j)
  rw [List.length_take] at h1
  omega
/-- a key more -/
theorem pl_push {H : Hp} {U a : Addr} {ks : List (Addr × P2)} {v : P2} (h : PL H U ks) (ha : PaAt H a v) : PL (upd H U (.lst ((ks.map fun t => V.ref t.1) ++ [V.ref a]))) U (ks ++ [(a, v)]) := by
  have nt : ∀ {b z}, PaAt H b z → PaAt (upd H U (.lst ((ks.map fun t => V.ref t.1) ++ [V.ref a]))) b z := fun {b z} e => by
    show upd _ _ _ _ = _
    rw [upd_ne]
    · exact e
    · intro q
      have e : H b = some (.tup [.str z.1, .str z.2]) := e
      rw [q, h.at_] at e
      cases e
  refine ⟨by rw [upd_same, List.map_append]; rfl, fun t ht => ?_⟩
  rcases List.mem_append.mp ht with h1 | h1
  · exact nt (h.each t h1)
  · rw [List.mem_singleton.mp h1]
    exact nt ha
/-! ### used_streets -/
def spUse (CQ CT : Addr) : Sp := fun vs H Q _ => ∃ (q p : Addr) (N : List NR) (gs : List Str) (x y : Str), vs = [.ref q, .ref p, .str x, .str y] ∧ NetA H CQ CT q p N gs x y ∧
  ∀ (D : Addr) (ks : List (Addr × P2)) H', Same H H' → H D = none → PL H' D ks → prs ks = usedL N (place "town" gs x) (place "town" gs y) → N.length ≤ 60 → Q (.ref D) H'
abbrev NUs : List Str := ["quarter", "town", "start", "goal", "streets", "origin", "target", "ahead", "behind", "used", "name", "begin", "end", "width", "length"]
theorem scUs : FnScope NUs ["quarter", "town", "start", "goal"] (defScope sUsed_) := ⟨rfl, rfl, rfl, by decide +kernel, rfl, by decide +kernel, by decide +kernel⟩
theorem RowD.eq {H : Hp} {D a : Addr} {M : P2 → Option (Int × List P2)} {c : Nat} {v : P2} {F : P2 → Option Int} (h : RowD H D M c) (ha : PaAt H a v) (hF : (fun v => (M v).map (·.1)) = F) :
    (F v = none → DGet H D (.ref a) none) ∧ ∀ d, F v = some d → ∃ r lw, DGet H D (.ref a) (some (.ref r)) ∧ H r = some (.tup [.int d, .ref lw]) := by
  subst hF
  refine ⟨fun e => ?_, fun d e => ?_⟩
  · exact h.lacks ha (by simpa using e)
  · obtain ⟨⟨d', l⟩, h1, h2⟩ := Option.map_eq_some_iff.mp e
    obtain ⟨y, gy, r, lw, ps, rfl, q, _⟩ := h.gets ha h1
    obtain rfl : d' = d := h2
    exact ⟨r, lw, gy, q⟩
theorem ok_used {CQ CT : Addr} {f : Addr} {fd : FuncData} (F : FnP K "used_streets" sUsed_ f fd) (GA : ANZ P w K mg base CQ CT) (GR : Fz P w K mg base "shortest_rows" 2 ["streets", "origins"] spRows) (GT : Fz P w K mg base "turned" 1 ["streets"] spTurned) : FnOk P w K mg base CX0 5 f fd ["quarter", "town", "start", "goal"] (spUse CQ CT) := by
  refine F.ok scUs (fun vs H Q E h => ?_) (fun cdv A outer s H vs Q E hr h => ?_)
  · obtain ⟨_, _, _, _, _, _, rfl, _⟩ := h
    rfl
  · obtain ⟨q, p, N, gs, x, y, rfl, hN, z⟩ := h
    have sl := sizeLine_eq
    have hu1 := hr.units
    have u1 : (A.deeper (envOfC "used_streets" (defScope sUsed_) s.heap.objs.size f cdv)).units + 1 < cLine := by omega
    have r2 : Room 2 (A.deeper (envOfC "used_streets" (defScope sUsed_) s.heap.objs.size f cdv)) := hr.mono (by decide)
    have r1 : Room 1 (A.deeper (envOfC "used_streets" (defScope sUsed_) s.heap.objs.size f cdv)) := hr.mono (by decide)
    refine ⟨_, PSs.nox (pss_cons (ps_asg (pe_fz GA hr (by rfl) (pa_cons (pv 0) (pa_cons (pv 1) (pa_cons (pv 2) (pa_cons (pv 3) pa_nil))))) (pg_tup rfl (pgs_cons (pg_name (i := 4) scUs.nd rfl (Or.inl rfl)) (pgs_cons (pg_name (i := 5) scUs.nd rfl (Or.inl rfl)) (pgs_cons (pg_name (i := 6) scUs.nd rfl (Or.inl rfl)) pgs_nil)))))
      (pss_cons (ps_set (i := 7) scUs.nd rfl (Or.inl rfl) (pe_fz GR r2 (by rfl) (pa_cons (pv 4) (pa_cons (pe_lst (pa_cons (pv 5) pa_nil)) pa_nil))))
      (pss_cons (ps_set (i := 8) scUs.nd rfl (Or.inl rfl) (pe_fz GR r2 (by rfl) (pa_cons (pe_fz GT r1 (by rfl) (pa_cons (pv 4) pa_nil)) (pa_cons (pe_lst (pa_cons (pv 6) pa_nil)) pa_nil))))
      (pss_cons (ps_set (i := 9) scUs.nd rfl (Or.inl rfl) (pe_lst pa_nil))
      (pss_cons (ps_for PassesOwn.never rfl (pi_list (pv 4)) (pg_tup rfl (pgs_cons (pg_name (i := 10) scUs.nd rfl (Or.inl rfl)) (pgs_cons (pg_name (i := 11) scUs.nd rfl (Or.inl rfl)) (pgs_cons (pg_name (i := 12) scUs.nd rfl (Or.inl rfl)) (pgs_cons (pg_name (i := 13) scUs.nd rfl (Or.inl rfl)) (pgs_cons (pg_name (i := 14) scUs.nd rfl (Or.inl rfl)) pgs_nil))))))
        (pss_one (ps_if (PW.pt (pw_and (pt_cmpR op_gt (pv 13) pe_int (nomark _)) (pw_and (pt_cmp (pc_din u1 (pv 11) (pv 7))) (pw_and1 (pt_cmp (pc_din u1 (pv 12) (pv 8)))))))
          (pss_one (ps_if (pt_cmpR op_eq (pe_op op_add (pe_op op_add (pe_ix ix_tup (pe_dget u1 (pv 7) (pv 11) (fun _ _ => rfl)) pe_int (fun _ _ => rfl)) (pv 14)) (pe_ix ix_tup (pe_dget u1 (pv 8) (pv 12) (fun _ _ => rfl)) pe_int (fun _ _ => rfl))) (pe_ix ix_tup (pe_dget u1 (pv 7) (pv 6) (fun _ _ => rfl)) pe_int (fun _ _ => rfl)) (nomark _))
            (pss_one (ps_expr (pe_bm PySem.F.plainAttrs_list PySem.F.slot_list_append PySem.F.type_list_append mt_append (pv 9) (pa_cons (pv 10) pa_nil)))) pss_nil)) pss_nil)))
      (pss_one (ps_ret (pv 9)))))))), ?_⟩
    refine ⟨_, rfl, _, rfl, _, rfl, _, rfl, q, p, N, gs, x, y, rfl, hN, fun T D ao ad rs H1 s1 hT hD eD l60 ho hd => ?_⟩
    refine ⟨T, _, rfl, SqT.of hT, rfl, _, _, rfl, _, _, rfl, _, _, rfl, rfl, ?_⟩
    have lrs : rs.length ≤ 60 := by rw [← eD, nrs, List.length_map] at l60; exact l60
    refine ⟨_, rfl, _, rfl, by show 1 ≤ sizeLine; omega, fun O nO => ?_⟩
    have s2 := same_upd (o := .lst [V.ref ao]) nO
    have gO : upd H1 O (.lst [V.ref ao]) O = some (.lst [V.ref ao]) := upd_same
    generalize upd H1 O (.lst [V.ref ao]) = H2 at s2 gO ⊢
    refine ⟨D, O, ao, rs, _, rfl, hD.keep s2, lrs, by rw [eD]; exact hN.ok.ln, by rw [eD]; exact hN.ok.wd, gO, s2 _ _ ho, fun X M H3 s3 nX hX sM aM => ?_⟩
    have s13 := same_trans s2 s3
    rw [eD] at sM aM
    have eF := (isD_row sM aM).eq hN.ok.ln
    refine ⟨_, rfl, D, rs, rfl, hD.keep s13, lrs, fun B bs H4 s4 nB hB eB => ?_⟩
    rw [eD] at eB
    have lbs : bs.length ≤ 60 := by
      have := congrArg List.length eB
      rw [nrs, List.length_map, List.length_map] at this
      omega
    refine ⟨_, rfl, by show 1 ≤ sizeLine; omega, fun O2 nO2 => ?_⟩
    have s5 := same_upd (o := .lst [V.ref ad]) nO2
    have gO2 : upd H4 O2 (.lst [V.ref ad]) O2 = some (.lst [V.ref ad]) := upd_same
    generalize upd H4 O2 (.lst [V.ref ad]) = H5 at s5 gO2 ⊢
    have s15 := same_trans s13 (same_trans s4 s5)
    refine ⟨B, O2, ad, bs, _, rfl, hB.keep s5, lbs, by rw [eB]; exact (rev_ok hN.ok).1, by rw [eB]; exact (rev_ok hN.ok).2, gO2, s15 _ _ hd, fun Y M2 H6 s6 nY hY sM2 aM2 => ?_⟩
    rw [eB] at sM2 aM2
    have eG := (isD_row sM2 aM2).eq (rev_ok hN.ok).1
    have hX6 := (hX.keep s4 fun _ _ h => h.keep s4).keep s5 fun _ _ h => h.keep s5
    have hX6 := hX6.keep s6 fun _ _ h => h.keep s6
    have s16 := same_trans s15 s6
    have hD6 := hD.keep s16
    have hd6 := s16 _ _ hd
    refine ⟨Nat.zero_le _, fun U nU => ?_⟩
    have s7 := same_upd (o := .lst []) nU
    have hU0 : PL (upd H6 U (.lst [])) U [] := ⟨upd_same, fun t h => by simp at h⟩
    have nHU : H U = none := s1.free (s16.free nU)
    generalize upd H6 U (.lst []) = H7 at s7 hU0 ⊢
    refine ⟨_, rfl, D, rfl, ⟨_, SqL.of (s7 _ _ hD6.at_)⟩, ?_⟩
    generalize hu : usB (dist N (place "town" gs x)) (dist (N.map rev) (place "town" gs y)) (place "town" gs y) = u
    refine for_list (K := K) (a := D) (xs := rs.map fun t => V.ref t.1) (fun j σ H' => ∃ (o10 o11 o12 o13 o14 : Option V) (ks : List (Addr × P2)), σ = [some (.ref q), some (.ref p), some (.str x), some (.str y), some (.ref D), some (.ref ao), some (.ref ad), some (.ref X), some (.ref Y), some (.ref U), o10, o11, o12, o13, o14] ∧
        Same H6 H' ∧ PL H' U ks ∧ prs ks = ((N.take j).filter u).map NR.key)
      ⟨_, _, _, _, _, [], rfl, s7, hU0, rfl⟩ (fun j σ H' _ h => by
        obtain ⟨_, _, _, _, _, _, _, s, _⟩ := h
        exact SqL.of (s _ _ hD6.at_)) ?_ ?_
    · rintro j v σ H8 hj ⟨o10, o11, o12, o13, o14, ks, rfl, s8, hU, eK⟩
      obtain ⟨t, ht, rfl⟩ := at_map hj
      have jl := (List.getElem?_eq_some_iff.mp ht).1
      obtain ⟨ak, ab, ae, g0, g1, g2, g3⟩ := (hD6.each t (List.mem_of_getElem? ht)).keep s8
      have htn : N[j]? = some t.2 := by rw [← eD, nrs, List.getElem?_map, ht]; rfl
      have htm : t.2 ∈ N := List.mem_of_getElem? htn
      have tf := take_filter (u := u) htn
      have hX8 := hX6.keep s8 fun _ _ h => h.keep s8
      have hY8 := hY.keep s8 fun _ _ h => h.keep s8
      have hd8 : PaAt H8 ad (place "town" gs y) := s8 _ _ hd6
      have lk : ks.length ≤ 60 := by
        have h1 := congrArg List.length eK
        have h2 := filter_take_len N u j
        rw [prs, List.length_map, List.length_map] at h1
        omega
      obtain ⟨x0, x1⟩ := RowD.eq hX8 g2 eF
      obtain ⟨y0, y1⟩ := RowD.eq hY8 g3 eG
      obtain ⟨_, z1⟩ := RowD.eq hX8 hd8 eF
      refine ⟨t.1, _, rfl, SqT.of g0, rfl, _, _, rfl, _, _, rfl, _, _, rfl, _, _, rfl, _, _, rfl, rfl, ?_⟩
      rw [tf]
      have stay : u t.2 = false → ∃ (o10 o11 o12 o13 o14 : Option V) (ks' : List (Addr × P2)), ([some (.ref q), some (.ref p), some (.str x), some (.str y), some (.ref D), some (.ref ao), some (.ref ad), some (.ref X), some (.ref Y), some (.ref U), some (.ref ak), some (.ref ab), some (.ref ae), some (.int t.2.wd), some (.int t.2.ln)] : L2.St) = [some (.ref q), some (.ref p), some (.str x), some (.str y), some (.ref D), some (.ref ao), some (.ref ad), some (.ref X), some (.ref Y), some (.ref U), o10, o11, o12, o13, o14] ∧
          Same H6 H8 ∧ PL H8 U ks' ∧ prs ks' = ((N.take j).filter u ++ (if u t.2 = true then [t.2] else [])).map NR.key := fun e => ⟨_, _, _, _, _, ks, rfl, s8, hU, by rw [e]; simpa using eK⟩
      refine ⟨_, rfl, _, _, rfl, rfl, _, rfl, ?_⟩
      by_cases hw : 0 < t.2.wd
      · refine ifT (decide_eq_true hw) ?_
        cases h1 : dist N (place "town" gs x) t.2.st with
        | none =>
          refine ⟨_, rfl, _, rfl, X, _, rfl, x0 h1, _, rfl, ?_⟩
          refine ifF (by decide) (ifF (by decide) (stay (by rw [← hu]; unfold usB; rw [decide_eq_true hw, h1]; rfl)))
        | some da =>
          obtain ⟨r, lw, gx, qx⟩ := x1 da h1
          refine ⟨_, rfl, _, rfl, X, _, rfl, gx, _, rfl, ?_⟩
          refine ifT rfl ?_
          cases h2 : dist (N.map rev) (place "town" gs y) t.2.en with
          | none =>
            refine ⟨_, rfl, _, rfl, Y, _, rfl, y0 h2, _, rfl, ?_⟩
            refine ifF (by decide) (stay (by rw [← hu]; unfold usB; rw [decide_eq_true hw, h1, h2]; rfl))
          | some db =>
            obtain ⟨r', lw', gy, qy⟩ := y1 db h2
            obtain ⟨dd, h3⟩ := mid_reach hN.ok.ln htm hw h1 h2
            obtain ⟨r3, lw3, gz, qz⟩ := z1 dd h3
            refine ⟨_, rfl, _, rfl, Y, _, rfl, gy, _, rfl, ?_⟩
            refine ifT rfl ?_
            refine ⟨_, rfl, _, rfl, X, _, rfl, gx, r, _, ((0 : Nat) : Int), _, rfl, rfl, SqT.of qx, atI_nat rfl, _, rfl, _, _, rfl, rfl, _, rfl, _, rfl, Y, _, rfl, gy, r', _, ((0 : Nat) : Int), _, rfl, rfl, SqT.of qy, atI_nat rfl, _, _, rfl, rfl, _, rfl, _, rfl, X, _, rfl, gz, r3, _, ((0 : Nat) : Int), _, rfl, rfl, SqT.of qz, atI_nat rfl, rfl, _, rfl, ?_⟩
            have ue : u t.2 = decide (da + t.2.ln + db = dd) := by
              rw [← hu]
              unfold usB
              rw [decide_eq_true hw, h1, h2, h3]
              rfl
            refine ite2 (fun hc => ?_) (fun hc => ?_)
            · have hc := of_decide_eq_true hc
              injection hc with hc
              refine ⟨_, rfl, Or.inl ⟨rfl, _, SqL.of hU.at_⟩, _, rfl, U, _, _, rfl, rfl, hU.at_, by rw [List.length_map]; omega, ?_⟩
              refine ⟨_, _, _, _, _, ks ++ [(ak, t.2.key)], rfl, fun b o e => ?_, pl_push hU g1, ?_⟩
              · rw [upd_ne (ne_of_none e nU)]
                exact s8 _ _ e
              · rw [ue, if_pos (decide_eq_true hc), prs, List.map_append, List.map_append]
                show prs ks ++ _ = _
                rw [eK]
                rfl
            · refine stay ?_
              rw [ue, decide_eq_false]
              exact fun e => hc (decide_eq_true (congrArg V.int e))
      · refine ifF (by simpa using hw) (ifF (by decide) (stay (by rw [← hu]; unfold usB; rw [decide_eq_false hw]; rfl)))
    · rintro σ H8 ⟨o10, o11, o12, o13, o14, ks, rfl, s8, hU, eK⟩
      have e : N.take (rs.map fun t => V.ref t.1).length = N := List.take_of_length_le (by
        rw [← eD, nrs, List.length_map, List.length_map]
        exact Nat.le_refl _)
      rw [e] at eK
      exact ⟨_, rfl, z U ks H8 (same_trans s1 (same_trans s16 s8)) nHU hU (by rw [eK, ← hu]; rfl) l60⟩
end
end K13
end
section
set_option Elab.async false
set_option linter.all false
set_option maxRecDepth 100000
set_option maxHeartbeats 4000000
namespace K13
open PySem PySem.Spec PyProof.Rows L2
theorem scal_oV (a b : Option Int) : scal (oV a) (oV b) = true := by cases a <;> cases b <;> rfl
theorem oV_eq (a b : Option Int) : decide (oV a = oV b) = decide (a = b) := by
  have : (oV a = oV b) ↔ (a = b) := by
    cases a <;> cases b <;> simp [oV]
  simp only [this]
section
variable {P : Program} {w : World} {K : PySem.W.Frag} {mg : Str → Option Value} {base : Heap}
/-! ### needed_streets -/
def spNeed (CQ CT : Addr) : Sp := fun vs H Q _ => ∃ (q p : Addr) (N : List NR) (gs : List Str) (x y : Str), vs = [.ref q, .ref p, .str x, .str y] ∧ NetA H CQ CT q p N gs x y ∧
  ∀ (D : Addr) (ks : List (Addr × P2)) H', Same H H' → H D = none → PL H' D ks → prs ks = needL N (place "town" gs x) (place "town" gs y) → N.length ≤ 60 → Q (.ref D) H'
abbrev NNd : List Str := ["quarter", "town", "start", "goal", "streets", "origin", "target", "least", "needed", "name", "others", "street"]
theorem scNd : FnScope NNd ["quarter", "town", "start", "goal"] (defScope sNeeded_) := ⟨rfl, rfl, rfl, by decide +kernel, rfl, by decide +kernel, by decide +kernel⟩
theorem usedL_key {N : List NR} {s t : P2} : ∀ k ∈ usedL N s t, ∃ e ∈ N, e.key = k := fun k hk => by
  obtain ⟨e, he, q⟩ := List.mem_map.mp hk
  exact ⟨e, (List.mem_filter.mp he).1, q⟩
theorem usedL_len (N : List NR) (s t : P2) : (usedL N s t).length ≤ N.length := by
  unfold usedL
  rw [List.length_map]
  exact List.length_filter_le _ _
theorem ok_needed {CQ CT : Addr} {f : Addr} {fd : FuncData} (F : FnP K "needed_streets" sNeeded_ f fd) (GA : ANZ P w K mg base CQ CT) (GB : Fz P w K mg base "_best_way" 3 ["streets", "start", "goal"] (spBest K)) (GU : Fz P w K mg base "used_streets" 5 ["quarter", "town", "start", "goal"] (spUse CQ CT)) : FnOk P w K mg base CX0 6 f fd ["quarter", "town", "start", "goal"] (spNeed CQ CT) := by
  refine F.ok scNd (fun vs H Q E h => ?_) (fun cdv A outer s H vs Q E hr h => ?_)
  · obtain ⟨_, _, _, _, _, _, rfl, _⟩ := h
    rfl
  · obtain ⟨q, p, N, gs, x, y, rfl, hN, z⟩ := h
    have sl := sizeLine_eq
    have hu64 := hr.units
    have r4 : Room 4 (A.deeper (envOfC "needed_streets" (defScope sNeeded_) s.heap.objs.size f cdv)) := hr.mono (by decide)
    have r3 : Room 3 (A.deeper (envOfC "needed_streets" (defScope sNeeded_) s.heap.objs.size f cdv)) := hr.mono (by decide)
    refine ⟨_, PSs.nox (pss_cons (ps_asg (pe_fz GA r4 (by rfl) (pa_cons (pv 0) (pa_cons (pv 1) (pa_cons (pv 2) (pa_cons (pv 3) pa_nil))))) (pg_tup rfl (pgs_cons (pg_name (i := 4) scNd.nd rfl (Or.inl rfl)) (pgs_cons (pg_name (i := 5) scNd.nd rfl (Or.inl rfl)) (pgs_cons (pg_name (i := 6) scNd.nd rfl (Or.inl rfl)) pgs_nil)))))
      (pss_cons (ps_set (i := 7) scNd.nd rfl (Or.inl rfl) (pe_ix ix_tup (pe_fz GB r3 (by rfl) (pa_cons (pv 4) (pa_cons (pv 5) (pa_cons (pv 6) pa_nil)))) pe_int (fun _ _ => rfl)))
      (pss_cons (ps_set (i := 8) scNd.nd rfl (Or.inl rfl) (pe_lst pa_nil))
      (pss_cons (ps_for PassesOwn.never rfl (pi_list (pe_fz GU hr (by rfl) (pa_cons (pv 0) (pa_cons (pv 1) (pa_cons (pv 2) (pa_cons (pv 3) pa_nil)))))) (pg_name (i := 9) scNd.nd rfl (Or.inr rfl))
        (pss_cons (ps_setLc (i := 10) (own := [("street", 11)]) (g := gName 11) (tt := tTest (tOp (rNeD K) (tOp (rIxT K) (tVar 11) (tC (.int ((0 : Nat) : Int)))) (tVar 9))) (te := tVar 11) rfl scNd.nd rfl rfl rfl (pi_list (pv 4)) (blkOk_by (own := [("street", 11)]) (N := NNd) (sc := defScope sNeeded_) (by decide +kernel))
            (fun _ _ _ _ _ => pg_name (i := 11) scNd.nd rfl (Or.inl rfl)) (fun _ _ _ _ _ => pts_one (pt_cmpR (op_neD hu64) (pe_ix ix_tup (pv 11) pe_int (fun _ _ => rfl)) (pv 9) (nomark _))) (fun _ _ _ _ _ => pv 11))
        (pss_one (ps_if (pt_cmpR op_ne (pe_ix ix_tup (pe_fz GB r3 (by rfl) (pa_cons (pv 10) (pa_cons (pv 5) (pa_cons (pv 6) pa_nil)))) pe_int (fun _ _ => rfl)) (pv 7) (nomark _))
          (pss_one (ps_expr (pe_bm PySem.F.plainAttrs_list PySem.F.slot_list_append PySem.F.type_list_append mt_append (pv 8) (pa_cons (pv 9) pa_nil)))) pss_nil))))
      (pss_one (ps_ret (pv 8))))))), ?_⟩
    refine ⟨_, rfl, _, rfl, _, rfl, _, rfl, q, p, N, gs, x, y, rfl, hN, fun T D ao ad rs H1 s1 hT hD eD l60 ho hd => ?_⟩
    refine ⟨T, _, rfl, SqT.of hT, rfl, _, _, rfl, _, _, rfl, _, _, rfl, rfl, ?_⟩
    have lrs : rs.length ≤ 60 := by rw [← eD, nrs, List.length_map] at l60; exact l60
    refine ⟨_, rfl, _, rfl, _, rfl, D, ao, ad, rs, _, _, rfl, hD, lrs, by rw [eD]; exact hN.ok.ln, by rw [eD]; exact hN.ok.wd, ho, hd, fun r xs F H2 s2 hF hr => ?_⟩
    rw [eD] at hF
    obtain rfl := hF.eq hN.ok.ln
    refine ⟨r, _, ((0 : Nat) : Int), _, rfl, rfl, hr, atI_nat rfl, ?_⟩
    refine ⟨Nat.zero_le _, fun U nU => ?_⟩
    have s3 := same_upd (o := .lst []) nU
    have hU0 : PL (upd H2 U (.lst [])) U [] := ⟨upd_same, fun t h => by simp at h⟩
    have s12 := same_trans s1 s2
    have nHU : H U = none := s12.free nU
    have s13 := same_trans s12 s3
    generalize upd H2 U (.lst []) = H3 at s3 hU0 s13 ⊢
    have hU0a := hU0.at_
    refine ⟨_, rfl, _, rfl, _, rfl, _, rfl, q, p, N, gs, x, y, rfl, hN.keep s13, fun Z us H4 s4 nZ hZ eZ _ => ?_⟩
    have lus : us.length ≤ 60 := by
      have h1 := congrArg List.length eZ
      have h2 := usedL_len N (place "town" gs x) (place "town" gs y)
      rw [prs, List.length_map] at h1
      omega
    have hU4 : PL H4 U [] := hU0.keep s4
    have nUZ : Z ≠ U := (ne_of_none hU0a nZ).symm
    -- what stands beside U
    have b24 : Same H2 (del H4 U) := fun b o e => del_of (s4 _ _ (s3 _ _ e)) (ne_of_none e nU)
    have hZd : PL (del H4 U) Z us := ⟨del_of hZ.at_ nUZ, fun t ht => del_of (hZ.each t ht) fun e => by
      have h1 : H4 t.1 = some (.tup [.str t.2.1, .str t.2.2]) := hZ.each t ht
      rw [e, hU4.at_] at h1
      cases h1⟩
    have hDd : NL (del H4 U) D rs := (hD.keep s2).keep b24
    have hod : PaAt (del H4 U) ao (place "town" gs x) := b24 _ _ (s2 _ _ ho)
    have hdd : PaAt (del H4 U) ad (place "town" gs y) := b24 _ _ (s2 _ _ hd)
    refine ⟨Z, rfl, ⟨_, SqL.of hZ.at_⟩, ?_⟩
    generalize hu : needB N (place "town" gs x) (place "town" gs y) = u
    have nDU : del H4 U U = none := if_pos rfl
    have sdel : Same (del H4 U) H4 := del_same
    refine for_list (K := K) (a := Z) (xs := us.map fun t => V.ref t.1) (fun j σ H' => ∃ (o9 o10 o11 : Option V) (ks : List (Addr × P2)), σ = [some (.ref q), some (.ref p), some (.str x), some (.str y), some (.ref D), some (.ref ao), some (.ref ad), some (oV (dist N (place "town" gs x) (place "town" gs y))), some (.ref U), o9, o10, o11] ∧
        Same (del H4 U) H' ∧ PL H' U ks ∧ prs ks = ((usedL N (place "town" gs x) (place "town" gs y)).take j).filter u)
      ⟨_, _, _, [], rfl, sdel, hU4, rfl⟩ (fun j σ H' _ h => by
        obtain ⟨_, _, _, _, _, s, _⟩ := h
        exact SqL.of (s _ _ hZd.at_)) ?_ ?_
    · rintro j v σ H5 hj ⟨o9, o10, o11, ks, rfl, s5, hU, eK⟩
      obtain ⟨t, ht, rfl⟩ := at_map hj
      have jl := (List.getElem?_eq_some_iff.mp ht).1
      have htu : (usedL N (place "town" gs x) (place "town" gs y))[j]? = some t.2 := by rw [← eZ, prs, List.getElem?_map, ht]; rfl
      obtain ⟨e0, he0, ek0⟩ := usedL_key t.2 (List.mem_of_getElem? htu)
      have wt : WdP t.2 := by rw [← ek0]; exact (hN.ok.w e0 he0).2.2
      have g1 : PaAt H5 t.1 t.2 := s5 _ _ (hZd.each t (List.mem_of_getElem? ht))
      have tf := take_filter (u := u) htu
      have hD5 := hDd.keep s5
      rw [tf]
      refine ⟨_, rfl, D, rfl, ⟨_, SqL.of hD5.at_⟩, fun M nM => ?_⟩
      refine _root_.H3.lc_gen (us := rs) (vf := fun t => V.ref t.1) (p := fun r => decide (r.2.key ≠ t.2)) (R := fun r y _ => y = .ref r.1) nM hD5.at_ (by omega) (fun u y H H' h k => h) (fun r hr H6 s6 hM Nx N0 n1 n0 => ?_) (fun H6 zs s6 hM e hR => ?_)
      · obtain ⟨ak, ab, ae, q0, q1, q2, q3⟩ := (hD5.each r hr).keep s6
        have wr : WdP r.2.key := (hN.ok.w r.2 (by rw [← eD]; exact List.mem_map.mpr ⟨r, hr, rfl⟩)).2.2
        refine ⟨rfl, _, rfl, r.1, _, ((0 : Nat) : Int), _, rfl, rfl, SqT.of q0, atI_nat rfl, _, rfl, prD r.2.key, prD t.2, dp_pr q1, dp_pr (s6 _ _ g1), prD_shaped wr, prD_shaped wt, _, rfl, ?_⟩
        rw [eqv_pr]
        by_cases hk : r.2.key = t.2
        · refine ifF (by rw [decide_eq_true hk]; decide) (n0 (by simp [hk]) _ (Same.refl _))
        · refine ifT (by rw [decide_eq_false hk]; rfl) ⟨_, rfl, ?_⟩
          exact n1 (by simp [hk]) _ _ (Same.refl _) rfl
      · have e1 : (zs.map fun z => z.1) = rs.filter fun r => decide (r.2.key ≠ t.2) := e
        have e2 : (zs.map fun z => z.2) = (zs.map fun z => z.1).map fun t => V.ref t.1 := by
          rw [List.map_map]
          exact List.map_congr_left fun z hz => hR z hz
        have hM6 : NL H6 M (rs.filter fun r => decide (r.2.key ≠ t.2)) := ⟨by rw [hM, e2, e1], fun r hr => (hD5.each r (List.mem_filter.mp hr).1).keep s6⟩
        have eM : nrs (rs.filter fun r => decide (r.2.key ≠ t.2)) = butK N t.2 := by
          unfold butK
          rw [← eD, nrs, List.filter_map]
          rfl
        have lM : (rs.filter fun r => decide (r.2.key ≠ t.2)).length ≤ 60 := Nat.le_trans (List.length_filter_le _ _) lrs
        have s56 := same_trans s5 s6
        refine ⟨_, rfl, _, rfl, _, rfl, M, ao, ad, _, _, _, rfl, hM6, lM, by rw [eM]; exact butK_pos hN.ok.ln, by rw [eM]; exact fun e he => hN.ok.wd e (List.mem_filter.mp he).1, s56 _ _ hod, s56 _ _ hdd, fun r xs F H7 s7 hF hr => ?_⟩
        rw [eM] at hF
        obtain rfl := hF.eq (butK_pos hN.ok.ln)
        have s67 := same_trans s6 s7
        have hU7 := hU.keep s67
        have g7 : PaAt H7 t.1 t.2 := s67 _ _ g1
        have lk : ks.length ≤ 60 := by
          have h1 := congrArg List.length eK
          have h2 := List.length_filter_le u ((usedL N (place "town" gs x) (place "town" gs y)).take j)
          have h3 := usedL_len N (place "town" gs x) (place "town" gs y)
          rw [List.length_take] at h2
          rw [prs, List.length_map] at h1
          omega
        refine ⟨r, _, ((0 : Nat) : Int), _, rfl, rfl, hr, atI_nat rfl, _, rfl, scal_oV _ _, _, rfl, ?_⟩
        rw [oV_eq]
        have ue : u t.2 = !decide (dist (butK N t.2) (place "town" gs x) (place "town" gs y) = dist N (place "town" gs x) (place "town" gs y)) := by
          rw [← hu]
          rfl
        rw [← ue]
        cases hut : u t.2 with
        | true =>
          refine ifT rfl ?_
          refine ⟨_, rfl, Or.inl ⟨rfl, _, SqL.of hU7.at_⟩, _, rfl, U, _, _, rfl, rfl, hU7.at_, by rw [List.length_map]; omega, ?_⟩
          refine ⟨_, _, _, ks ++ [(t.1, t.2)], rfl, fun b o e => ?_, pl_push hU7 g7, ?_⟩
          · rw [upd_ne (ne_of_none e nDU)]
            exact s67 _ _ (s5 _ _ e)
          · rw [if_pos rfl, prs, List.map_append]
            show prs ks ++ _ = _
            rw [eK]
            rfl
        | false =>
          refine ifF (by decide) ?_
          exact ⟨_, _, _, ks, rfl, same_trans s5 s67, hU7, by rw [if_neg (by decide), List.append_nil]; exact eK⟩
    · rintro σ H5 ⟨o9, o10, o11, ks, rfl, s5, hU, eK⟩
      have e : (usedL N (place "town" gs x) (place "town" gs y)).take (us.map fun t => V.ref t.1).length = usedL N (place "town" gs x) (place "town" gs y) := List.take_of_length_le (by
        rw [← eZ, prs, List.length_map, List.length_map]
        exact Nat.le_refl _)
      rw [e] at eK
      exact ⟨_, rfl, z U ks H5 (fun b o e => s5 _ _ (b24 _ _ (s12 _ _ e))) nHU hU (by rw [eK, ← hu]; rfl) l60⟩
end
end K13
end
section
set_option Elab.async false
set_option linter.all false
set_option maxRecDepth 100000
set_option maxHeartbeats 4000000
namespace K13
open PySem PySem.Spec PyProof.Rows L2
theorem FarD.get {H : Hp} {D a : Addr} {M : P2 → Option Int} {c : Nat} {v : P2} (h : FarD H D M c) (ha : PaAt H a v) : DGet H D (.ref a) ((M v).map V.int) := by
  cases e : M v with
  | none => exact h.lacks ha e
  | some d =>
    obtain ⟨y, g, q⟩ := h.gets ha e
    obtain rfl : y = .int d := q
    exact g
theorem FarD.keep {H H' : Hp} {D : Addr} {M : P2 → Option Int} {c : Nat} (h : FarD H D M c) (s : Same H H') : FarD H' D M c := DicD.keep h s fun _ _ x => x
section
variable {P : Program} {w : World} {K : PySem.W.Frag} {mg : Str → Option Value} {base : Heap}
/-! ### _law_used -/
def spLUsed : Sp := fun vs H Q _ => ∃ (l e a b : Addr) (rs : List (Addr × NR)) (s t : P2), vs = [.ref l, .ref e] ∧ NL H l rs ∧ rs.length ≤ 60 ∧ NOk (nrs rs) ∧ H e = some (.lst [.ref a, .ref b]) ∧ PaAt H a s ∧ PaAt H b t ∧
  ∀ (D : Addr) (ks : List (Addr × P2)) H', Same H H' → H D = none → PL H' D ks → prs ks = usedL (nrs rs) s t → Q (.ref D) H'
abbrev NLu : List Str := ["_law_net_here", "_law_ends", "_law_ahead", "_law_behind", "_law_found", "_law_key", "_law_begin", "_law_end", "_law_width_here", "_law_length_here", "_law_row"]
theorem scLu : FnScope NLu ["_law_net_here", "_law_ends"] (defScope sUsed) := ⟨rfl, rfl, rfl, by decide +kernel, rfl, by decide +kernel, by decide +kernel⟩
abbrev FarZ (P : Program) (w : World) (K : PySem.W.Frag) (mg : Str → Option Value) (base : Heap) : Prop := Fz P w K mg base "_law_far" 1 ["_law_net_here", "_law_start"] spFar
theorem usedL_none {N : List NR} {s t : P2} (h : dist N s t = none) : usedL N s t = [] := by
  unfold usedL
  rw [List.filter_eq_nil_iff.mpr]
  · rfl
  · intro e he
    unfold usB
    rw [h]
    cases dist N s e.st with
    | none => simp
    | some a =>
      cases dist (N.map rev) t e.en with
      | none => simp
      | some b => simp
theorem ok_lused {f : Addr} {fd : FuncData} (F : FnP K "_law_used" sUsed f fd) (GF : FarZ P w K mg base) : FnOk P w K mg base CX0 2 f fd ["_law_net_here", "_law_ends"] spLUsed := by
  refine F.ok scLu (fun vs H Q E h => ?_) (fun cdv A outer s H vs Q E hr h => ?_)
  · obtain ⟨_, _, _, _, _, _, _, rfl, _⟩ := h
    rfl
  · obtain ⟨l, e, a, b, rs, s0, t0, rfl, hl, l60, ok, he, ha, hb, z⟩ := h
    have sl := sizeLine_eq
    have five : 5 ≤ sizeLine := by omega
    have hu1 := hr.units
    have u1 : (A.deeper (envOfC "_law_used" (defScope sUsed) s.heap.objs.size f cdv)).units + 1 < cLine := by omega
    refine ⟨_, PSs.nox (pss_cons (ps_set (i := 2) scLu.nd rfl (Or.inl rfl) (pe_fz GF hr (by rfl) (pa_cons (pv 0) (pa_cons (pe_ix ix_list (pv 1) pe_int (fun _ _ => rfl)) pa_nil))))
      (pss_cons (ps_set (i := 3) scLu.nd rfl (Or.inl rfl) (pe_fz GF hr (by rfl) (pa_cons (pe_lc (own := [("_law_row", 10)]) (g := gName 10) (tt := tYes)
          (te := tTup (tCons (tOp (rIxT K) (tVar 10) (tC (.int ((0 : Nat) : Int)))) (tCons (tOp (rIxT K) (tVar 10) (tC (.int ((2 : Nat) : Int)))) (tCons (tOp (rIxT K) (tVar 10) (tC (.int ((1 : Nat) : Int)))) (tCons (tOp (rIxT K) (tVar 10) (tC (.int ((3 : Nat) : Int)))) (tCons (tOp (rIxT K) (tVar 10) (tC (.int ((4 : Nat) : Int)))) tNil))))))
          rfl scLu.nd (pi_list (pv 0)) (blkOk_by (own := [("_law_row", 10)]) (N := NLu) (sc := defScope sUsed) (by decide +kernel))
          (fun _ _ _ _ _ => pg_name (i := 10) scLu.nd rfl (Or.inl rfl)) (fun _ _ _ _ _ => pts_nil)
          (fun _ _ _ _ _ => pe_tup (pa_cons (pe_ix ix_tup (pv 10) pe_int (fun _ _ => rfl)) (pa_cons (pe_ix ix_tup (pv 10) pe_int (fun _ _ => rfl)) (pa_cons (pe_ix ix_tup (pv 10) pe_int (fun _ _ => rfl)) (pa_cons (pe_ix ix_tup (pv 10) pe_int (fun _ _ => rfl)) (pa_cons (pe_ix ix_tup (pv 10) pe_int (fun _ _ => rfl)) pa_nil)))))))
        (pa_cons (pe_ix ix_list (pv 1) pe_int (fun _ _ => rfl)) pa_nil))))
      (pss_cons (ps_if (pt_cmp (pc_dnotin u1 (pe_ix ix_list (pv 1) pe_int (fun _ _ => rfl)) (pv 2))) (pss_one (ps_ret (pe_lst pa_nil))) pss_nil)
      (pss_cons (ps_set (i := 4) scLu.nd rfl (Or.inl rfl) (pe_lst pa_nil))
      (pss_cons (ps_for PassesOwn.never rfl (pi_list (pv 0)) (pg_tup rfl (pgs_cons (pg_name (i := 5) scLu.nd rfl (Or.inl rfl)) (pgs_cons (pg_name (i := 6) scLu.nd rfl (Or.inl rfl)) (pgs_cons (pg_name (i := 7) scLu.nd rfl (Or.inl rfl)) (pgs_cons (pg_name (i := 8) scLu.nd rfl (Or.inl rfl)) (pgs_cons (pg_name (i := 9) scLu.nd rfl (Or.inl rfl)) pgs_nil))))))
        (pss_one (ps_if (PW.pt (pw_and (pt_cmpR op_gt (pv 8) pe_int (nomark _)) (pw_and (pt_cmp (pc_din u1 (pv 6) (pv 2))) (pw_and (pt_cmp (pc_din u1 (pv 7) (pv 3))) (pw_and1 (pt_cmpR op_eq (pe_op op_add (pe_op op_add (pe_dget u1 (pv 2) (pv 6) (fun _ _ => rfl)) (pv 9)) (pe_dget u1 (pv 3) (pv 7) (fun _ _ => rfl))) (pe_dget u1 (pv 2) (pe_ix ix_list (pv 1) pe_int (fun _ _ => rfl)) (fun _ _ => rfl)) (nomark _)))))))
          (pss_one (ps_expr (pe_bm PySem.F.plainAttrs_list PySem.F.slot_list_append PySem.F.type_list_append mt_append (pv 4) (pa_cons (pv 5) pa_nil)))) pss_nil)))
      (pss_one (ps_ret (pv 4)))))))), ?_⟩
    have hn := ok.ln
    refine ⟨_, rfl, _, rfl, e, _, ((0 : Nat) : Int), _, rfl, rfl, SqL.of he, atI_nat rfl, l, a, rs, s0, rfl, hl, l60, hn, ha, fun X F1 H1 s1 nX hX eF => ?_⟩
    obtain rfl := eF.eq hn
    have hl1 := hl.keep s1
    refine ⟨_, rfl, l, rfl, ⟨_, SqL.of hl1.at_⟩, fun B nB => ?_⟩
    refine H3.lc_gen (us := rs) (vf := fun t => V.ref t.1) (p := fun _ => true) (R := fun t y H' => ∃ a, y = .ref a ∧ NAt (del H' B) a (rev t.2)) nB hl1.at_ (by omega) (fun u y H H' ⟨a, h1, h2⟩ k => ⟨a, h1, h2.keep (del_but k)⟩) (fun t ht H2 s2 hB N N0 n1 _ => ?_) (fun H2 zs s2 hB eZ hR => ?_)
    · have ht1 := (hl1.each t ht).keep s2
      obtain ⟨acc, hB⟩ := hB
      obtain ⟨ak, ab, ae, g0, g1, g2, g3⟩ := ht1
      have nt : ∀ {a xs}, H2 a = some (.tup xs) → a ≠ B := fun {a xs} e z => by rw [z, hB] at e; cases e
      have sq := SqT.of (K := K) g0
      refine ⟨rfl, _, rfl, t.1, _, ((0 : Nat) : Int), _, rfl, rfl, sq, atI_nat rfl, _, rfl, t.1, _, ((2 : Nat) : Int), _, rfl, rfl, sq, atI_nat rfl, _, rfl, t.1, _, ((1 : Nat) : Int), _, rfl, rfl, sq, atI_nat rfl, _, rfl, t.1, _, ((3 : Nat) : Int), _, rfl, rfl, sq, atI_nat rfl, _, rfl, t.1, _, ((4 : Nat) : Int), _, rfl, rfl, sq, atI_nat rfl, five, fun r nr => ?_⟩
      have k4 := same_upd (o := .tup [V.ref ak, V.ref ae, V.ref ab, V.int t.2.wd, V.int t.2.ln]) nr
      have d4 : r ≠ B := (ne_of_none hB nr).symm
      exact n1 rfl _ _ k4 ⟨r, rfl, ak, ae, ab, del_of upd_same d4, del_of (k4 _ _ g1) (nt g1), del_of (k4 _ _ g3) (nt g3), del_of (k4 _ _ g2) (nt g2)⟩
    · have e1 : (zs.map fun z => z.1) = rs := by rw [eZ, List.filter_eq_self.mpr (fun _ _ => rfl)]
      obtain ⟨qs, h1, h2, h3⟩ : ∃ qs : List (Addr × NR), (zs.map fun z => z.2) = qs.map (fun t => V.ref t.1) ∧ nrs qs = (nrs (zs.map fun z => z.1)).map rev ∧ ∀ t ∈ qs, NAt (del H2 B) t.1 t.2 := by
        clear hB eZ e1
        induction zs with
        | nil => exact ⟨[], rfl, rfl, fun t ht => by simp at ht⟩
        | cons z zs ih =>
          obtain ⟨rs, h1, h2, h3⟩ := ih fun z hz => hR z (List.mem_cons_of_mem _ hz)
          obtain ⟨a, e, h⟩ := hR z List.mem_cons_self
          refine ⟨(a, rev z.1.2) :: rs, by rw [List.map_cons, List.map_cons, h1, e], by rw [nrs, List.map_cons, List.map_cons, nrs, List.map_cons, List.map_cons]; exact congrArg _ h2, fun t ht => ?_⟩
          rcases List.mem_cons.mp ht with rfl | ht
          · exact h
          · exact h3 t ht
      rw [e1] at h2
      have hB2 : NL H2 B qs := ⟨by rw [hB, h1], fun t ht => (h3 t ht).keep del_same⟩
      have lq : qs.length ≤ 60 := by
        have := congrArg List.length h2
        rw [nrs, List.length_map, List.length_map, List.length_map] at this
        omega
      have s12 := same_trans s1 s2
      refine ⟨_, rfl, e, _, ((1 : Nat) : Int), _, rfl, rfl, SqL.of (s12 _ _ he), atI_nat rfl, B, b, qs, t0, rfl, hB2, lq, by rw [h2]; exact (rev_ok ok).1, s12 _ _ hb, fun Y F2 H3 s3 nY hY eG => ?_⟩
      rw [h2] at eG
      obtain rfl := eG.eq (rev_ok ok).1
      have s13 := same_trans s12 s3
      have hX3 := (hX.keep s2).keep s3
      have he3 := s13 _ _ he
      have hb3 : PaAt H3 b t0 := s13 _ _ hb
      refine ⟨_, rfl, e, _, ((1 : Nat) : Int), _, rfl, rfl, SqL.of he3, atI_nat rfl, _, rfl, X, _, rfl, hX3.get hb3, _, rfl, ?_⟩
      cases hd : dist (nrs rs) s0 t0 with
      | none =>
        refine ifT rfl ?_
        refine ⟨Nat.zero_le _, fun U nU => ?_⟩
        exact z U [] _ (same_trans s13 (same_upd nU)) (s13.free nU) ⟨upd_same, fun t h => by simp at h⟩ (by rw [usedL_none hd]; rfl)
      | some dd =>
        refine ifF (fun h => by cases h) ?_
        refine ⟨Nat.zero_le _, fun U nU => ?_⟩
        have s4 := same_upd (o := .lst []) nU
        have hU0 : PL (upd H3 U (.lst [])) U [] := ⟨upd_same, fun t h => by simp at h⟩
        have nHU : H U = none := s13.free nU
        have hl3 := hl.keep s13
        generalize upd H3 U (.lst []) = H4 at s4 hU0 ⊢
        refine ⟨_, rfl, l, rfl, ⟨_, SqL.of (s4 _ _ hl3.at_)⟩, ?_⟩
        generalize hu : usB (dist (nrs rs) s0) (dist ((nrs rs).map rev) t0) t0 = u
        refine for_list (K := K) (a := l) (xs := rs.map fun t => V.ref t.1) (fun j σ H' => ∃ (o5 o6 o7 o8 o9 o10 : Option V) (ks : List (Addr × P2)), σ = [some (.ref l), some (.ref e), some (.ref X), some (.ref Y), some (.ref U), o5, o6, o7, o8, o9, o10] ∧
            Same H3 H' ∧ PL H' U ks ∧ prs ks = (((nrs rs).take j).filter u).map NR.key)
          ⟨_, _, _, _, _, _, [], rfl, s4, hU0, rfl⟩ (fun j σ H' _ h => by
            obtain ⟨_, _, _, _, _, _, _, _, s, _⟩ := h
            exact SqL.of (s _ _ hl3.at_)) ?_ ?_
        · rintro j v σ H8 hj ⟨o5, o6, o7, o8, o9, o10, ks, rfl, s8, hU, eK⟩
          obtain ⟨t, ht, rfl⟩ := at_map hj
          have jl := (List.getElem?_eq_some_iff.mp ht).1
          obtain ⟨ak, ab, ae, g0, g1, g2, g3⟩ := (hl3.each t (List.mem_of_getElem? ht)).keep s8
          have htn : (nrs rs)[j]? = some t.2 := by rw [nrs, List.getElem?_map, ht]; rfl
          have tf := take_filter (u := u) htn
          have gX := (hX3.keep s8).get g2
          have gY := (hY.keep s8).get g3
          have gZ := (hX3.keep s8).get (s8 _ _ hb3)
          have he8 := s8 _ _ he3
          have lk : ks.length ≤ 60 := by
            have h1 := congrArg List.length eK
            have h2 := filter_take_len (nrs rs) u j
            rw [prs, List.length_map, List.length_map] at h1
            omega
          refine ⟨t.1, _, rfl, SqT.of g0, rfl, _, _, rfl, _, _, rfl, _, _, rfl, _, _, rfl, _, _, rfl, rfl, ?_⟩
          rw [tf]
          have stay : u t.2 = false → ∃ (o5' o6' o7' o8' o9' o10' : Option V) (ks' : List (Addr × P2)), ([some (.ref l), some (.ref e), some (.ref X), some (.ref Y), some (.ref U), some (.ref ak), some (.ref ab), some (.ref ae), some (.int t.2.wd), some (.int t.2.ln), o10] : L2.St) = [some (.ref l), some (.ref e), some (.ref X), some (.ref Y), some (.ref U), o5', o6', o7', o8', o9', o10'] ∧
              Same H3 H8 ∧ PL H8 U ks' ∧ prs ks' = (((nrs rs).take j).filter u ++ (if u t.2 = true then [t.2] else [])).map NR.key := fun e => ⟨_, _, _, _, _, _, ks, rfl, s8, hU, by rw [e]; simpa using eK⟩
          refine ⟨_, rfl, _, _, rfl, rfl, _, rfl, ?_⟩
          by_cases hw : 0 < t.2.wd
          · refine ifT (decide_eq_true hw) ?_
            cases h1 : dist (nrs rs) s0 t.2.st with
            | none =>
              rw [h1] at gX
              refine ⟨_, rfl, _, rfl, X, _, rfl, gX, _, rfl, ?_⟩
              refine ifF (by decide) (ifF (by decide) (stay (by rw [← hu]; unfold usB; rw [decide_eq_true hw, h1]; rfl)))
            | some da =>
              rw [h1] at gX
              refine ⟨_, rfl, _, rfl, X, _, rfl, gX, _, rfl, ?_⟩
              refine ifT rfl ?_
              cases h2 : dist ((nrs rs).map rev) t0 t.2.en with
              | none =>
                rw [h2] at gY
                refine ⟨_, rfl, _, rfl, Y, _, rfl, gY, _, rfl, ?_⟩
                refine ifF (by decide) (ifF (by decide) (stay (by rw [← hu]; unfold usB; rw [decide_eq_true hw, h1, h2]; rfl)))
              | some db =>
                rw [h2] at gY
                rw [hd] at gZ
                refine ⟨_, rfl, _, rfl, Y, _, rfl, gY, _, rfl, ?_⟩
                refine ifT rfl ?_
                refine ⟨_, rfl, _, rfl, X, _, rfl, gX, _, rfl, _, _, rfl, rfl, _, rfl, _, rfl, Y, _, rfl, gY, _, _, rfl, rfl, _, rfl, _, rfl, e, _, ((1 : Nat) : Int), _, rfl, rfl, SqL.of he8, atI_nat rfl, X, _, rfl, gZ, rfl, _, rfl, ?_⟩
                have ue : u t.2 = decide (da + t.2.ln + db = dd) := by
                  rw [← hu]
                  unfold usB
                  rw [decide_eq_true hw, h1, h2, hd]
                  rfl
                refine ite2 (fun hc => ?_) (fun hc => ?_)
                · have hc := of_decide_eq_true hc
                  injection hc with hc
                  refine ⟨_, rfl, Or.inl ⟨rfl, _, SqL.of hU.at_⟩, _, rfl, U, _, _, rfl, rfl, hU.at_, by rw [List.length_map]; omega, ?_⟩
                  refine ⟨_, _, _, _, _, _, ks ++ [(ak, t.2.key)], rfl, fun b o e => ?_, pl_push hU g1, ?_⟩
                  · rw [upd_ne (ne_of_none e nU)]
                    exact s8 _ _ e
                  · rw [ue, if_pos (decide_eq_true hc), prs, List.map_append, List.map_append]
                    show prs ks ++ _ = _
                    rw [eK]
                    rfl
                · refine stay ?_
                  rw [ue, decide_eq_false]
                  exact fun e => hc (decide_eq_true (congrArg V.int e))
          · refine ifF (by simpa using hw) (ifF (by decide) (stay (by rw [← hu]; unfold usB; rw [decide_eq_false hw]; rfl)))
        · rintro σ H8 ⟨o5, o6, o7, o8, o9, o10, ks, rfl, s8, hU, eK⟩
          have e : (nrs rs).take (rs.map fun t => V.ref t.1).length = nrs rs := List.take_of_length_le (by
            rw [nrs, List.length_map, List.length_map]
            exact Nat.le_refl _)
          rw [e] at eK
          exact ⟨_, rfl, z U ks H8 (same_trans s13 s8) nHU hU (by rw [eK, ← hu]; rfl)⟩
end
end K13
end
section
set_option Elab.async false
set_option linter.all false
set_option maxRecDepth 100000
set_option maxHeartbeats 4000000
namespace K13
open PySem PySem.Spec PyProof.Rows L2
/-- a street shut, if it is named so -/
def shutS (k : Str) (s : S5) : S5 := if s.nm = k then ⟨s.nm, s.st, s.en, 0, s.ln⟩ else s
theorem shutS_ok {k : Str} {s : S5} (h : s.Ok) : (shutS k s).Ok := by
  unfold shutS
  split
  · exact ⟨h.1, h.2.1, h.2.2.1, h.2.2.2.1, Int.le_refl _, (by show (0 : Int) ≤ 1000000; decide), h.2.2.2.2.2.2⟩
  · exact h
theorem shutS_nm (k : Str) (s : S5) : (shutS k s).nm = s.nm := by
  unfold shutS
  split <;> rfl
theorem shutS_st (k : Str) (s : S5) : (shutS k s).st = s.st := by
  unfold shutS
  split <;> rfl
theorem shutS_en (k : Str) (s : S5) : (shutS k s).en = s.en := by
  unfold shutS
  split <;> rfl
theorem shutS_sok {k : Str} {ss : List S5} (h : SOk ss) : SOk (ss.map (shutS k)) := ⟨fun s hs => by
    obtain ⟨x, hx, rfl⟩ := List.mem_map.mp hs
    exact shutS_ok (h.ok x hx), by
    have e : nms (ss.map (shutS k)) = nms ss := by
      rw [nms, List.map_map]
      exact List.map_congr_left fun s _ => shutS_nm k s
    rw [e]
    exact h.nd, by rw [List.length_map]; exact h.l⟩
section
variable {P : Program} {w : World} {K : PySem.W.Frag} {mg : Str → Option Value} {base : Heap}
/-- a world that can be shut -/
structure Ws4 (H : Hp) (W ls lg : Addr) (ts : List (Addr × S5)) (gs : List Str) : Prop where
  at_ : ∃ x y, H W = some (.lst [.ref ls, .ref lg, x, y])
  s : Sts H ls ts
  g : Ws H lg gs
  so : SOk (snds ts)
  go : GOk gs
theorem Ws4.keep {H H' : Hp} {W ls lg : Addr} {ts : List (Addr × S5)} {gs : List Str} (h : Ws4 H W ls lg ts gs) (b : Same H H') : Ws4 H' W ls lg ts gs := by
  obtain ⟨⟨x, y, h1⟩, h2, h3, h4, h5⟩ := h
  exact ⟨⟨x, y, b _ _ h1⟩, h2.keep b, b _ _ h3, h4, h5⟩
theorem Ws4.wq {H : Hp} {W ls lg : Addr} {ts : List (Addr × S5)} {gs : List Str} (h : Ws4 H W ls lg ts gs) : Wq H W ls lg ts gs := by
  obtain ⟨⟨x, y, h1⟩, h2, h3, h4, h5⟩ := h
  exact ⟨⟨_, h1⟩, h2, h3, h4, h5⟩
theorem WoP.ws4 {H : Hp} {p W ls lg lc ln : Addr} {ts : List (Addr × S5)} {gs cs ns : List Str} (h : WoP H p W ls lg lc ln ts gs cs ns) : Ws4 H W ls lg ts gs := ⟨⟨_, _, h.at_⟩, h.wo.s, h.wo.g, h.wo.sok, h.wo.gok⟩
abbrev tCut (K : PySem.W.Frag) (i : Nat) : TE := tOp (rCatT K) (tOp (rCatT K) (tSl (rSlT K) (tVar i) tNoPart (tPart (tC (.int 3)))) (tTup (tCons (tC (.int 0)) tNil))) (tSl (rSlT K) (tVar i) (tPart (tC (.int 4))) tNoPart)
theorem cut_el {σ : L2.St} {i : Nat} {H : Hp} {Q : VK} {t : Addr × S5} (hv : σ[i]? = some (some (.ref t.1))) (h : H t.1 = some (.tup t.2.vals)) (q : ∀ r H', Same H H' → H r = none → H' r = some (.tup (S5.vals ⟨t.2.nm, t.2.st, t.2.en, 0, t.2.ln⟩)) → Q (.ref r) H') : tCut K i σ H Q := by
  have sl := sizeLine_eq
  refine ⟨_, hv, _, rfl, t.1, _, rfl, SqT.of h, by show ¬ (HT.sIx 5 0 none = 0 ∧ HT.sIx 5 5 (some 3) = 5); decide, fun A nA => ?_⟩
  rw [show cutV t.2.vals none (some 3) = [.str t.2.nm, .str t.2.st, .str t.2.en] from rfl]
  have s1 := same_upd (o := .tup [.str t.2.nm, .str t.2.st, .str t.2.en]) nA
  have gA : upd H A (.tup [.str t.2.nm, .str t.2.st, .str t.2.en]) A = some (.tup [.str t.2.nm, .str t.2.st, .str t.2.en]) := upd_same
  generalize upd H A (.tup [.str t.2.nm, .str t.2.st, .str t.2.en]) = H1 at s1 gA ⊢
  refine ⟨by show 1 ≤ sizeLine; omega, fun B nB => ?_⟩
  have s2 := same_upd (o := .tup [.int 0]) nB
  have gB : upd H1 B (.tup [.int 0]) B = some (.tup [.int 0]) := upd_same
  generalize upd H1 B (.tup [.int 0]) = H2 at s2 gB ⊢
  refine ⟨A, B, _, _, rfl, rfl, SqT.of (s2 _ _ gA), SqT.of gB, (fun e => by cases e), by show 3 + 1 ≤ sizeLine; omega, (fun e => by cases e), fun _ C nC => ?_⟩
  have s3 := same_upd (o := .tup [.str t.2.nm, .str t.2.st, .str t.2.en, .int 0]) nC
  have gC : upd H2 C (.tup [.str t.2.nm, .str t.2.st, .str t.2.en, .int 0]) C = some (.tup [.str t.2.nm, .str t.2.st, .str t.2.en, .int 0]) := upd_same
  show tSl _ _ _ _ σ (upd H2 C (.tup [.str t.2.nm, .str t.2.st, .str t.2.en, .int 0])) _
  generalize upd H2 C (.tup [.str t.2.nm, .str t.2.st, .str t.2.en, .int 0]) = H3 at s3 gC ⊢
  have s13 := same_trans s1 (same_trans s2 s3)
  refine ⟨_, hv, _, rfl, t.1, _, rfl, SqT.of (s13 _ _ h), by show ¬ (HT.sIx 5 0 (some 4) = 0 ∧ HT.sIx 5 5 none = 5); decide, fun D nD => ?_⟩
  rw [show cutV t.2.vals (some 4) none = [.int t.2.ln] from rfl]
  have s4 := same_upd (o := .tup [.int t.2.ln]) nD
  have gD : upd H3 D (.tup [.int t.2.ln]) D = some (.tup [.int t.2.ln]) := upd_same
  generalize upd H3 D (.tup [.int t.2.ln]) = H4 at s4 gD ⊢
  refine ⟨C, D, _, _, rfl, rfl, SqT.of (s4 _ _ gC), SqT.of gD, (fun e => by cases e), by show 4 + 1 ≤ sizeLine; omega, (fun e => by cases e), fun _ r nr => ?_⟩
  have s14 := same_trans s13 s4
  exact q r _ (same_trans s14 (same_upd nr)) (s14.free nr) upd_same
/-- the streets, shut or not, in a list that is made -/
theorem shut_list {H1 : Hp} {D : Addr} {ts : List (Addr × S5)} {k : Str} {zs : List ((Addr × S5) × V)} (e : (zs.map fun z => z.1) = ts) (hR : ∀ z ∈ zs, ∃ a, z.2 = .ref a ∧ del H1 D a = some (.tup (shutS k z.1.2).vals)) (hD : H1 D = some (.lst (zs.map fun z => z.2))) :
    ∃ ts' : List (Addr × S5), Sts H1 D ts' ∧ snds ts' = (snds ts).map (shutS k) := by
  obtain ⟨qs, h1, h2, h3⟩ : ∃ qs : List (Addr × S5), (zs.map fun z => z.2) = qs.map (fun t => V.ref t.1) ∧ snds qs = (snds (zs.map fun z => z.1)).map (shutS k) ∧ ∀ t ∈ qs, del H1 D t.1 = some (.tup t.2.vals) := by
    clear hD e
    induction zs with
    | nil => exact ⟨[], rfl, rfl, fun t ht => by simp at ht⟩
    | cons z zs ih =>
      obtain ⟨rs, h1, h2, h3⟩ := ih fun z hz => hR z (List.mem_cons_of_mem _ hz)
      obtain ⟨a, e, h⟩ := hR z List.mem_cons_self
      refine ⟨(a, shutS k z.1.2) :: rs, by rw [List.map_cons, List.map_cons, h1, e], by rw [snds, List.map_cons, List.map_cons, snds, List.map_cons, List.map_cons]; exact congrArg _ h2, fun t ht => ?_⟩
      rcases List.mem_cons.mp ht with rfl | ht
      · exact h
      · exact h3 t ht
  rw [e] at h2
  exact ⟨qs, ⟨by rw [hD, h1], fun t ht => del_same _ _ (h3 t ht)⟩, h2⟩
/-! ### _law_shut -/
def spShut : Sp := fun vs H Q _ => ∃ (W ls lg n : Addr) (ts : List (Addr × S5)) (gs : List Str) (k : Str), vs = [.ref W, .ref n] ∧ Ws4 H W ls lg ts gs ∧ ts.length ≤ 60 ∧ H n = some (.lst [.str k]) ∧
  ∀ (W' ls' : Addr) (ts' : List (Addr × S5)) H', Same H H' → Wq H' W' ls' lg ts' gs → snds ts' = (snds ts).map (shutS k) → Q (.ref W') H'
abbrev NSt : List Str := ["_law_world_here", "_law_names", "_law_streets", "_law_street"]
theorem scSt : FnScope NSt ["_law_world_here", "_law_names"] (defScope sShutW) := ⟨rfl, rfl, rfl, by decide +kernel, rfl, by decide +kernel, by decide +kernel⟩
theorem ok_shut {f : Addr} {fd : FuncData} (F : FnP K "_law_shut" sShutW f fd) : FnOk P w K mg base CX0 1 f fd ["_law_world_here", "_law_names"] spShut := by
  refine F.ok scSt (fun vs H Q E h => ?_) (fun cdv A outer s H vs Q E hr h => ?_)
  · obtain ⟨_, _, _, _, _, _, _, rfl, _⟩ := h
    rfl
  · obtain ⟨W, ls, lg, n, ts, gs, k, rfl, hW, t60, hn, z⟩ := h
    have sl := sizeLine_eq
    refine ⟨_, PSs.nox (pss_cons (ps_setLc (i := 2) (own := [("_law_street", 3)]) (g := gName 3) (tt := tYes) (te := tIf (tTest (tOp (rIn K false) (tOp (rIxT K) (tVar 3) (tC (.int ((0 : Nat) : Int)))) (tVar 1))) (tCut K 3) (tVar 3)) rfl scSt.nd rfl rfl rfl (pi_list (pe_ix ix_list (pv 0) pe_int (fun _ _ => rfl))) (blkOk_by (own := [("_law_street", 3)]) (N := NSt) (sc := defScope sShutW) (by decide +kernel))
        (fun _ _ _ _ _ => pg_name (i := 3) scSt.nd rfl (Or.inl rfl)) (fun _ _ _ _ _ => pts_nil)
        (fun _ _ _ _ _ => pe_ifExp (pt_cmpR op_in_seq (pe_ix ix_tup (pv 3) pe_int (fun _ _ => rfl)) (pv 1) rfl) (pe_op op_catT (pe_op op_catT (pe_slice sl_tup (pv 3) po_none (po_some pe_int)) (pe_tup (pa_cons pe_int pa_nil))) (pe_slice sl_tup (pv 3) (po_some pe_int) po_none)) (pv 3)))
      (pss_one (ps_ret (pe_lst (pa_cons (pv 2) (pa_cons (pe_ix ix_list (pv 0) pe_int (fun _ _ => rfl)) (pa_cons (pe_ix ix_list (pv 0) pe_int (fun _ _ => rfl)) (pa_cons (pe_ix ix_list (pv 0) pe_int (fun _ _ => rfl)) pa_nil)))))))), ?_⟩
    obtain ⟨⟨x, y, h0⟩, hs, hg, so, go⟩ := hW
    refine ⟨_, rfl, W, _, ((0 : Nat) : Int), _, rfl, rfl, SqL.of h0, atI_nat rfl, ls, rfl, ⟨_, SqL.of hs.1⟩, fun D nD => ?_⟩
    refine _root_.H3.lc_gen (us := ts) (vf := fun t => V.ref t.1) (p := fun _ => true) (R := fun t y H' => ∃ a, y = .ref a ∧ del H' D a = some (.tup (shutS k t.2).vals)) nD hs.1 (by omega) (fun u y H H' ⟨a, h1, h2⟩ kk => ⟨a, h1, del_but kk _ _ h2⟩) (fun t ht H1 s1 hD Nx N0 n1 n0 => ?_) (fun H1 zs s1 hD e hR => ?_)
    · obtain ⟨acc, hD⟩ := hD
      have ht1 := s1 _ _ (hs.2 t ht)
      refine ⟨rfl, ?_⟩
      refine ⟨_, rfl, t.1, _, ((0 : Nat) : Int), _, rfl, rfl, SqT.of ht1, atI_nat rfl, _, rfl, n, _, rfl, Or.inl (SqL.of (s1 _ _ hn)), rfl, rfl, _, rfl, ?_⟩
      rw [show ([V.str k] : List V) = [k].map V.str from rfl, inV_str]
      by_cases hk : t.2.nm = k
      · refine ifT (by show decide _ = true; simp [hk]) ?_
        refine cut_el (t := t) rfl ht1 fun r H2 s2 nr gr => n1 rfl _ _ s2 ⟨r, rfl, ?_⟩
        have e : shutS k t.2 = ⟨t.2.nm, t.2.st, t.2.en, 0, t.2.ln⟩ := if_pos hk
        rw [e]
        exact del_of gr (ne_of_none hD nr).symm
      · refine ifF (by show ¬ decide _ = true; simp [hk]) ?_
        refine ⟨_, rfl, n1 rfl _ _ (Same.refl _) ⟨t.1, rfl, ?_⟩⟩
        have e : shutS k t.2 = t.2 := if_neg hk
        rw [e]
        exact del_of ht1 fun q => by rw [q, hD] at ht1; cases ht1
    · have e1 : (zs.map fun z => z.1) = ts := by rw [e, List.filter_eq_self.mpr (fun _ _ => rfl)]
      obtain ⟨ts', hT, eT⟩ := shut_list e1 hR hD
      have h01 := s1 _ _ h0
      refine ⟨_, rfl, _, rfl, W, _, ((1 : Nat) : Int), _, rfl, rfl, SqL.of h01, atI_nat rfl, _, rfl, W, _, ((2 : Nat) : Int), _, rfl, rfl, SqL.of h01, atI_nat rfl, _, rfl, W, _, ((3 : Nat) : Int), _, rfl, rfl, SqL.of h01, atI_nat rfl, by show 4 ≤ sizeLine; omega, fun W' nW => ?_⟩
      have s2 := same_upd (o := .lst [V.ref D, V.ref lg, x, y]) nW
      exact z W' D ts' _ (same_trans s1 s2) ⟨⟨_, upd_same⟩, hT.keep s2, s2 _ _ (s1 _ _ hg), by rw [eT]; exact shutS_sok so, go⟩ eT
/-! ### _law_shut_one -/
def sideS (side : Str) (k : P2) (s : S5) : S5 := if k.1 = side then shutS k.2 s else s
def spShut1 : Sp := fun vs H Q _ => ∃ (W ls lg T a : Addr) (ts us : List (Addr × S5)) (gs : List Str) (k : P2), vs = [.ref W, .ref T, .ref a] ∧ Ws4 H W ls lg ts gs ∧ ts.length ≤ 60 ∧ Sts H T us ∧ SOk (snds us) ∧ us.length ≤ 60 ∧ PaAt H a k ∧ (k.1 = "quarter" ∨ k.1 = "town") ∧
  ∀ (D W' ls' T' : Addr) (ts' us' : List (Addr × S5)) H', Same H H' → H' D = some (.lst [.ref W', .ref T']) → Wq H' W' ls' lg ts' gs → Sts H' T' us' → SOk (snds us') → snds ts' = (snds ts).map (sideS "quarter" k) → snds us' = (snds us).map (sideS "town" k) → Q (.ref D) H'
abbrev NSo : List Str := ["_law_world_here", "_law_town_here", "_law_key", "_law_street"]
theorem scSo : FnScope NSo ["_law_world_here", "_law_town_here", "_law_key"] (defScope sShutOne) := ⟨rfl, rfl, rfl, by decide +kernel, rfl, by decide +kernel, by decide +kernel⟩
theorem sideS_other {side : Str} {k : P2} {ss : List S5} (h : k.1 ≠ side) : ss.map (sideS side k) = ss := by
  rw [show sideS side k = id from funext fun s => if_neg h, List.map_id]
theorem sideS_same {side : Str} {k : P2} (h : k.1 = side) : sideS side k = shutS k.2 := funext fun s => if_pos h
theorem ok_shut1 {f : Addr} {fd : FuncData} (F : FnP K "_law_shut_one" sShutOne f fd) (GS : Fz P w K mg base "_law_shut" 1 ["_law_world_here", "_law_names"] spShut) : FnOk P w K mg base CX0 2 f fd ["_law_world_here", "_law_town_here", "_law_key"] spShut1 := by
  refine F.ok scSo (fun vs H Q E h => ?_) (fun cdv A outer s H vs Q E hr h => ?_)
  · obtain ⟨_, _, _, _, _, _, _, _, _, rfl, _⟩ := h
    rfl
  · obtain ⟨W, ls, lg, T, a, ts, us, gs, k, rfl, hW, t60, hT, oT, u60, ha, hk, z⟩ := h
    have sl := sizeLine_eq
    refine ⟨_, PSs.nox (pss_cons (ps_if (pt_cmpR op_eq (pe_ix ix_tup (pv 2) pe_int (fun _ _ => rfl)) pe_str (nomark _)) (pss_one (ps_ret (pe_lst (pa_cons (pe_fz GS hr (by rfl) (pa_cons (pv 0) (pa_cons (pe_lst (pa_cons (pe_ix ix_tup (pv 2) pe_int (fun _ _ => rfl)) pa_nil)) pa_nil))) (pa_cons (pv 1) pa_nil))))) pss_nil)
      (pss_one (ps_ret (pe_lst (pa_cons (pv 0) (pa_cons (pe_lc (own := [("_law_street", 3)]) (g := gName 3) (tt := tYes) (te := tIf (tTest (tOp rEq (tOp (rIxT K) (tVar 3) (tC (.int ((0 : Nat) : Int)))) (tOp (rIxT K) (tVar 2) (tC (.int ((1 : Nat) : Int)))))) (tCut K 3) (tVar 3)) rfl scSo.nd (pi_list (pv 1)) (blkOk_by (own := [("_law_street", 3)]) (N := NSo) (sc := defScope sShutOne) (by decide +kernel))
        (fun _ _ _ _ _ => pg_name (i := 3) scSo.nd rfl (Or.inl rfl)) (fun _ _ _ _ _ => pts_nil)
        (fun _ _ _ _ _ => pe_ifExp (pt_cmpR op_eq (pe_ix ix_tup (pv 3) pe_int (fun _ _ => rfl)) (pe_ix ix_tup (pv 2) pe_int (fun _ _ => rfl)) (nomark _)) (pe_op op_catT (pe_op op_catT (pe_slice sl_tup (pv 3) po_none (po_some pe_int)) (pe_tup (pa_cons pe_int pa_nil))) (pe_slice sl_tup (pv 3) (po_some pe_int) po_none)) (pv 3))) pa_nil)))))), ?_⟩
    have ha' : H a = some (.tup [.str k.1, .str k.2]) := ha
    refine ⟨_, rfl, a, _, ((0 : Nat) : Int), _, rfl, rfl, SqT.of ha', atI_nat rfl, rfl, _, rfl, ?_⟩
    refine ite2 (fun hc => ?_) (fun hc => ?_)
    · have hc := of_decide_eq_true hc
      injection hc with hq
      refine ⟨_, rfl, _, rfl, a, _, ((1 : Nat) : Int), _, rfl, rfl, SqT.of ha', atI_nat rfl, by show 1 ≤ sizeLine; omega, fun n nn => ?_⟩
      have s1 := same_upd (o := .lst [V.str k.2]) nn
      have gn : upd H n (.lst [V.str k.2]) n = some (.lst [V.str k.2]) := upd_same
      generalize upd H n (.lst [V.str k.2]) = H1 at s1 gn ⊢
      refine ⟨W, ls, lg, n, ts, gs, k.2, rfl, hW.keep s1, t60, gn, fun W' ls' ts' H2 s2 hW' eT => ?_⟩
      refine ⟨_, rfl, by show 2 ≤ sizeLine; omega, fun D nD => ?_⟩
      have s12 := same_trans s1 s2
      have s3 := same_upd (o := .lst [V.ref W', V.ref T]) nD
      exact z D W' ls' T ts' us _ (same_trans s12 s3) upd_same (hW'.keep s3) (hT.keep (same_trans s12 s3)) oT (by rw [sideS_same hq]; exact eT) (by rw [sideS_other]; intro e; rw [hq] at e; exact absurd e (by decide +kernel))
    · have hq : k.1 = "town" := hk.resolve_left fun e => hc (decide_eq_true (congrArg V.str e))
      refine ⟨_, rfl, _, rfl, T, rfl, ⟨_, SqL.of hT.1⟩, fun D nD => ?_⟩
      refine _root_.H3.lc_gen (us := us) (vf := fun t => V.ref t.1) (p := fun _ => true) (R := fun t y H' => ∃ a, y = .ref a ∧ del H' D a = some (.tup (shutS k.2 t.2).vals)) nD hT.1 (by omega) (fun u y H H' ⟨a, h1, h2⟩ kk => ⟨a, h1, del_but kk _ _ h2⟩) (fun t ht H1 s1 hD Nx N0 n1 n0 => ?_) (fun H1 zs s1 hD e hR => ?_)
      · obtain ⟨acc, hD⟩ := hD
        have ht1 := s1 _ _ (hT.2 t ht)
        refine ⟨rfl, ?_⟩
        refine ⟨_, rfl, t.1, _, ((0 : Nat) : Int), _, rfl, rfl, SqT.of ht1, atI_nat rfl, _, rfl, a, _, ((1 : Nat) : Int), _, rfl, rfl, SqT.of (s1 _ _ ha'), atI_nat rfl, rfl, _, rfl, ?_⟩
        by_cases hk : t.2.nm = k.2
        · refine ifT (decide_eq_true (congrArg V.str hk)) ?_
          refine cut_el (t := t) rfl ht1 fun r H2 s2 nr gr => n1 rfl _ _ s2 ⟨r, rfl, ?_⟩
          have e : shutS k.2 t.2 = ⟨t.2.nm, t.2.st, t.2.en, 0, t.2.ln⟩ := if_pos hk
          rw [e]
          exact del_of gr (ne_of_none hD nr).symm
        · refine ifF (fun h => hk (by have h := of_decide_eq_true h; injection h)) ?_
          refine ⟨_, rfl, n1 rfl _ _ (Same.refl _) ⟨t.1, rfl, ?_⟩⟩
          have e : shutS k.2 t.2 = t.2 := if_neg hk
          rw [e]
          exact del_of ht1 fun q => by rw [q, hD] at ht1; cases ht1
      · have e1 : (zs.map fun z => z.1) = us := by rw [e, List.filter_eq_self.mpr (fun _ _ => rfl)]
        obtain ⟨us', hT', eT⟩ := shut_list e1 hR hD
        refine ⟨by show 2 ≤ sizeLine; omega, fun D2 nD2 => ?_⟩
        have s3 := same_upd (o := .lst [V.ref W, V.ref D]) nD2
        exact z D2 W ls D ts us' _ (same_trans s1 s3) upd_same ((hW.wq.keep s1).keep s3) (hT'.keep s3) (by rw [eT]; exact shutS_sok oT) (by rw [sideS_other]; intro e; rw [hq] at e; exact absurd e (by decide +kernel)) (by rw [sideS_same hq]; exact eT)
end
end K13
end
section
set_option Elab.async false
set_option linter.all false
set_option maxRecDepth 100000
set_option maxHeartbeats 4000000
namespace K13
open PySem PySem.Spec PyProof.Rows L2
section
variable {P : Program} {w : World} {K : PySem.W.Frag} {mg : Str → Option Value} {base : Heap}
/-! ### _law_exact of texts, and of pairs of texts, alike or not -/
def spExS : Sp := fun vs H Q _ => ∃ (x y : Str), vs = [.str x, .str y] ∧ ∀ H', Same H H' → Q (.bl (decide (x = y))) H'
def spExP : Sp := fun vs H Q _ => ∃ (a b : Addr) (x y : P2), vs = [.ref a, .ref b] ∧ PaAt H a x ∧ PaAt H b y ∧ ∀ H', Same H H' → Q (.bl (decide (x = y))) H'
theorem ok_exS {f : Addr} {fd : FuncData} (F : FnP K "_law_exact" sExact f fd) (T : Tx K mg) : FnOk P w K mg base CX0 1 f fd ["_law_one", "_law_other"] spExS := by
  refine F.ok scExact (fun vs H Q E h => ?_) (fun cdv A outer s H vs Q E hr h => ?_)
  · obtain ⟨_, _, rfl, _⟩ := h
    rfl
  · obtain ⟨x, y, rfl, q⟩ := h
    have gIs := T.fr "isinstance" (by decide +kernel)
    have gLi := T.fr "list" (by decide +kernel)
    have gTu := T.fr "tuple" (by decide +kernel)
    have gDi := T.fr "dict" (by decide +kernel)
    have gBo := T.fr "bool" (by decide +kernel)
    refine ⟨_, PSs.nox (pss_cons (ps_if (pt_val (pe_callB call_isiT (by rfl) gIs (by decide +kernel) (pa_cons (pv 0) (pa_cons (pe_tup (pa_cons (pe_bltn (v := .ty "list") (by rfl) gLi (by decide +kernel) rfl) (pa_cons (pe_bltn (v := .ty "tuple") (by rfl) gTu (by decide +kernel) rfl) pa_nil))) pa_nil)))) (pss_cons ps_never (pss_one ps_never)) pss_nil)
      (pss_cons (ps_if (pt_val (pe_callB call_isi (by rfl) gIs (by decide +kernel) (pa_cons (pv 0) (pa_cons (pe_bltn (v := .ty "dict") (by rfl) gDi (by decide +kernel) rfl) pa_nil)))) (pss_cons ps_never (pss_one ps_never)) pss_nil)
      (pss_one (ps_ret (pe_and (pe_cmpR op_eq (pe_callB call_isi (by rfl) gIs (by decide +kernel) (pa_cons (pv 0) (pa_cons (pe_bltn (v := .ty "bool") (by rfl) gBo (by decide +kernel) rfl) pa_nil))) (pe_callB call_isi (by rfl) gIs (by decide +kernel) (pa_cons (pv 1) (pa_cons (pe_bltn (v := .ty "bool") (by rfl) gBo (by decide +kernel) rfl) pa_nil))) (nomark _)) (pe_one (pe_cmpR op_eq (pv 0) (pv 1) (nomark _)))))))), ?_⟩
    have ty : ∀ H x, TyX K H (.str x) (.type "str") := fun H x => .base (.str x)
    refine ⟨_, rfl, (by show 2 ≤ sizeLine; decide +kernel), fun tp ntp => ?_⟩
    refine ⟨_, _, _, _, _, _, rfl, upd_same, .cons (.ty _) (.cons (.ty _) .nil), ty _ _, kitAny_cons (kit_ty (r := false) (by decide +kernel)) (fun _ => kitAny_cons (kit_ty (r := false) (by decide +kernel)) (fun _ => kitAny_nil) (fun z => nomatch z)) (fun z => nomatch z), _, rfl, ifF (by decide) ?_⟩
    refine ⟨_, rfl, _, _, _, _, _, rfl, .ty _, ty _ _, kit_ty (r := false) (by decide +kernel), _, rfl, ifF (by decide) ?_⟩
    refine ⟨_, rfl, _, _, _, _, _, rfl, .ty _, ty _ _, kit_ty (r := false) (by decide +kernel), _, rfl, _, _, _, _, _, rfl, .ty _, ty _ _, kit_ty (r := false) (by decide +kernel), rfl, _, rfl, ifT (by simp) ?_⟩
    refine ⟨_, rfl, _, rfl, rfl, ?_⟩
    have e : decide (V.str x = V.str y) = decide (x = y) := by
      have : (V.str x = V.str y) ↔ x = y := ⟨fun h => by injection h, fun h => by rw [h]⟩
      simp only [this]
    rw [e]
    exact q _ (same_upd ntp)
theorem ok_exP {f : Addr} {fd : FuncData} (F : FnP K "_law_exact" sExact f fd) (hm : mg "_law_exact" = some (.ref f)) (hk : PySem.W.keepIn K (.ref f) = true) (hb : Binds K fd ["_law_one", "_law_other"] []) (T : Tx K mg) : FnOk P w K mg base CX0 2 f fd ["_law_one", "_law_other"] spExP := by
  refine F.ok scExact (fun vs H Q E h => ?_) (fun cdv A outer s H vs Q E hr h => ?_)
  · obtain ⟨_, _, _, _, rfl, _⟩ := h
    rfl
  · obtain ⟨a, b, x, y, rfl, ha, hb', q⟩ := h
    have ih : FnOk P w K mg base CX0 1 f fd ["_law_one", "_law_other"] spExS := ok_exS F T
    have gIs := T.fr "isinstance" (by decide +kernel)
    have gLi := T.fr "list" (by decide +kernel)
    have gTu := T.fr "tuple" (by decide +kernel)
    have gDi := T.fr "dict" (by decide +kernel)
    have gL := T.fr "len" (by decide +kernel)
    have gA := T.fr "all" (by decide +kernel)
    have gZ := T.fr "zip" (by decide +kernel)
    have GR : Fz P w K mg base "_law_exact" 1 ["_law_one", "_law_other"] spExS := ⟨f, fd, ih, hm, hk, hb⟩
    have gBo := T.fr "bool" (by decide +kernel)
    refine ⟨_, PSs.nox (pss_cons (ps_if (pt_val (pe_callB call_isiT (by rfl) gIs (by decide +kernel) (pa_cons (pv 0) (pa_cons (pe_tup (pa_cons (pe_bltn (v := .ty "list") (by rfl) gLi (by decide +kernel) rfl) (pa_cons (pe_bltn (v := .ty "tuple") (by rfl) gTu (by decide +kernel) rfl) pa_nil))) pa_nil)))) (pss_cons (ps_set (i := 2) scExact.nd rfl (Or.inl rfl) (pe_and (pe_cmpR op_eq (pe_callB call_isi (by rfl) gIs (by decide +kernel) (pa_cons (pv 1) (pa_cons (pe_bltn (v := .ty "list") (by rfl) gLi (by decide +kernel) rfl) pa_nil))) (pe_callB call_isi (by rfl) gIs (by decide +kernel) (pa_cons (pv 0) (pa_cons (pe_bltn (v := .ty "list") (by rfl) gLi (by decide +kernel) rfl) pa_nil))) (nomark _)) (pe_one (pe_cmpR op_eq (pe_callB call_isi (by rfl) gIs (by decide +kernel) (pa_cons (pv 1) (pa_cons (pe_bltn (v := .ty "tuple") (by rfl) gTu (by decide +kernel) rfl) pa_nil))) (pe_callB call_isi (by rfl) gIs (by decide +kernel) (pa_cons (pv 0) (pa_cons (pe_bltn (v := .ty "tuple") (by rfl) gTu (by decide +kernel) rfl) pa_nil))) (nomark _)))))
        (pss_one (ps_ret (pe_and (pv 2) (pe_and (pe_cmpR op_eq (pe_callB call_len_seq (by rfl) gL PySem.boot_len (pa_cons (pv 0) pa_nil)) (pe_callB call_len_seq (by rfl) gL PySem.boot_len (pa_cons (pv 1) pa_nil)) (nomark _)) (pe_one (pe_callB (cr_all rfl) (by rfl) gA (by decide +kernel)
          (pa_cons (pe_lc (own := [("_law_a", 3), ("_law_b", 4)]) (g := gTup K 2 (gCons (gName 3) (gCons (gName 4) gNil))) (tt := tYes) rfl scExact.nd (RZ.pi_zipA (by rfl) gZ (pa_cons (pv 0) (pa_cons (pv 1) pa_nil))) (blkOk_by (own := [("_law_a", 3), ("_law_b", 4)]) (N := NX) (sc := defScope sExact) (by decide +kernel))
            (fun _ _ _ _ _ => pg_tup rfl (pgs_cons (pg_name (i := 3) scExact.nd rfl (Or.inl rfl)) (pgs_cons (pg_name (i := 4) scExact.nd rfl (Or.inl rfl)) pgs_nil))) (fun _ _ _ _ _ => pts_nil) (fun _ _ _ _ _ => pe_fz GR hr (by rfl) (pa_cons (pv 3) (pa_cons (pv 4) pa_nil)))) pa_nil)))))))) pss_nil)
      (pss_cons (ps_if (pt_val (pe_callB call_isi (by rfl) gIs (by decide +kernel) (pa_cons (pv 0) (pa_cons (pe_bltn (v := .ty "dict") (by rfl) gDi (by decide +kernel) rfl) pa_nil)))) (pss_cons ps_never (pss_one ps_never)) pss_nil)
      (pss_one (ps_ret (pe_and (pe_cmpR op_eq (pe_callB call_isi (by rfl) gIs (by decide +kernel) (pa_cons (pv 0) (pa_cons (pe_bltn (v := .ty "bool") (by rfl) gBo (by decide +kernel) rfl) pa_nil))) (pe_callB call_isi (by rfl) gIs (by decide +kernel) (pa_cons (pv 1) (pa_cons (pe_bltn (v := .ty "bool") (by rfl) gBo (by decide +kernel) rfl) pa_nil))) (nomark _)) (pe_one (pe_cmpR op_eq (pv 0) (pv 1) (nomark _)))))))), ?_⟩
    have sl := sizeLine_eq
    have ha : H a = some (.tup [.str x.1, .str x.2]) := ha
    have hb' : H b = some (.tup [.str y.1, .str y.2]) := hb'
    refine ⟨_, rfl, (by show 2 ≤ sizeLine; decide +kernel), fun tp ntp => ?_⟩
    have s0 := same_upd (o := HO.tup [V.ty "list", V.ty "tuple"]) ntp
    refine ⟨_, _, _, _, _, _, rfl, upd_same, .cons (.ty _) (.cons (.ty _) .nil), .base (.tup (s0 _ _ ha)), kitAny_cons (kit_ty (r := false) (by decide +kernel)) (fun _ => kitAny_cons (kit_ty (r := true) (by decide +kernel)) (fun z => nomatch z) (fun _ => rfl)) (fun z => nomatch z), _, rfl, ifT rfl ?_⟩
    generalize upd H tp (.tup [V.ty "list", V.ty "tuple"]) = H1 at s0 ⊢
    have ha1 := s0 _ _ ha
    have hb1 := s0 _ _ hb'
    refine ⟨_, rfl, _, _, _, _, _, rfl, .ty _, .base (.tup hb1), kit_ty (r := false) (by decide +kernel), _, rfl, _, _, _, _, _, rfl, .ty _, .base (.tup ha1), kit_ty (r := false) (by decide +kernel), rfl, _, rfl, ifT (by simp) ?_⟩
    refine ⟨_, rfl, _, _, _, _, _, rfl, .ty _, .base (.tup hb1), kit_ty (r := true) (by decide +kernel), _, rfl, _, _, _, _, _, rfl, .ty _, .base (.tup ha1), kit_ty (r := true) (by decide +kernel), rfl, ?_⟩
    refine ⟨_, rfl, _, rfl, ifT (by simp) ?_⟩
    refine ⟨_, rfl, a, _, rfl, Or.inr (SqT.of ha1), _, rfl, b, _, rfl, Or.inr (SqT.of hb1), rfl, _, rfl, ifT (by simp) ?_⟩
    refine ⟨_, rfl, _, rfl, a, b, _, _, rfl, Or.inr ⟨SqT.of ha1, SqT.of hb1, fun D nD => ?_⟩⟩
    refine lc_it (walk_zipT (K := K) (a := a) (b := b) (xs := [.str x.1, .str x.2]) (ys := [.str y.1, .str y.2]) (n := 2) rfl) (fun j H' => Same H1 H' ∧ H' D = some (.lst (([decide (x.1 = y.1), decide (x.2 = y.2)].take j).map V.bl))) ⟨same_upd nD, upd_same⟩ (fun j H' _ h => ⟨SqT.of (h.1 _ _ ha1), SqT.of (h.1 _ _ hb1)⟩) ?_ ?_
    · rintro j v H2 H3 hj ⟨s1, hD⟩ ⟨Tp, u, z, rfl, nT, rfl, hu, hz⟩
      have s3 := same_upd (o := HO.tup [u, z]) nT
      have hT : upd H2 Tp (.tup [u, z]) Tp = some (.tup [u, z]) := upd_same
      generalize upd H2 Tp (.tup [u, z]) = H3 at s3 hT ⊢
      obtain ⟨x', y', ex, ey, eb⟩ : ∃ x' y' : Str, u = .str x' ∧ z = .str y' ∧ [decide (x.1 = y.1), decide (x.2 = y.2)].take (j + 1) = [decide (x.1 = y.1), decide (x.2 = y.2)].take j ++ [decide (x' = y')] := by
        match j, hj, hu, hz with
        | 0, _, hu, hz => exact ⟨x.1, y.1, (Option.some.inj hu).symm, (Option.some.inj hz).symm, rfl⟩
        | 1, _, hu, hz => exact ⟨x.2, y.2, (Option.some.inj hu).symm, (Option.some.inj hz).symm, rfl⟩
      subst ex ey
      refine ⟨Tp, _, rfl, SqT.of hT, rfl, _, _, rfl, _, _, rfl, rfl, rfl, _, rfl, _, rfl, x', y', rfl, fun H4 s4 => ?_⟩
      have hD4 := s4 _ _ (s3 _ _ hD)
      refine ⟨_, hD4, by rw [List.length_map, List.length_take]; show min j 2 < _; omega, fun b o eb => ?_, ?_⟩
      · rw [upd_ne (ne_of_none eb nD)]
        exact s4 _ _ (s3 _ _ (s1 _ _ eb))
      · rw [upd_same, eb, List.map_append]
        rfl
    · rintro H2 ⟨s1, hD⟩
      refine ⟨D, [decide (x.1 = y.1), decide (x.2 = y.2)], rfl, SqL.of hD, ?_⟩
      have e : [decide (x.1 = y.1), decide (x.2 = y.2)].all id = decide (x = y) := by
        by_cases h : x = y
        · rw [h]
          simp
        · rw [decide_eq_false h]
          have : ¬ (x.1 = y.1 ∧ x.2 = y.2) := fun z => h (Prod.ext z.1 z.2)
          simpa using this
      rw [e]
      exact q H2 (same_trans s0 s1)
end
end K13
end
section
set_option Elab.async false
set_option linter.all false
set_option maxRecDepth 100000
set_option maxHeartbeats 4000000
namespace K13
open PySem PySem.Spec PyProof.Rows L2
theorem filter_one {rs : List (Addr × NR)} (nd : ((nrs rs).map NR.key).Nodup) {t : Addr × NR} (ht : t ∈ rs) : (rs.filter fun r => decide (t.2.key = r.2.key)) = [t] := by
  induction rs with
  | nil => simp at ht
  | cons x rs ih =>
    rw [nrs, List.map_cons, List.map_cons, List.nodup_cons] at nd
    rcases List.mem_cons.mp ht with rfl | ht
    · rw [List.filter_cons, decide_eq_true rfl, if_pos rfl]
      congr 1
      rw [List.filter_eq_nil_iff]
      intro r hr h
      exact nd.1 (List.mem_map.mpr ⟨r.2, List.mem_map.mpr ⟨r, hr, rfl⟩, (of_decide_eq_true h).symm⟩)
    · have ne : ¬ t.2.key = x.2.key := fun h => nd.1 (List.mem_map.mpr ⟨t.2, List.mem_map.mpr ⟨t, ht, rfl⟩, h⟩)
      rw [List.filter_cons, decide_eq_false ne, if_neg (by decide)]
      exact ih nd.2 ht
section
variable {P : Program} {w : World} {K : PySem.W.Frag} {mg : Str → Option Value} {base : Heap}
/-! ### _law_rows_of -/
/-- a way: the keys of these rows -/
structure WayP (H : Hp) (n v : Addr) (rs : List (Addr × NR)) (ps : List (Addr × P2)) (l : List NR) : Prop where
  n : NL H n rs
  n60 : rs.length ≤ 60
  nd : ((nrs rs).map NR.key).Nodup
  v : PL H v ps
  e : prs ps = l.map NR.key
  i : ∀ e ∈ l, e ∈ nrs rs
  l : l.length ≤ 70
theorem WayP.keep {H H' : Hp} {n v : Addr} {rs : List (Addr × NR)} {ps : List (Addr × P2)} {l : List NR} (h : WayP H n v rs ps l) (s : Same H H') : WayP H' n v rs ps l := ⟨h.n.keep s, h.n60, h.nd, h.v.keep s, h.e, h.i, h.l⟩
def spRowsOf : Sp := fun vs H Q _ => ∃ (n v : Addr) (rs : List (Addr × NR)) (ps : List (Addr × P2)) (l : List NR), vs = [.ref n, .ref v] ∧ WayP H n v rs ps l ∧
  ∀ (D : Addr) (qs : List (Addr × NR)) H', Same H H' → NL H' D qs → nrs qs = l → Q (.ref D) H'
abbrev NRo : List Str := ["_law_net_here", "_law_value", "_law_found", "_law_key", "_law_row"]
theorem scRo : FnScope NRo ["_law_net_here", "_law_value"] (defScope sRowsOf) := ⟨rfl, rfl, rfl, by decide +kernel, rfl, by decide +kernel, by decide +kernel⟩
abbrev ExPZ (P : Program) (w : World) (K : PySem.W.Frag) (mg : Str → Option Value) (base : Heap) : Prop := Fz P w K mg base "_law_exact" 2 ["_law_one", "_law_other"] spExP
theorem ok_rowsOf {f : Addr} {fd : FuncData} (F : FnP K "_law_rows_of" sRowsOf f fd) (GX : ExPZ P w K mg base) (T : Tx K mg) : FnOk P w K mg base CX0 3 f fd ["_law_net_here", "_law_value"] spRowsOf := by
  refine F.ok scRo (fun vs H Q E h => ?_) (fun cdv A outer s H vs Q E hr h => ?_)
  · obtain ⟨_, _, _, _, _, rfl, _⟩ := h
    rfl
  · obtain ⟨n, v, rs, ps, l, rfl, I, z⟩ := h
    have sl := sizeLine_eq
    have gL := T.fr "len" (by decide +kernel)
    have lps : ps.length = l.length := by
      have := congrArg List.length I.e
      rwa [prs, List.length_map, List.length_map] at this
    have l70 := I.l
    have n60 := I.n60
    refine ⟨_, PSs.nox (pss_cons (ps_set (i := 2) scRo.nd rfl (Or.inl rfl) (pe_lst pa_nil))
      (pss_cons (ps_for PassesOwn.never rfl (pi_list (pv 1)) (pg_name (i := 3) scRo.nd rfl (Or.inr rfl))
        (pss_one (ps_set (i := 2) scRo.nd rfl (Or.inl rfl) (pe_op op_cat (pv 2) (pe_slice sl_list
          (pe_lc (own := [("_law_row", 4)]) (g := gName 4) (tt := tB (tCall spExP [] E0 (tCons (tVar 3) (tCons (tOp (rIxT K) (tVar 4) (tC (.int ((0 : Nat) : Int)))) tNil)))) (te := tVar 4) rfl scRo.nd (pi_list (pv 0)) (blkOk_by (own := [("_law_row", 4)]) (N := NRo) (sc := defScope sRowsOf) (by decide +kernel))
            (fun _ _ _ _ _ => pg_name (i := 4) scRo.nd rfl (Or.inl rfl)) (fun _ _ _ _ _ => pts_one (pt_val (pe_fz GX hr (by rfl) (pa_cons (pv 3) (pa_cons (pe_ix ix_tup (pv 4) pe_int (fun _ _ => rfl)) pa_nil))))) (fun _ _ _ _ _ => pv 4))
          po_none (po_some pe_int))))))
      (pss_one (ps_ret (pe_ifExp (pt_cmpR op_eq (pe_callB call_len_seq (by rfl) gL PySem.boot_len (pa_cons (pv 2) pa_nil)) (pe_callB call_len_seq (by rfl) gL PySem.boot_len (pa_cons (pv 1) pa_nil)) (nomark _)) (pv 2) (pe_lst pa_nil)))))), ?_⟩
    refine ⟨Nat.zero_le _, fun F0 nF => ?_⟩
    have s1 := same_upd (o := .lst []) nF
    have hF0 : NL (upd H F0 (.lst [])) F0 [] := ⟨upd_same, fun t h => by simp at h⟩
    generalize upd H F0 (.lst []) = H1 at s1 hF0 ⊢
    refine ⟨_, rfl, v, rfl, ⟨_, SqL.of (s1 _ _ I.v.at_)⟩, ?_⟩
    refine for_list (K := K) (a := v) (xs := ps.map fun t => V.ref t.1) (fun j σ H' => ∃ (o3 o4 : Option V) (F : Addr) (qs : List (Addr × NR)), σ = [some (.ref n), some (.ref v), some (.ref F), o3, o4] ∧ Same H H' ∧ NL H' F qs ∧ nrs qs = l.take j)
      ⟨_, _, F0, [], rfl, s1, hF0, rfl⟩ (fun j σ H' _ h => by obtain ⟨_, _, _, _, _, s, _⟩ := h; exact SqL.of (s _ _ I.v.at_)) ?_ ?_
    · rintro j x σ H3 hj ⟨o3, o4, F1, qs, rfl, s3, hF, eQ⟩
      obtain ⟨p, hp, rfl⟩ := at_map hj
      have jl := (List.getElem?_eq_some_iff.mp hp).1
      have J := I.keep s3
      have hp3 : PaAt H3 p.1 p.2 := J.v.each p (List.mem_of_getElem? hp)
      obtain ⟨e0, he0, ek⟩ : ∃ e0, l[j]? = some e0 ∧ e0.key = p.2 := by
        have h1 : (l.map NR.key)[j]? = some p.2 := by rw [← I.e, prs, List.getElem?_map, hp]; rfl
        rw [List.getElem?_map] at h1
        obtain ⟨e0, h2, h3⟩ := Option.map_eq_some_iff.mp h1
        exact ⟨e0, h2, h3⟩
      obtain ⟨t0, ht0, et0⟩ := List.mem_map.mp (I.i e0 (List.mem_of_getElem? he0))
      have et0 : t0.2 = e0 := et0
      have lq : qs.length ≤ 70 := by
        have := congrArg List.length eQ
        rw [nrs, List.length_map, List.length_take] at this
        omega
      refine ⟨_, rfl, _, rfl, n, rfl, ⟨_, SqL.of J.n.at_⟩, fun M nM => ?_⟩
      refine _root_.H3.lc_gen (us := rs) (vf := fun t => V.ref t.1) (p := fun r => decide (p.2 = r.2.key)) (R := fun r y _ => y = .ref r.1) nM J.n.at_ (by omega) (fun u y H H' h k => h) (fun r hr H6 s6 hM Nx N0 n1 n0 => ?_) (fun H6 zs s6 hM e hR => ?_)
      · obtain ⟨ak, ab, ae, q0, q1, q2, q3⟩ := (J.n.each r hr).keep s6
        refine ⟨rfl, _, rfl, _, rfl, r.1, _, ((0 : Nat) : Int), _, rfl, rfl, SqT.of q0, atI_nat rfl, p.1, ak, p.2, r.2.key, rfl, s6 _ _ hp3, q1, fun H7 s7 => ⟨_, rfl, ?_⟩⟩
        by_cases hk : p.2 = r.2.key
        · refine ifT (decide_eq_true hk) ⟨_, rfl, ?_⟩
          exact n1 (by simp [hk]) _ _ s7 rfl
        · refine ifF (by simp [hk]) (n0 (by simp [hk]) _ s7)
      · have e1 : (zs.map fun z => z.1) = [t0] := by
          rw [← filter_one I.nd ht0, e, et0, ek]
        have e2 : (zs.map fun z => z.2) = [V.ref t0.1] := by
          rw [show (zs.map fun z => z.2) = (zs.map fun z => z.1).map fun t => V.ref t.1 from by rw [List.map_map]; exact List.map_congr_left fun z hz => hR z hz, e1]
          rfl
        rw [e2] at hM
        refine ⟨_, rfl, M, _, rfl, SqL.of hM, fun C nC => ?_⟩
        rw [show cutV [V.ref t0.1] none (some 1) = [V.ref t0.1] from rfl]
        have s7 := same_upd (o := .lst [V.ref t0.1]) nC
        have gC : upd H6 C (.lst [V.ref t0.1]) C = some (.lst [V.ref t0.1]) := upd_same
        generalize upd H6 C (.lst [V.ref t0.1]) = H7 at s7 gC ⊢
        have s37 := same_trans s6 s7
        have hF7 := hF.keep s37
        refine ⟨F1, C, _, _, rfl, rfl, hF7.at_, gC, by rw [List.length_map]; show qs.length + 1 ≤ sizeLine; omega, fun G nG => ?_⟩
        have s8 := same_upd (o := .lst ((qs.map fun t => V.ref t.1) ++ [V.ref t0.1])) nG
        refine ⟨_, _, G, qs ++ [t0], rfl, same_trans s3 (same_trans s37 s8), ⟨by rw [upd_same, List.map_append]; rfl, fun u hu => ?_⟩, ?_⟩
        · rcases List.mem_append.mp hu with h | h
          · exact (hF7.each u h).keep s8
          · rw [List.mem_singleton.mp h]
            exact (J.n.each t0 ht0).keep (same_trans s37 s8)
        · rw [nrs, List.map_append, List.take_add_one, he0]
          show nrs qs ++ [t0.2] = _
          rw [eQ, et0]
          rfl
    · rintro σ H3 ⟨o3, o4, F1, qs, rfl, s3, hF, eQ⟩
      have e : l.take (ps.map fun t => V.ref t.1).length = l := List.take_of_length_le (by rw [List.length_map, lps]; exact Nat.le_refl _)
      rw [e] at eQ
      have lq : qs.length = l.length := by
        have := congrArg List.length eQ
        rwa [nrs, List.length_map] at this
      refine ⟨_, rfl, F1, _, rfl, Or.inl (SqL.of hF.at_), _, rfl, v, _, rfl, Or.inl (SqL.of (s3 _ _ I.v.at_)), rfl, _, rfl, ?_⟩
      refine ifT (by rw [List.length_map, List.length_map, lq, lps]; simp) ?_
      exact ⟨_, rfl, z F1 qs H3 s3 hF eQ⟩
/-! ### _law_way_length -/
def spWlL : Sp := fun vs H Q _ => ∃ (n v : Addr) (rs : List (Addr × NR)) (ps : List (Addr × P2)) (l : List NR), vs = [.ref n, .ref v] ∧ WayP H n v rs ps l ∧ ∀ H', Same H H' → Q (.int (lenS l)) H'
abbrev NWL : List Str := ["_law_net_here", "_law_way", "_law_row"]
theorem scWL : FnScope NWL ["_law_net_here", "_law_way"] (defScope sWayLen) := ⟨rfl, rfl, rfl, by decide +kernel, rfl, by decide +kernel, by decide +kernel⟩
theorem sum_len : ∀ l : List NR, (l.map NR.ln).sum = lenS l
  | [] => rfl
  | x :: l => by rw [List.map_cons, List.sum_cons, lenS_cons, sum_len l]
theorem ok_wlL {f : Addr} {fd : FuncData} (F : FnP K "_law_way_length" sWayLen f fd) (GR : Fz P w K mg base "_law_rows_of" 3 ["_law_net_here", "_law_value"] spRowsOf) (T : Tx K mg) : FnOk P w K mg base CX0 4 f fd ["_law_net_here", "_law_way"] spWlL := by
  refine F.ok scWL (fun vs H Q E h => ?_) (fun cdv A outer s H vs Q E hr h => ?_)
  · obtain ⟨_, _, _, _, _, rfl, _⟩ := h
    rfl
  · obtain ⟨n, v, rs, ps, l, rfl, I, z⟩ := h
    have sl := sizeLine_eq
    have gS := T.fr "sum" (by decide +kernel)
    have l70 := I.l
    refine ⟨_, PSs.nox (pss_one (ps_ret (pe_callB (cr_sum rfl) (by rfl) gS (by decide +kernel) (pa_cons (pe_lc (own := [("_law_row", 2)]) (g := gName 2) (tt := tYes) (te := tOp (rIxT K) (tVar 2) (tC (.int ((4 : Nat) : Int)))) rfl scWL.nd (pi_list (pe_fz GR hr (by rfl) (pa_cons (pv 0) (pa_cons (pv 1) pa_nil)))) (blkOk_by (own := [("_law_row", 2)]) (N := NWL) (sc := defScope sWayLen) (by decide +kernel))
      (fun _ _ _ _ _ => pg_name (i := 2) scWL.nd rfl (Or.inl rfl)) (fun _ _ _ _ _ => pts_nil) (fun _ _ _ _ _ => pe_ix ix_tup (pv 2) pe_int (fun _ _ => rfl))) pa_nil)))), ?_⟩
    refine ⟨_, rfl, _, rfl, n, v, rs, ps, l, rfl, I, fun D qs H1 s1 hD eQ => ?_⟩
    have lq : qs.length = l.length := by
      have := congrArg List.length eQ
      rwa [nrs, List.length_map] at this
    refine ⟨D, rfl, ⟨_, SqL.of hD.at_⟩, fun M nM => ?_⟩
    refine _root_.H3.lc_gen (us := qs) (vf := fun t => V.ref t.1) (p := fun _ => true) (R := fun r y _ => y = .int r.2.ln) nM hD.at_ (by omega) (fun u y H H' h k => h) (fun r hr H6 s6 hM Nx N0 n1 n0 => ?_) (fun H6 zs s6 hM e hR => ?_)
    · obtain ⟨ak, ab, ae, q0, q1, q2, q3⟩ := (hD.each r hr).keep s6
      refine ⟨rfl, _, rfl, r.1, _, ((4 : Nat) : Int), _, rfl, rfl, SqT.of q0, atI_nat rfl, ?_⟩
      exact n1 rfl _ _ (Same.refl _) rfl
    · have e1 : (zs.map fun z => z.1) = qs := by rw [e, List.filter_eq_self.mpr (fun _ _ => rfl)]
      have e2 : (zs.map fun z => z.2) = (l.map NR.ln).map V.int := by
        rw [show (zs.map fun z => z.2) = (zs.map fun z => z.1).map fun t => V.int t.2.ln from by rw [List.map_map]; exact List.map_congr_left fun z hz => hR z hz, e1, ← eQ, nrs, List.map_map, List.map_map]
        rfl
      rw [e2] at hM
      refine ⟨M, _, rfl, SqL.of hM, ?_⟩
      rw [sum_len]
      exact z H6 (same_trans s1 s6)
end
end K13
end
section
set_option Elab.async false
set_option linter.all false
set_option maxRecDepth 100000
set_option maxHeartbeats 4000000
namespace K13
open PySem PySem.Spec PyProof.Rows L2
/-! ### _law_ways -/
/-- a row of the search: a place, the way to it, the places seen -/
structure RwAt (H : Hp) (N : List NR) (s : P2) (a : Addr) (v : P2) (l : List NR) : Prop where
  ex : ∃ pl wy sn ps qs, H a = some (.lst [.ref pl, .ref wy, .ref sn]) ∧ PaAt H pl v ∧ PL H wy ps ∧ prs ps = l.map NR.key ∧ PL H sn qs ∧ qs.length = l.length + 1 ∧ (∀ x ∈ prs qs, WdP x)
  w : Wk N s v l
  wv : WdP v
theorem RwAt.keep {H H' : Hp} {N : List NR} {s v : P2} {a : Addr} {l : List NR} (h : RwAt H N s a v l) (k : Same H H') : RwAt H' N s a v l := by
  obtain ⟨⟨pl, wy, sn, ps, qs, h1, h2, h3, h4, h5, h6⟩, w, wv⟩ := h
  exact ⟨⟨pl, wy, sn, ps, qs, k _ _ h1, k _ _ h2, h3.keep k, h4, h5.keep k, h6⟩, w, wv⟩
abbrev Rws := List (Addr × P2 × List NR)
/-- the rows of one round, in a list that may grow -/
structure RwG (H : Hp) (N : List NR) (s : P2) (i : Nat) (D : Addr) (ws : Rws) : Prop where
  at_ : H D = some (.lst (ws.map fun t => V.ref t.1))
  each : ∀ t ∈ ws, RwAt (del H D) N s t.1 t.2.1 t.2.2 ∧ t.2.2.length = i
  l : ws.length ≤ 40
theorem RwG.keep {H H' : Hp} {N : List NR} {s : P2} {i : Nat} {D : Addr} {ws : Rws} (h : RwG H N s i D ws) (k : Same H H') : RwG H' N s i D ws := ⟨k _ _ h.at_, fun t ht => ⟨(h.each t ht).1.keep (del_keep k), (h.each t ht).2⟩, h.l⟩
/-- ways found -/
structure FdL (H : Hp) (N : List NR) (s g : P2) (F : Addr) (fs : List (Addr × List NR)) : Prop where
  at_ : H F = some (.lst (fs.map fun t => V.ref t.1))
  each : ∀ t ∈ fs, (∃ ps, PL H t.1 ps ∧ prs ps = t.2.map NR.key) ∧ Wk N s g t.2 ∧ t.2.length ≤ 62
theorem FdL.keep {H H' : Hp} {N : List NR} {s g : P2} {F : Addr} {fs : List (Addr × List NR)} (h : FdL H N s g F fs) (k : Same H H') : FdL H' N s g F fs := ⟨k _ _ h.at_, fun t ht => by
  obtain ⟨⟨ps, h1, h2⟩, h3⟩ := h.each t ht
  exact ⟨⟨ps, h1.keep k, h2⟩, h3⟩⟩
section
variable {P : Program} {w : World} {K : PySem.W.Frag} {mg : Str → Option Value} {base : Heap}
def spWays : Sp := fun vs H Q _ => ∃ (n a b : Addr) (rs : List (Addr × NR)) (s g : P2), vs = [.ref n, .ref a, .ref b, .int 40] ∧ NL H n rs ∧ rs.length ≤ 60 ∧ NOk (nrs rs) ∧ PaAt H a s ∧ PaAt H b g ∧ WdP s ∧ WdP g ∧
  ∀ (F : Addr) (fs : List (Addr × List NR)) H', Same H H' → FdL H' (nrs rs) s g F fs → fs.length ≤ 2500 → Q (.ref F) H'
abbrev NWy : List Str := ["_law_net_here", "_law_start", "_law_goal", "_law_top", "_law_rows", "_law_found", "_law_turn", "_law_longer", "_law_place_here", "_law_way", "_law_seen", "_law_row"]
theorem scWy : FnScope NWy ["_law_net_here", "_law_start", "_law_goal", "_law_top"] (defScope sWays) := ⟨rfl, rfl, rfl, by decide +kernel, rfl, by decide +kernel, by decide +kernel⟩
def WyI (n a b R F D : Addr) (H1 : Hp) (N : List NR) (s : P2) (i : Nat) (o8 o9 o10 : Option V) (σ : L2.St) (H' : Hp) : Prop := ∃ (o6 o11 : Option V) (ws : Rws), σ = [some (.ref n), some (.ref a), some (.ref b), some (.int 40), some (.ref R), some (.ref F), o6, some (.ref D), o8, o9, o10, o11] ∧ Same H1 H' ∧ RwG H' N s i D ws
theorem ok_ways {f : Addr} {fd : FuncData} (F : FnP K "_law_ways" sWays f fd) (T : Tx K mg) : FnOk P w K mg base CX0 1 f fd ["_law_net_here", "_law_start", "_law_goal", "_law_top"] spWays := by
  refine F.ok scWy (fun vs H Q E h => ?_) (fun cdv A outer s H vs Q E hr h => ?_)
  · obtain ⟨_, _, _, _, _, _, rfl, _⟩ := h
    rfl
  · obtain ⟨n, a, b, rs, s0, g0, rfl, hl, l60, ok, ha, hb, ws0, wg0, z⟩ := h
    have sl := sizeLine_eq
    have gR := T.fr "range" (by decide +kernel)
    have gL := T.fr "len" (by decide +kernel)
    have hu64 := hr.units
    have hu65 : (A.deeper (envOfC "_law_ways" (defScope sWays) s.heap.objs.size f cdv)).units + 65 < cLine := by
      have := hr.un
      omega
    refine ⟨_, PSs.nox (pss_cons (ps_par (i := 4) (j := 5) rfl scWy.nd rfl rfl (by decide) rfl rfl (pa_cons (pe_lst (pa_cons (pe_lst (pa_cons (pv 1) (pa_cons (pe_lst pa_nil) (pa_cons (pe_lst (pa_cons (pv 1) pa_nil)) pa_nil)))) pa_nil)) (pa_cons (pe_lst pa_nil) pa_nil)) (by rfl))
      (pss_cons (ps_for PassesOwn.never rfl (pi_range1 rfl gR (pa_cons (pe_op op_add (pe_callB call_len_seq (by rfl) gL PySem.boot_len (pa_cons (pv 0) pa_nil)) pe_int) pa_nil)) (pg_name (i := 6) scWy.nd rfl (Or.inl rfl))
        (pss_cons (ps_set (i := 7) scWy.nd rfl (Or.inl rfl) (pe_lst pa_nil))
        (pss_cons (ps_for PassesOwn.never rfl (pi_list (pv 4)) (pg_lst rfl (pgs_cons (pg_name (i := 8) scWy.nd rfl (Or.inl rfl)) (pgs_cons (pg_name (i := 9) scWy.nd rfl (Or.inl rfl)) (pgs_cons (pg_name (i := 10) scWy.nd rfl (Or.inl rfl)) pgs_nil))))
          (pss_one (ps_for PassesOwn.never rfl (pi_list (pv 0)) (pg_name (i := 11) scWy.nd rfl (Or.inl rfl))
            (pss_one (ps_if (PW.pt (pw_and (pt_cmpR op_gt (pe_ix ix_tup (pv 11) pe_int (fun _ _ => rfl)) pe_int (nomark _)) (pw_and (pt_cmpR (op_eqD hu64) (pe_ix ix_tup (pv 11) pe_int (fun _ _ => rfl)) (pv 8) (nomark _)) (pw_and (pt_cmpR (op_notInD hu65) (pe_ix ix_tup (pv 11) pe_int (fun _ _ => rfl)) (pv 10) rfl)
                (pw_and1 (pt_cmpR op_lt (pe_callB call_len_seq (by rfl) gL PySem.boot_len (pa_cons (pv 7) pa_nil)) (pv 3) (nomark _)))))))
              (pss_one (ps_expr (pe_bm PySem.F.plainAttrs_list PySem.F.slot_list_append PySem.F.type_list_append mt_append (pv 7) (pa_cons (pe_lst (pa_cons (pe_ix ix_tup (pv 11) pe_int (fun _ _ => rfl)) (pa_cons (pe_op op_cat (pv 9) (pe_lst (pa_cons (pe_ix ix_tup (pv 11) pe_int (fun _ _ => rfl)) pa_nil))) (pa_cons (pe_op op_cat (pv 10) (pe_lst (pa_cons (pe_ix ix_tup (pv 11) pe_int (fun _ _ => rfl)) pa_nil))) pa_nil)))) pa_nil)))) pss_nil)))))
        (pss_cons (ps_set (i := 4) scWy.nd rfl (Or.inl rfl) (pv 7))
        (pss_one (ps_set (i := 5) scWy.nd rfl (Or.inl rfl) (pe_op op_cat (pv 5) (pe_lc (own := [("_law_place_here", 8), ("_law_way", 9), ("_law_seen", 10)]) (g := gLst K 3 (gCons (gName 8) (gCons (gName 9) (gCons (gName 10) gNil)))) (tt := tTest (tOp (rEqD K) (tVar 8) (tVar 2))) (te := tVar 9) rfl scWy.nd (pi_list (pv 4)) (blkOk_by (own := [("_law_place_here", 8), ("_law_way", 9), ("_law_seen", 10)]) (N := NWy) (sc := defScope sWays) (by decide +kernel))
            (fun _ _ _ _ _ => pg_lst rfl (pgs_cons (pg_name (i := 8) scWy.nd rfl (Or.inl rfl)) (pgs_cons (pg_name (i := 9) scWy.nd rfl (Or.inl rfl)) (pgs_cons (pg_name (i := 10) scWy.nd rfl (Or.inl rfl)) pgs_nil)))) (fun _ _ _ _ _ => pts_one (pt_cmpR (op_eqD hu64) (pv 8) (pv 2) (nomark _))) (fun _ _ _ _ _ => pv 9)))))))))
      (pss_one (ps_ret (pv 5))))), ?_⟩
    refine ⟨_, rfl, Nat.zero_le _, fun W0 nW0 => ⟨_, rfl, by show 1 ≤ sizeLine; omega, fun S0 nS0 => ⟨by show 3 ≤ sizeLine; omega, fun X0 nX0 => ⟨by show 1 ≤ sizeLine; omega, fun R0 nR0 => ⟨Nat.zero_le _, fun F0 nF0 => ⟨_, _, rfl, ?_⟩⟩⟩⟩⟩⟩
    have k1 := same_upd (o := .lst []) nW0
    have k2 := same_upd (o := .lst [V.ref a]) nS0
    have k3 := same_upd (o := .lst [V.ref a, V.ref W0, V.ref S0]) nX0
    have k4 := same_upd (o := .lst [V.ref X0]) nR0
    have k5 := same_upd (o := .lst []) nF0
    have gW : PL (upd H W0 (.lst [])) W0 [] := ⟨upd_same, fun t h => by simp at h⟩
    have gS : PL (upd (upd H W0 (.lst [])) S0 (.lst [V.ref a])) S0 [(a, s0)] := ⟨upd_same, fun t h => by
      rw [List.mem_singleton.mp h]
      exact k2 _ _ (k1 _ _ ha)⟩
    have sX := same_trans k1 k2
    have rX : RwAt (upd (upd (upd H W0 (.lst [])) S0 (.lst [V.ref a])) X0 (.lst [V.ref a, V.ref W0, V.ref S0])) (nrs rs) s0 X0 s0 [] := ⟨⟨a, W0, S0, [], [(a, s0)], upd_same, k3 _ _ (sX _ _ ha), (gW.keep k2).keep k3, rfl, gS.keep k3, rfl, fun x hx => by
      rw [show prs [(a, s0)] = [s0] from rfl, List.mem_singleton] at hx
      rw [hx]
      exact ws0⟩, .nil, ws0⟩
    generalize upd (upd (upd H W0 (.lst [])) S0 (.lst [V.ref a])) X0 (.lst [V.ref a, V.ref W0, V.ref S0]) = H3 at k3 k4 k5 nR0 nF0 rX ⊢
    have gR0 : RwG (upd H3 R0 (.lst [V.ref X0])) (nrs rs) s0 0 R0 [(X0, s0, [])] := ⟨upd_same, fun t h => by
      rw [List.mem_singleton.mp h]
      exact ⟨rX.keep fun b o e => del_of (k4 _ _ e) (ne_of_none e nR0), rfl⟩, by show 1 ≤ 40; decide⟩
    have s04 : Same H (upd (upd H3 R0 (.lst [V.ref X0])) F0 (.lst [])) := same_trans (same_trans sX k3) (same_trans k4 k5)
    have gR1 := gR0.keep k5
    have gF1 : FdL (upd (upd H3 R0 (.lst [V.ref X0])) F0 (.lst [])) (nrs rs) s0 g0 F0 [] := ⟨upd_same, fun t h => by simp at h⟩
    generalize upd (upd H3 R0 (.lst [V.ref X0])) F0 (.lst []) = H4 at s04 gR1 gF1 ⊢
    refine ⟨_, rfl, n, _, rfl, Or.inl (SqL.of (s04 _ _ hl.at_)), _, _, rfl, rfl, ((rs.length + 1 : Nat) : Int), ?_, by omega, by omega, ?_⟩
    · show [V.int _] = _
      rw [List.length_map]
      rfl
    refine for_range (n := rs.length + 1) (fun i σ H' => ∃ (R F : Addr) (o6 o7 o8 o9 o10 o11 : Option V) (ws : Rws) (fs : List (Addr × List NR)), σ = [some (.ref n), some (.ref a), some (.ref b), some (.int 40), some (.ref R), some (.ref F), o6, o7, o8, o9, o10, o11] ∧ Same H H' ∧ RwG H' (nrs rs) s0 i R ws ∧ FdL H' (nrs rs) s0 g0 F fs ∧ fs.length ≤ 40 * i)
      ⟨R0, F0, _, _, _, _, _, _, _, _, rfl, s04, gR1, gF1, Nat.zero_le _⟩ ?_ ?_
    · rintro i σ H5 hi ⟨R, F, o6, o7, o8, o9, o10, o11, ws, fs, rfl, s5, hR, hF, lf⟩
      refine ⟨Nat.zero_le _, fun D nD => ?_⟩
      have s6 := same_upd (o := .lst []) nD
      have gD : RwG (upd H5 D (.lst [])) (nrs rs) s0 (i + 1) D [] := ⟨upd_same, fun t h => by simp at h, by decide⟩
      generalize upd H5 D (.lst []) = H6 at s6 gD ⊢
      have hR6 := hR.keep s6
      refine ⟨_, rfl, R, rfl, ⟨_, SqL.of hR6.at_⟩, ?_⟩
      refine for_list (K := K) (a := R) (xs := ws.map fun t => V.ref t.1) (fun j σ H' => ∃ o8 o9 o10, WyI n a b R F D H5 (nrs rs) s0 (i + 1) o8 o9 o10 σ H')
        ⟨_, _, _, _, _, [], rfl, s6, gD⟩ (fun j σ H' _ h => by obtain ⟨_, _, _, _, _, _, _, s, _⟩ := h; exact SqL.of (s _ _ hR.at_)) ?_ ?_
      · rintro j x σ H7 hj ⟨p8, p9, p10, q6, q11, ws', rfl, s7, hD⟩
        obtain ⟨t, ht, rfl⟩ := at_map hj
        obtain ⟨rt, lt⟩ := hR.each t (List.mem_of_getElem? ht)
        have rt5 := rt.keep del_same
        obtain ⟨⟨pl, wy, sn, ps, qs, e1, e2, e3, e4, e5, e6, e7⟩, wt, wvt⟩ := rt5
        refine ⟨t.1, _, rfl, SqL.of (s7 _ _ e1), rfl, _, _, rfl, _, _, rfl, _, _, rfl, rfl, ?_⟩
        refine ⟨_, rfl, n, rfl, ⟨_, SqL.of (s7 _ _ (s5 _ _ hl.at_))⟩, ?_⟩
        refine for_list (K := K) (a := n) (xs := rs.map fun t => V.ref t.1) (fun j σ H' => WyI n a b R F D H5 (nrs rs) s0 (i + 1) (some (.ref pl)) (some (.ref wy)) (some (.ref sn)) σ H')
          ⟨_, _, ws', rfl, s7, hD⟩ (fun j σ H' _ h => by obtain ⟨_, _, _, _, s, _⟩ := h; exact SqL.of (s _ _ (s5 _ _ hl.at_))) ?_ ?_
        · rintro k y σ H8 hk ⟨r6, r11, ws8, rfl, s8, hD8⟩
          obtain ⟨r, hr', rfl⟩ := at_map hk
          have rm := List.mem_of_getElem? hr'
          obtain ⟨ak, ab, ae, q0, q1, q2, q3⟩ := ((hl.each r rm).keep s5).keep s8
          have rN : r.2 ∈ nrs rs := List.mem_map.mpr ⟨r, rm, rfl⟩
          obtain ⟨wst, wen, wky⟩ := ok.w r.2 rN
          have stay : WyI n a b R F D H5 (nrs rs) s0 (i + 1) (some (.ref pl)) (some (.ref wy)) (some (.ref sn)) [some (.ref n), some (.ref a), some (.ref b), some (.int 40), some (.ref R), some (.ref F), r6, some (.ref D), some (.ref pl), some (.ref wy), some (.ref sn), some (.ref r.1)] H8 := ⟨_, _, ws8, rfl, s8, hD8⟩
          have e2' := s8 _ _ e2
          have e3' := e3.keep s8
          have e5' := e5.keep s8
          refine ⟨_, rfl, r.1, _, ((3 : Nat) : Int), _, rfl, rfl, SqT.of q0, atI_nat rfl, _, _, rfl, rfl, _, rfl, ?_⟩
          by_cases hw : 0 < r.2.wd
          · refine ifT (decide_eq_true hw) ?_
            refine ⟨_, rfl, r.1, _, ((1 : Nat) : Int), _, rfl, rfl, SqT.of q0, atI_nat rfl, _, rfl, prD r.2.st, prD t.2.1, dp_pr q2, dp_pr e2', prD_shaped wst, prD_shaped wvt, _, rfl, ?_⟩
            rw [eqv_pr]
            by_cases hv : r.2.st = t.2.1
            · refine ifT (decide_eq_true hv) ?_
              refine ⟨_, rfl, r.1, _, ((2 : Nat) : Int), _, rfl, rfl, SqT.of q0, atI_nat rfl, _, rfl, prD r.2.en, _, dp_pr q3, e5'.dp, prD_shaped wen, prs_shaped e7, _, rfl, ?_⟩
              rw [any_pr]
              by_cases hs : r.2.en ∈ prs qs
              · refine ifF (by rw [decide_eq_true hs]; decide) (ifF (by decide) stay)
              · refine ifT (by rw [decide_eq_false hs]; rfl) ?_
                refine ⟨_, rfl, D, _, rfl, Or.inl (SqL.of hD8.at_), _, rfl, _, _, rfl, rfl, _, rfl, ?_⟩
                by_cases hlen : ws8.length < 40
                · refine ifT (by rw [List.length_map]; exact decide_eq_true (by omega)) ?_
                  have lps : ps.length ≤ 61 := by
                    have h1 := congrArg List.length e4
                    rw [prs, List.length_map, List.length_map] at h1
                    omega
                  have lqs : qs.length ≤ 62 := by omega
                  refine ⟨_, rfl, Or.inl ⟨rfl, _, SqL.of hD8.at_⟩, _, rfl, r.1, _, ((2 : Nat) : Int), _, rfl, rfl, SqT.of q0, atI_nat rfl, _, rfl, _, rfl, r.1, _, ((0 : Nat) : Int), _, rfl, rfl, SqT.of q0, atI_nat rfl, by show 1 ≤ sizeLine; omega, fun K1 nK1 => ?_⟩
                  have m1 := same_upd (o := .lst [V.ref ak]) nK1
                  have gK1 : upd H8 K1 (.lst [V.ref ak]) K1 = some (.lst [V.ref ak]) := upd_same
                  generalize upd H8 K1 (.lst [V.ref ak]) = J1 at m1 gK1 ⊢
                  refine ⟨wy, K1, _, _, rfl, rfl, m1 _ _ e3'.at_, gK1, by rw [List.length_map]; show ps.length + 1 ≤ sizeLine; omega, fun C nC => ?_⟩
                  have m2 := same_upd (o := .lst ((ps.map fun t => V.ref t.1) ++ [V.ref ak])) nC
                  have gC : PL (upd J1 C (.lst ((ps.map fun t => V.ref t.1) ++ [V.ref ak]))) C (ps ++ [(ak, r.2.key)]) := ⟨by rw [upd_same, List.map_append]; rfl, fun u hu => by
                    rcases List.mem_append.mp hu with h | h
                    · exact m2 _ _ (m1 _ _ (e3'.each u h))
                    · rw [List.mem_singleton.mp h]
                      exact m2 _ _ (m1 _ _ q1)⟩
                  have m12 := same_trans m1 m2
                  generalize upd J1 C (.lst ((ps.map fun t => V.ref t.1) ++ [V.ref ak])) = J2 at m2 m12 gC ⊢
                  refine ⟨_, rfl, _, rfl, r.1, _, ((2 : Nat) : Int), _, rfl, rfl, SqT.of (m12 _ _ q0), atI_nat rfl, by show 1 ≤ sizeLine; omega, fun K2 nK2 => ?_⟩
                  have m3 := same_upd (o := .lst [V.ref ae]) nK2
                  have gK2 : upd J2 K2 (.lst [V.ref ae]) K2 = some (.lst [V.ref ae]) := upd_same
                  generalize upd J2 K2 (.lst [V.ref ae]) = J3 at m3 gK2 ⊢
                  have m13 := same_trans m12 m3
                  refine ⟨sn, K2, _, _, rfl, rfl, m13 _ _ e5'.at_, gK2, by rw [List.length_map]; show qs.length + 1 ≤ sizeLine; omega, fun G nG => ?_⟩
                  have m4 := same_upd (o := .lst ((qs.map fun t => V.ref t.1) ++ [V.ref ae])) nG
                  have gG : PL (upd J3 G (.lst ((qs.map fun t => V.ref t.1) ++ [V.ref ae]))) G (qs ++ [(ae, r.2.en)]) := ⟨by rw [upd_same, List.map_append]; rfl, fun u hu => by
                    rcases List.mem_append.mp hu with h | h
                    · exact m4 _ _ (m13 _ _ (e5'.each u h))
                    · rw [List.mem_singleton.mp h]
                      exact m4 _ _ (m13 _ _ q3)⟩
                  have m14 := same_trans m13 m4
                  generalize upd J3 G (.lst ((qs.map fun t => V.ref t.1) ++ [V.ref ae])) = J4 at m4 m14 gG ⊢
                  refine ⟨by show 3 ≤ sizeLine; omega, fun Y nY => ?_⟩
                  have m5 := same_upd (o := .lst [V.ref ae, V.ref C, V.ref G]) nY
                  have m15 := same_trans m14 m5
                  have gY : upd J4 Y (.lst [V.ref ae, V.ref C, V.ref G]) Y = some (.lst [V.ref ae, V.ref C, V.ref G]) := upd_same
                  have gC5 := ((gC.keep m3).keep m4).keep m5
                  have gG5 := gG.keep m5
                  generalize upd J4 Y (.lst [V.ref ae, V.ref C, V.ref G]) = J5 at m5 m15 gY gC5 gG5 ⊢
                  have q35 : PaAt J5 ae r.2.en := m15 _ _ q3
                  have hD5 := m15 _ _ hD8.at_
                  have nDY : Y ≠ D := (ne_of_none (m14 _ _ hD8.at_) nY).symm
                  have nDC : C ≠ D := (ne_of_none (m1 _ _ hD8.at_) nC).symm
                  have nDG : G ≠ D := (ne_of_none (m13 _ _ hD8.at_) nG).symm
                  have dt : ∀ {c x}, PaAt J5 c x → PaAt (del J5 D) c x := fun {c x} e => del_of e fun q => by
                    have e : J5 c = some (.tup [.str x.1, .str x.2]) := e
                    rw [q, hD5] at e
                    cases e
                  have rY : RwAt (del J5 D) (nrs rs) s0 Y r.2.en (t.2.2 ++ [r.2]) := ⟨⟨ae, C, G, ps ++ [(ak, r.2.key)], qs ++ [(ae, r.2.en)], del_of gY nDY, dt q35, ⟨del_of gC5.at_ nDC, fun u hu => dt (gC5.each u hu)⟩, by
                    rw [prs, List.map_append, List.map_append]
                    show prs ps ++ _ = _
                    rw [e4]
                    rfl, ⟨del_of gG5.at_ nDG, fun u hu => dt (gG5.each u hu)⟩, by rw [List.length_append, List.length_append, e6]; rfl, fun x hx => by
                    rw [prs, List.map_append] at hx
                    rcases List.mem_append.mp hx with h | h
                    · exact e7 x h
                    · rw [List.mem_singleton.mp h]
                      exact wen⟩, .snoc r.2 wt rN hw hv, wen⟩
                  refine ⟨D, _, _, rfl, rfl, hD5, by rw [List.length_map]; omega, ?_⟩
                  refine ⟨_, _, ws8 ++ [(Y, r.2.en, t.2.2 ++ [r.2])], rfl, fun c o e => ?_, ⟨by rw [upd_same, List.map_append]; rfl, fun u hu => ?_, by rw [List.length_append]; show ws8.length + 1 ≤ 40; omega⟩⟩
                  · rw [upd_ne (ne_of_none e nD)]
                    exact m15 _ _ (s8 _ _ e)
                  · rcases List.mem_append.mp hu with h | h
                    · exact ⟨((hD8.each u h).1.keep (del_keep m15)).keep del_upd, (hD8.each u h).2⟩
                    · rw [List.mem_singleton.mp h]
                      exact ⟨rY.keep del_upd, by show (t.2.2 ++ [r.2]).length = _; rw [List.length_append, lt]; rfl⟩
                · refine ifF (by rw [List.length_map]; simp; omega) stay
            · refine ifF (by simp [hv]) (ifF (by decide) stay)
          · refine ifF (by simpa using hw) (ifF (by decide) stay)
        · rintro σ H8 h
          exact ⟨_, _, _, h⟩
      · rintro σ H7 ⟨p8, p9, p10, q6, q11, ws', rfl, s7, hD⟩
        have s57 := same_trans s5 s7
        have hF7 := hF.keep s7
        have hb7 : PaAt H7 b g0 := s57 _ _ hb
        refine ⟨_, rfl, ?_⟩
        refine ⟨_, rfl, _, rfl, D, rfl, ⟨_, SqL.of hD.at_⟩, fun M nM => ?_⟩
        refine _root_.H3.lc_gen (us := ws') (vf := fun t => V.ref t.1) (p := fun t => decide (t.2.1 = g0)) (R := fun t y _ => ∃ wy ps, y = .ref wy ∧ PL H7 wy ps ∧ prs ps = t.2.2.map NR.key) nM hD.at_ (by have := hD.l; omega) (fun u y H H' h k => h) (fun t ht H8 s8 hM Nx N0 n1 n0 => ?_) (fun H8 zs s8 hM e hR' => ?_)
        · obtain ⟨rt, lt⟩ := hD.each t ht
          obtain ⟨⟨pl, wy, sn, ps, qs, e1, e2, e3, e4, e5, e6, e7⟩, wt, wvt⟩ := rt.keep del_same
          refine ⟨t.1, _, rfl, SqL.of (s8 _ _ e1), rfl, _, _, rfl, _, _, rfl, _, _, rfl, rfl, by simp [wipe], ?_⟩
          refine ⟨_, rfl, _, rfl, prD t.2.1, prD g0, dp_pr (s8 _ _ e2), dp_pr (s8 _ _ hb7), prD_shaped wvt, prD_shaped wg0, _, rfl, ?_⟩
          rw [eqv_pr]
          by_cases hg : t.2.1 = g0
          · refine ifT (decide_eq_true hg) ⟨_, rfl, ?_⟩
            exact n1 (decide_eq_true hg) _ _ (Same.refl _) ⟨wy, ps, rfl, e3, e4⟩
          · refine ifF (by simp [hg]) (n0 (decide_eq_false hg) _ (Same.refl _))
        · have e1 : (zs.map fun z => z.1) = ws'.filter fun t => decide (t.2.1 = g0) := e
          obtain ⟨fs', f1, f2, f3⟩ : ∃ fs' : List (Addr × List NR), (zs.map fun z => z.2) = fs'.map (fun t => V.ref t.1) ∧ fs'.map (fun t => t.2) = (zs.map fun z => z.1).map (fun t => t.2.2) ∧ ∀ t ∈ fs', ∃ ps, PL H7 t.1 ps ∧ prs ps = t.2.map NR.key := by
            clear hM e e1
            induction zs with
            | nil => exact ⟨[], rfl, rfl, fun t ht => by simp at ht⟩
            | cons z zs ih =>
              obtain ⟨fs', f1, f2, f3⟩ := ih fun z hz => hR' z (List.mem_cons_of_mem _ hz)
              obtain ⟨wy, ps, e, h, h2⟩ := hR' z List.mem_cons_self
              refine ⟨(wy, z.1.2.2) :: fs', by rw [List.map_cons, List.map_cons, f1, e], by rw [List.map_cons, List.map_cons, List.map_cons, f2], fun t ht => ?_⟩
              rcases List.mem_cons.mp ht with rfl | ht
              · exact ⟨ps, h, h2⟩
              · exact f3 t ht
          rw [e1] at f2
          rw [f1] at hM
          have lf' : fs'.length ≤ 40 := by
            have h1 := congrArg List.length f2
            have h2 := List.length_filter_le (fun t : Addr × P2 × List NR => decide (t.2.1 = g0)) ws'
            have h3 := hD.l
            rw [List.length_map, List.length_map] at h1
            omega
          have hF8 := hF7.keep s8
          refine ⟨F, M, _, _, rfl, rfl, hF8.at_, hM, by rw [List.length_map, List.length_map]; omega, fun G nG => ?_⟩
          rw [← List.map_append]
          have s9 := same_upd (o := .lst ((fs ++ fs').map fun t => V.ref t.1)) nG
          have s79 := same_trans s8 s9
          refine ⟨D, G, _, _, _, _, _, _, ws', fs ++ fs', rfl, same_trans s57 s79, hD.keep s79, ⟨upd_same, fun t ht => ?_⟩, by rw [List.length_append]; omega⟩
          rcases List.mem_append.mp ht with h | h
          · exact (hF8.keep s9 |> fun _ => ⟨by
              obtain ⟨⟨ps, h1, h2⟩, _⟩ := hF8.each t h
              exact ⟨ps, h1.keep s9, h2⟩, (hF8.each t h).2⟩)
          · obtain ⟨ps, h1, h2⟩ := f3 t h
            have hm : t.2 ∈ fs'.map fun t => t.2 := List.mem_map.mpr ⟨t, h, rfl⟩
            rw [f2] at hm
            obtain ⟨u, hu, eu⟩ := List.mem_map.mp hm
            obtain ⟨hu1, hu2⟩ := List.mem_filter.mp hu
            obtain ⟨ru, lu⟩ := hD.each u hu1
            have hg : u.2.1 = g0 := of_decide_eq_true hu2
            refine ⟨⟨ps, h1.keep s79, h2⟩, ?_, ?_⟩
            · rw [← eu, ← hg]
              exact ru.w
            · rw [← eu]
              omega
    · rintro σ H5 ⟨R, F, o6, o7, o8, o9, o10, o11, ws, fs, rfl, s5, hR, hF, lf⟩
      exact ⟨_, rfl, z F fs H5 s5 hF (by omega)⟩
end
end K13
end
section
set_option Elab.async false
set_option linter.all false
set_option maxRecDepth 100000
set_option maxHeartbeats 4000000
namespace K13
open PySem PySem.Spec PyProof.Rows L2
section
variable {P : Program} {w : World} {K : PySem.W.Frag} {mg : Str → Option Value} {base : Heap}
/-! ### _law_asked -/
def spLAsk : Sp := fun vs H Q _ => ∃ (W ls lg t : Addr) (ts us : List (Addr × S5)) (gs : List Str), vs = [.ref W, .ref t] ∧ Wt H W ls lg t ts us gs ∧
  ∀ (D : Addr) (zs : List Str) H', Same H H' → H D = none → Told zs (gs ++ ends (snds us)) → Ws H' D zs → zs.length ≤ 60 → Q (.ref D) H'
abbrev NLa : List Str := ["_law_world_here", "_law_town_here", "_law_place_here"]
theorem scLa : FnScope NLa ["_law_world_here", "_law_town_here"] (defScope sAsked) := ⟨rfl, rfl, rfl, by decide +kernel, rfl, by decide +kernel, by decide +kernel⟩
theorem asked_mem {gs : List Str} {ss us : List S5} {x : Str} : (∃ y, isPl gs (netOf gs ss us) y ∧ y.1 ≠ "quarter" ∧ y.2 = x) ↔ x ∈ gs ++ ends us := by
  have gt : ("gate" : Str) ≠ "quarter" := by decide +kernel
  have tw : ("town" : Str) ≠ "quarter" := by decide +kernel
  have pl : ∀ (z : Str), (place "quarter" gs z).1 ≠ "quarter" → z ∈ gs := fun z h => by
    unfold place at h
    split at h
    · assumption
    · exact absurd rfl h
  have p2 : ∀ (side z : Str), (place side gs z).2 = z := fun side z => by
    unfold place
    split <;> rfl
  have pt : ∀ (z : Str), (place "town" gs z).1 ≠ "quarter" := fun z => by
    unfold place
    split
    · exact gt
    · exact tw
  rw [List.mem_append, show ends us = us.map S5.st ++ us.map S5.en from rfl, List.mem_append, List.mem_map, List.mem_map]
  constructor
  · rintro ⟨y, hy, n, rfl⟩
    rcases hy with ⟨g, hg, rfl⟩ | hy
    · exact .inl hg
    · obtain ⟨r, hr, hy⟩ := List.mem_flatMap.mp hy
      simp only [List.mem_cons, List.not_mem_nil, or_false] at hy
      rcases List.mem_append.mp hr with h | h
      · obtain ⟨s, hs, rfl⟩ := List.mem_map.mp h
        left
        rcases hy with rfl | rfl
        · have := pl _ n
          show (place "quarter" gs s.st).2 ∈ gs
          rw [p2]
          exact this
        · have := pl _ n
          show (place "quarter" gs s.en).2 ∈ gs
          rw [p2]
          exact this
      · obtain ⟨s, hs, rfl⟩ := List.mem_map.mp h
        right
        rcases hy with rfl | rfl
        · exact .inl ⟨s, hs, (p2 _ _).symm⟩
        · exact .inr ⟨s, hs, (p2 _ _).symm⟩
  · rintro (h | ⟨s, hs, rfl⟩ | ⟨s, hs, rfl⟩)
    · exact ⟨("gate", x), .inl ⟨x, h, rfl⟩, gt, rfl⟩
    · exact ⟨place "town" gs s.st, .inr (List.mem_flatMap.mpr ⟨netRow "town" gs s, List.mem_append_right _ (List.mem_map.mpr ⟨s, hs, rfl⟩), List.mem_cons_self⟩), pt _, p2 _ _⟩
    · exact ⟨place "town" gs s.en, .inr (List.mem_flatMap.mpr ⟨netRow "town" gs s, List.mem_append_right _ (List.mem_map.mpr ⟨s, hs, rfl⟩), List.mem_cons_of_mem _ List.mem_cons_self⟩), pt _, p2 _ _⟩
/-- a place's first word is told by its second, the quarter's aside -/
theorem pl_inj {gs : List Str} {ss us : List S5} {x y : P2} (hx : isPl gs (netOf gs ss us) x) (hy : isPl gs (netOf gs ss us) y) (nx : x.1 ≠ "quarter") (ny : y.1 ≠ "quarter") (e : x.2 = y.2) : x = y := by
  have key : ∀ z : P2, isPl gs (netOf gs ss us) z → z.1 ≠ "quarter" → z.1 = if z.2 ∈ gs then ("gate" : Str) else ("town" : Str) := by
    have pl : ∀ (side z : Str), place side gs z = ((if z ∈ gs then ("gate" : Str) else side), z) := fun side z => by
      unfold place
      split <;> rfl
    intro z hz nz
    rcases hz with ⟨g, hg, rfl⟩ | hz
    · rw [if_pos hg]
    · obtain ⟨r, hr, hz⟩ := List.mem_flatMap.mp hz
      simp only [List.mem_cons, List.not_mem_nil, or_false] at hz
      have : ∃ side w, z = place side gs w ∧ (side = "quarter" ∨ side = "town") := by
        rcases List.mem_append.mp hr with h | h
        · obtain ⟨s, hs, rfl⟩ := List.mem_map.mp h
          rcases hz with rfl | rfl
          · exact ⟨_, _, rfl, .inl rfl⟩
          · exact ⟨_, _, rfl, .inl rfl⟩
        · obtain ⟨s, hs, rfl⟩ := List.mem_map.mp h
          rcases hz with rfl | rfl
          · exact ⟨_, _, rfl, .inr rfl⟩
          · exact ⟨_, _, rfl, .inr rfl⟩
      obtain ⟨side, w, rfl, hs⟩ := this
      rw [pl] at nz ⊢
      by_cases hw : w ∈ gs
      · simp only [if_pos hw]
      · simp only [if_neg hw] at nz ⊢
        rcases hs with rfl | rfl
        · exact absurd rfl nz
        · rfl
  exact Prod.ext (by rw [key x hx nx, key y hy ny, e]) e
theorem ok_lask {f : Addr} {fd : FuncData} (F : FnP K "_law_asked" sAsked f fd) (GP : Fz P w K mg base "_law_places" 3 ["_law_world_here", "_law_town_here"] spLPls) (T : Tx K mg) : FnOk P w K mg base CX0 4 f fd ["_law_world_here", "_law_town_here"] spLAsk := by
  refine F.ok scLa (fun vs H Q E h => ?_) (fun cdv A outer s H vs Q E hr h => ?_)
  · obtain ⟨_, _, _, _, _, _, _, rfl, _⟩ := h
    rfl
  · obtain ⟨W, ls, lg, t, ts, us, gs, rfl, hw, z⟩ := h
    have gSo := T.fr "sorted" (by decide +kernel)
    have sl := sizeLine_eq
    refine ⟨_, PSs.nox (pss_one (ps_ret (pe_callB cr_sortedS (by rfl) gSo (by decide +kernel) (pa_cons (pe_lc (own := [("_law_place_here", 2)]) (g := gName 2) (tt := tTest (tOp rNe (tOp (rIxT K) (tVar 2) (tC (.int ((0 : Nat) : Int)))) (tC (.str "quarter")))) (te := tOp (rIxT K) (tVar 2) (tC (.int ((1 : Nat) : Int)))) rfl scLa.nd (pi_list (pe_fz GP hr (by rfl) (pa_cons (pv 0) (pa_cons (pv 1) pa_nil)))) (blkOk_by (own := [("_law_place_here", 2)]) (N := NLa) (sc := defScope sAsked) (by decide +kernel))
        (fun _ _ _ _ _ => pg_name (i := 2) scLa.nd rfl (Or.inl rfl)) (fun _ _ _ _ _ => pts_one (pt_cmpR op_ne (pe_ix ix_tup (pv 2) pe_int (fun _ _ => rfl)) pe_str (nomark _))) (fun _ _ _ _ _ => pe_ix ix_tup (pv 2) pe_int (fun _ _ => rfl))) pa_nil)))), ?_⟩
    refine ⟨_, rfl, _, rfl, W, ls, lg, t, ts, us, gs, rfl, hw, fun D ps H1 s1 nD hD nd mem as wd l200 => ⟨D, rfl, ⟨_, SqL.of hD.at_⟩, fun M nM => ?_⟩⟩
    refine H3.lc_val (us := ps) (vf := fun t => V.ref t.1) (p := fun t => decide (t.2.1 ≠ "quarter")) (gv := fun t => V.str t.2.2) nM hD.at_ (by omega) (fun u hu H' s2 N N0 h1 h2 => ?_) (fun H2 s2 hM => ?_)
    · have hu1 : H' u.1 = some (.tup [.str u.2.1, .str u.2.2]) := s2 _ _ (hD.each u hu)
      refine ⟨rfl, _, rfl, u.1, _, ((0 : Nat) : Int), _, rfl, rfl, SqT.of hu1, atI_nat rfl, rfl, _, rfl, ?_⟩
      by_cases hq : u.2.1 = "quarter"
      · refine ifF ?_ (h2 (by rw [hq]; decide +kernel) _ (Same.refl _))
        rw [hq]
        decide +kernel
      · have hq' : ¬ V.str u.2.1 = V.str "quarter" := fun e => hq (V.str.inj e)
        refine ifT (by rw [decide_eq_false hq']; rfl) ?_
        exact ⟨_, rfl, u.1, _, ((1 : Nat) : Int), _, rfl, rfl, SqT.of hu1, atI_nat rfl, h1 (by rw [decide_eq_true_eq]; exact hq) _ (Same.refl _)⟩
    · have eM : (ps.filter fun t => decide (t.2.1 ≠ ("quarter" : Str))).map (fun t => V.str t.2.2) = ((ps.filter fun t => decide (t.2.1 ≠ ("quarter" : Str))).map fun t => t.2.2).map V.str := by rw [List.map_map]; rfl
      rw [eM] at hM
      have nf : ((ps.filter fun t => decide (t.2.1 ≠ ("quarter" : Str))).map fun t => t.2.2).Nodup := by
        refine (List.pairwise_map.mpr ?_ : List.Nodup _)
        have nd2 : ps.Pairwise fun a b => a.2 ≠ b.2 := List.pairwise_map.mp nd
        refine (nd2.filter _).imp_of_mem fun {a b} ha hb h e => ?_
        have ha := List.mem_filter.mp ha
        have hb := List.mem_filter.mp hb
        exact h (pl_inj ((mem _).mp (List.mem_map.mpr ⟨a, ha.1, rfl⟩)) ((mem _).mp (List.mem_map.mpr ⟨b, hb.1, rfl⟩)) (of_decide_eq_true ha.2) (of_decide_eq_true hb.2) e)
      have mf : ∀ x, x ∈ ((ps.filter fun t => decide (t.2.1 ≠ ("quarter" : Str))).map fun t => t.2.2) ↔ x ∈ gs ++ ends (snds us) := fun x => by
        rw [← asked_mem (ss := snds ts), List.mem_map]
        constructor
        · rintro ⟨u, hu, rfl⟩
          have hu := List.mem_filter.mp hu
          exact ⟨u.2, (mem _).mp (List.mem_map.mpr ⟨u, hu.1, rfl⟩), of_decide_eq_true hu.2, rfl⟩
        · rintro ⟨y, hy, n, rfl⟩
          obtain ⟨u, hu, rfl⟩ := List.mem_map.mp ((mem _).mpr hy)
          exact ⟨u, List.mem_filter.mpr ⟨hu, decide_eq_true n⟩, rfl⟩
      have lf : ((ps.filter fun t => decide (t.2.1 ≠ ("quarter" : Str))).map fun t => t.2.2).length ≤ 60 := by
        have h1 := len_le_of_sub _ _ nf fun x hx => (mf x).mp hx
        have h2 := ends_len (snds us)
        rw [List.length_append, h2] at h1
        have h3 : (snds us).length = us.length := List.length_map _
        have := hw.l2
        have := hw.l3
        omega
      refine ⟨M, _, rfl, SqL.of hM, by omega, fun ys p pm sy np => ?_⟩
      have s3 := same_upd (o := .lst (ys.map V.str)) np
      exact z p ys _ (same_trans s1 (same_trans s2 s3)) ((same_trans s1 s2).free np) (told_sorted pm sy nf mf) upd_same (by rw [pm.length_eq]; omega)
end
end K13
end
section
set_option Elab.async false
set_option linter.all false
set_option maxRecDepth 100000
set_option maxHeartbeats 4000000
namespace K13
open PySem PySem.Spec PyProof.Rows L2
theorem del_at {H : Hp} {D a : Addr} {o : HO} (h : del H D a = some o) : H a = some o ∧ a ≠ D := by
  by_cases e : a = D
  · rw [e] at h
    unfold del at h
    rw [if_pos rfl] at h
    cases h
  · unfold del at h
    rw [if_neg e] at h
    exact ⟨h, e⟩
theorem but_del {p F : Addr} {H H' : Hp} (b : But p H H') : But p (del H F) (del H' F) := fun a o n e => by
  obtain ⟨h1, h2⟩ := del_at e
  exact del_of (b _ _ n h1) h2
theorem Pu.del {H : Hp} {p F : Addr} {n : Int} (h : Pu H p n) (ne : p ≠ F) : Pu (del H F) p n := by
  obtain ⟨xs, h1, h2⟩ := h
  exact ⟨xs, del_of h1 ne, h2⟩
section
variable {P : Program} {w : World} {K : PySem.W.Frag} {mg : Str → Option Value} {base : Heap}
/-! ### _law_town -/
def spLTown (CT : Addr) : Sp := fun vs H Q _ => ∃ (t : Addr) (us : List (Addr × S5)), vs = [.ref t] ∧ Sts H t us ∧ SOk (snds us) ∧ ∀ q H', Same H H' → H q = none → IsT H' CT q (snds us) → Q (.ref q) H'
theorem scLTw : FnScope ["_law_town_here"] ["_law_town_here"] (defScope sTown) := ⟨rfl, rfl, rfl, by decide +kernel, rfl, by decide +kernel, by decide +kernel⟩
theorem ok_lTown {CT : Addr} {f : Addr} {fd : FuncData} (F : FnP K "_law_town" sTown f fd) (M : MkT P w K mg base CT) (T : Tx K mg) : FnOk P w K mg base CX0 8 f fd ["_law_town_here"] (spLTown CT) := by
  refine F.ok scLTw (fun vs H Q E h => ?_) (fun cdv A outer s H vs Q E hr h => ?_)
  · obtain ⟨_, _, rfl, _⟩ := h
    rfl
  · obtain ⟨t, us, rfl, ht, so, q⟩ := h
    have gLi := T.fr "list" (by decide +kernel)
    refine ⟨_, PSs.nox (pss_one (ps_ret (pe_tw M hr (by rfl) (pa_cons (pe_callTy call_list_of (by rfl) gLi (by decide +kernel) (pa_cons (pv 0) pa_nil)) pa_nil)))), ?_⟩
    refine ⟨_, rfl, t, _, rfl, Or.inl (SqL.of ht.1), fun D1 n1 => ?_⟩
    have s1 := same_upd (o := .lst (us.map fun t => V.ref t.1)) n1
    have h1 : Sts (upd H D1 (.lst (us.map fun t => V.ref t.1))) D1 us := ⟨upd_same, fun t h => s1 _ _ (ht.2 t h)⟩
    generalize upd H D1 (.lst (us.map fun t => V.ref t.1)) = H1 at s1 h1 ⊢
    exact ⟨D1, us, rfl, h1, so, fun q' dx l' ts' H' s3 nq _ hq pt as => q q' H' (same_trans s1 s3) (s1.free nq) (isT_of hq so pt as)⟩
/-- the town's places are few -/
def Few (gs : List Str) (us : List (Addr × S5)) : Prop := ∃ zs : List Str, zs.length ≤ 2 ∧ ∀ s ∈ snds us, s.st ∈ gs ++ zs ∧ s.en ∈ gs ++ zs
/-! ### _law_drawn_net -/
def spDrawn : Sp := fun vs H Q _ => ∃ (p : Addr) (n : Int), vs = [.ref p] ∧ Pu H p n ∧ n ≤ 300000 ∧
  ∀ (D W ls lg lc ln t : Addr) (ts us : List (Addr × S5)) (gs cs ns : List Str) H', But p H H' → Pu H' p (n + 3000) → H' D = some (.lst [.ref W, .ref t]) → WoP H' p W ls lg lc ln ts gs cs ns → Sts H' t us → t ≠ p → SOk (snds us) → us.length ≤ 10 → Few gs us → gs.length ≤ 4 → Q (.ref D) H'
abbrev NDn : List Str := ["_law_purse_here", "_law_world_here", "_law_town_here", "_law_found", "_law_street", "_law_width_here"]
theorem scDn : FnScope NDn ["_law_purse_here"] (defScope sDrawnNet) := ⟨rfl, rfl, rfl, by decide +kernel, rfl, by decide +kernel, by decide +kernel⟩
section
variable {f : Addr} {cdv : Value} {A : Around} {outer : List Env} {s : Shared} {Hl : Hp} {E : XK}
abbrev TDn (P : Program) (w : World) (K : PySem.W.Frag) (mg : Str → Option Value) (base : Heap) (f : Addr) (cdv : Value) (A : Around) (outer : List Env) (s : Shared) (Hl : Hp) (E : XK) : Cx := (cxOf CX0 P w K mg base NDn "_law_drawn_net" (defScope sDrawnNet) f cdv A outer s Hl E).nox
def dnB (j : Nat) : Stmt := (defBody sDrawnNet).getD j (.Pass ⟨0, 0, 0, 0⟩)
def tDn0 (u : TS) : TS := fun Z σ H => ∃ (p : Addr) (n : Int), σ = L2.start NDn [.ref p] ∧ Pu H p n ∧ n ≤ 300000 ∧
  ∀ (W ls lg lc ln t : Addr) (ts us : List (Addr × S5)) (gs cs ns : List Str) H', But p H H' → Pu H' p (n + 2000) → WoP H' p W ls lg lc ln ts gs cs ns → Sts H' t us → t ≠ p → SOk (snds us) → us.length ≤ 10 → Few gs us → gs.length ≤ 4 → u Z [some (.ref p), some (.ref W), some (.ref t), none, none, none] H'
theorem dn0 (GD : DrawZ P w K mg base) (GW : Fz P w K mg base "_law_world" 6 ["_law_purse_here", "_law_gates", "_law_inner_here", "_law_top"] spWorld) (GT : Fz P w K mg base "_law_town_world" 6 ["_law_purse_here", "_law_world_here", "_law_own", "_law_top"] spTownWorld)
    (hr : Room 6 (A.deeper (envOfC "_law_drawn_net" (defScope sDrawnNet) s.heap.objs.size f cdv))) {rest : List Stmt} {u : TS} (hu : PSs (TDn P w K mg base f cdv A outer s Hl E) rest u) :
    PSs (TDn P w K mg base f cdv A outer s Hl E) (dnB 0 :: dnB 1 :: rest) (tDn0 u) := by
  have r2 : Room 2 (A.deeper (envOfC "_law_drawn_net" (defScope sDrawnNet) s.heap.objs.size f cdv)) := hr.mono (by decide)
  refine weak (pss_cons (ps_set (i := 1) scDn.nd rfl (Or.inl rfl) (pe_fz GW hr (by rfl) (pa_cons (pv 0) (pa_cons (pe_op op_add pe_int (pe_fz GD r2 (by rfl) (pa_cons (pv 0) (pa_cons pe_int pa_nil)))) (pa_cons (pe_fz GD r2 (by rfl) (pa_cons (pv 0) (pa_cons pe_int pa_nil))) (pa_cons (pe_op op_add pe_int (pe_fz GD r2 (by rfl) (pa_cons (pv 0) (pa_cons pe_int pa_nil)))) pa_nil))))))
    (pss_cons (ps_set (i := 2) scDn.nd rfl (Or.inl rfl) (pe_fz GT hr (by rfl) (pa_cons (pv 0) (pa_cons (pv 1) (pa_cons (pe_fz GD r2 (by rfl) (pa_cons (pv 0) (pa_cons pe_int pa_nil))) (pa_cons (pe_op op_add pe_int (pe_fz GD r2 (by rfl) (pa_cons (pv 0) (pa_cons pe_int pa_nil)))) pa_nil)))))) hu)) ?_
  rintro Z σ H ⟨p, n, rfl, ⟨xs, hx, hu⟩, hn, q⟩
  have b0 : ∀ {H : Hp} {o : HO}, But p H (upd H p o) := but_self
  refine ⟨_, rfl, _, rfl, p, 4, n, xs, rfl, hx, hu, by omega, by decide, by decide, fun r1 ys1 r10 r15 hu1 => ⟨_, _, rfl, rfl, ?_⟩⟩
  have b1 : But p H (upd H p (.lst ys1)) := b0
  have p1 : upd H p (.lst ys1) p = some (.lst ys1) := upd_same
  generalize upd H p (.lst ys1) = H1 at b1 p1 ⊢
  refine ⟨_, rfl, p, 4, _, ys1, rfl, p1, hu1, by omega, by decide, by decide, fun r2 ys2 r20 r25 hu2 => ?_⟩
  have b2 : But p H1 (upd H1 p (.lst ys2)) := b0
  have p2 : upd H1 p (.lst ys2) p = some (.lst ys2) := upd_same
  generalize upd H1 p (.lst ys2) = H2 at b2 p2 ⊢
  refine ⟨_, rfl, p, 8, _, ys2, rfl, p2, hu2, by omega, by decide, by decide, fun r3 ys3 r30 r35 hu3 => ⟨_, _, rfl, rfl, ?_⟩⟩
  have b3 : But p H2 (upd H2 p (.lst ys3)) := b0
  have p3 : upd H2 p (.lst ys3) p = some (.lst ys3) := upd_same
  generalize upd H2 p (.lst ys3) = H3 at b3 p3 ⊢
  have hp3 : Pu H3 p (n + 1 + 1 + 1) := ⟨ys3, p3, hu3⟩
  refine ⟨p, _, _, _, _, rfl, hp3, by omega, by omega, by omega, by omega, by omega, by omega, by omega, fun W ls lg lc ln ts gs cs ns H4 hp4 b4 nW hW wo nw e1 e2 e3 => ?_⟩
  obtain ⟨m1, m2, m3, m4, m5⟩ := nw
  have nep : ∀ {a : Addr}, H3 a = none → a ≠ p := fun {a} e z => by
    rw [z, p3] at e
    cases e
  have wop : WoP H4 p W ls lg lc ln ts gs cs ns := ⟨hW, wo, nep nW, nep m1, nep m2, nep m3, nep m4⟩
  have b04 := b1.trans (b2.trans (b3.trans b4))
  obtain ⟨xs4, hx4, hu4⟩ := hp4
  refine ⟨_, rfl, _, rfl, _, rfl, p, 3, _, xs4, rfl, hx4, hu4, by omega, by decide, by decide, fun r5 ys5 r50 r55 hu5 => ?_⟩
  have b5 : But p H4 (upd H4 p (.lst ys5)) := b0
  have p5 : upd H4 p (.lst ys5) p = some (.lst ys5) := upd_same
  have w5 := wop.but b5 ⟨_, hx4⟩
  generalize upd H4 p (.lst ys5) = H5 at b5 p5 w5 ⊢
  refine ⟨_, rfl, p, 7, _, ys5, rfl, p5, hu5, by omega, by decide, by decide, fun r6 ys6 r60 r65 hu6 => ⟨_, _, rfl, rfl, ?_⟩⟩
  have b6 : But p H5 (upd H5 p (.lst ys6)) := b0
  have p6 : upd H5 p (.lst ys6) p = some (.lst ys6) := upd_same
  have w6 := w5.but b6 ⟨_, p5⟩
  generalize upd H5 p (.lst ys6) = H6 at b6 p6 w6 ⊢
  have hp6 : Pu H6 p _ := ⟨ys6, p6, hu6⟩
  refine ⟨p, W, ls, lg, lc, ln, ts, gs, cs, ns, _, _, _, rfl, w6, hp6, by omega, by omega, by omega, by omega, by omega, fun t us H7 p7 b7 nt ht so l10 few => ?_⟩
  refine q W ls lg lc ln t ts us gs cs ns H7 (b04.trans (b5.trans (b6.trans b7))) (p7.mono (by omega)) (w6.but b7 ⟨_, p6⟩) ht (fun e => ?_) so l10 (by obtain ⟨zs, h1, h2⟩ := few; exact ⟨zs, by omega, h2⟩) (by omega)
  rw [e, p6] at nt
  cases nt
/-- drawn anew in widths and lengths -/
def tDn2 : TS := fun Z σ H => ∃ (p W ls lg lc ln t : Addr) (ts us : List (Addr × S5)) (gs cs ns : List Str) (n : Int), σ = [some (.ref p), some (.ref W), some (.ref t), none, none, none] ∧ Pu H p n ∧ n ≤ 400000 ∧ WoP H p W ls lg lc ln ts gs cs ns ∧ Sts H t us ∧ t ≠ p ∧ SOk (snds us) ∧ us.length ≤ 10 ∧ Few gs us ∧
  ∀ (D t : Addr) (us : List (Addr × S5)) H', But p H H' → Pu H' p (n + 1000) → H' D = some (.lst [.ref W, .ref t]) → WoP H' p W ls lg lc ln ts gs cs ns → Sts H' t us → t ≠ p → SOk (snds us) → us.length ≤ 10 → Few gs us → Z.rt (.ref D) H'
theorem five_int {a b : Int} {z : V} {j : Nat} (h : [V.int a, V.int a, V.int 37, V.int 999, V.int 1000][j]? = some z) (ha : 0 ≤ a ∧ a ≤ 1000000) : ∃ i, z = .int i ∧ 0 ≤ i ∧ i ≤ 1000000 := by
  have := List.mem_of_getElem? h
  simp only [List.mem_cons, List.not_mem_nil, or_false] at this
  rcases this with rfl | rfl | rfl | rfl | rfl
  · exact ⟨_, rfl, ha⟩
  · exact ⟨_, rfl, ha⟩
  · exact ⟨_, rfl, by decide, by decide⟩
  · exact ⟨_, rfl, by decide, by decide⟩
  · exact ⟨_, rfl, by decide, by decide⟩
theorem four_int {a : Int} {z : V} {j : Nat} (h : [V.int a, V.int a, V.int 250, V.int 1000][j]? = some z) (ha : 0 ≤ a ∧ a ≤ 1000000) : ∃ i, z = .int i ∧ 0 ≤ i ∧ i ≤ 1000000 := by
  have := List.mem_of_getElem? h
  simp only [List.mem_cons, List.not_mem_nil, or_false] at this
  rcases this with rfl | rfl | rfl | rfl
  · exact ⟨_, rfl, ha⟩
  · exact ⟨_, rfl, ha⟩
  · exact ⟨_, rfl, by decide, by decide⟩
  · exact ⟨_, rfl, by decide, by decide⟩
theorem sok_like {us vs : List S5} (h : SOk us) (l : vs.length ≤ us.length) (e : ∀ (i : Nat) (s : S5), vs[i]? = some s → ∃ u : S5, us[i]? = some u ∧ s.nm = u.nm ∧ s.st = u.st ∧ s.en = u.en ∧ 0 ≤ s.wd ∧ s.wd ≤ 1000000 ∧ 0 ≤ s.ln ∧ s.ln ≤ 1000000) : SOk vs := by
  have en : nms vs = (nms us).take vs.length := by
    refine List.ext_getElem? fun i => ?_
    rw [nms, nms, List.getElem?_map]
    by_cases hi : i < vs.length
    · obtain ⟨u, hu, e1, _⟩ := e i _ (List.getElem?_eq_getElem hi)
      rw [List.getElem?_take_of_lt hi, List.getElem?_map, hu, List.getElem?_eq_getElem hi]
      exact congrArg some e1
    · rw [List.getElem?_eq_none (Nat.le_of_not_lt hi), List.getElem?_eq_none (by rw [List.length_take]; omega)]
      rfl
  refine ⟨fun s hs => ?_, ?_, Nat.le_trans l h.l⟩
  · obtain ⟨i, hi⟩ := List.mem_iff_getElem?.mp hs
    obtain ⟨u, hu, e1, e2, e3, r⟩ := e i s hi
    obtain ⟨o1, o2, o3, o4, _⟩ := h.ok u (List.mem_of_getElem? hu)
    exact ⟨by rw [e1]; exact o1, by rw [e2]; exact o2, by rw [e3]; exact o3, by rw [e2, e3]; exact o4, r⟩
  · show (nms vs).Nodup
    rw [en]
    exact (List.take_sublist _ _).nodup h.nd
theorem dn2 (GD : DrawZ P w K mg base) (GO : OneZ P w K mg base) (hr : Room 6 (A.deeper (envOfC "_law_drawn_net" (defScope sDrawnNet) s.heap.objs.size f cdv))) :
    PSs (TDn P w K mg base f cdv A outer s Hl E) [dnB 2, dnB 3, dnB 4, dnB 5] tDn2 := by
  have r2 : Room 2 (A.deeper (envOfC "_law_drawn_net" (defScope sDrawnNet) s.heap.objs.size f cdv)) := hr.mono (by decide)
  have r3 : Room 3 (A.deeper (envOfC "_law_drawn_net" (defScope sDrawnNet) s.heap.objs.size f cdv)) := hr.mono (by decide)
  refine weak (pss_cons (ps_if (pt_cmpR op_eq (pe_fz GD r2 (by rfl) (pa_cons (pv 0) (pa_cons pe_int pa_nil))) pe_int (nomark _)) (pss_one (ps_ret (pe_lst (pa_cons (pv 1) (pa_cons (pv 2) pa_nil))))) pss_nil)
    (pss_cons (ps_set (i := 3) scDn.nd rfl (Or.inl rfl) (pe_lst pa_nil))
    (pss_cons (ps_for PassesOwn.never rfl (pi_list (pv 2)) (pg_name (i := 4) scDn.nd rfl (Or.inl rfl))
      (pss_cons (ps_set (i := 5) scDn.nd rfl (Or.inl rfl) (pe_fz GO r3 (by rfl) (pa_cons (pv 0) (pa_cons (pe_lst (pa_cons (pe_ix ix_tup (pv 4) pe_int (fun _ _ => rfl)) (pa_cons (pe_ix ix_tup (pv 4) pe_int (fun _ _ => rfl)) (pa_cons pe_int (pa_cons pe_int (pa_cons pe_int pa_nil)))))) pa_nil))))
      (pss_one (ps_expr (pe_bm PySem.F.plainAttrs_list PySem.F.slot_list_append PySem.F.type_list_append mt_append (pv 3) (pa_cons (pe_op op_catT (pe_slice sl_tup (pv 4) po_none (po_some pe_int))
        (pe_tup (pa_cons (pv 5) (pa_cons (pe_fz GO r3 (by rfl) (pa_cons (pv 0) (pa_cons (pe_lst (pa_cons (pe_ix ix_tup (pv 4) pe_int (fun _ _ => rfl)) (pa_cons (pe_ix ix_tup (pv 4) pe_int (fun _ _ => rfl)) (pa_cons pe_int (pa_cons pe_int pa_nil))))) pa_nil))) pa_nil)))) pa_nil))))))
    (pss_one (ps_ret (pe_lst (pa_cons (pv 1) (pa_cons (pv 3) pa_nil)))))))) ?_
  rintro Z σ H ⟨p, W, ls, lg, lc, ln, t, ts, us, gs, cs, ns, n, rfl, hp, hn, hw, ht, ntp, so, l10, few, z⟩
  have sl := sizeLine_eq
  have two : 2 ≤ sizeLine := by omega
  have b0 : ∀ {H : Hp} {o : HO}, But p H (upd H p o) := but_self
  obtain ⟨xs, hx, hu⟩ := hp
  refine ⟨_, rfl, p, 2, n, xs, rfl, hx, hu, by omega, by decide, by decide, fun r1 ys1 r10 r15 hu1 => ⟨rfl, _, rfl, ?_⟩⟩
  have b1 : But p H (upd H p (.lst ys1)) := b0
  have p1 : upd H p (.lst ys1) p = some (.lst ys1) := upd_same
  have w1 := hw.but b1 ⟨_, hx⟩
  have t1 := ht.but b1 ntp ⟨_, hx⟩
  generalize upd H p (.lst ys1) = H1 at b1 p1 w1 t1 ⊢
  have hp1 : Pu H1 p (n + 1) := ⟨ys1, p1, hu1⟩
  refine ite2 (fun _ => ?_) (fun _ => ?_)
  · refine ⟨_, rfl, _, rfl, two, fun D nD => ?_⟩
    have s2 := same_upd (o := .lst [V.ref W, V.ref t]) nD
    exact z D t us _ (b1.trans (Same.but s2)) ((hp1.same s2).mono (by omega)) upd_same (w1.keep s2) (t1.keep s2) ntp so l10 few
  refine ⟨by show 0 ≤ sizeLine; omega, fun F nF => ?_⟩
  have s2 := same_upd (o := .lst []) nF
  have hF : upd H1 F (.lst []) F = some (.lst []) := upd_same
  have nFp : F ≠ p := fun e => by
    rw [e, p1] at nF
    cases nF
  have w2 : WoP (del (upd H1 F (.lst [])) F) p W ls lg lc ln ts gs cs ns := w1.keep (del_new nF)
  have t2 : Sts (del (upd H1 F (.lst [])) F) t us := t1.keep (del_new nF)
  have hp2 := hp1.same s2
  have b2 : But p H (upd H1 F (.lst [])) := b1.trans (Same.but s2)
  generalize upd H1 F (.lst []) = H2 at s2 hF w2 t2 hp2 b2 ⊢
  refine ⟨_, rfl, t, rfl, ⟨_, SqL.of (t2.keep del_same).1⟩, ?_⟩
  refine for_list (K := K) (a := t) (xs := us.map fun t => V.ref t.1) (fun j σ H' => ∃ (vs : List (Addr × S5)) (o4 o5 : Option V), σ = [some (.ref p), some (.ref W), some (.ref t), some (.ref F), o4, o5] ∧ (∀ a o, a ≠ p → a ≠ F → H2 a = some o → H' a = some o) ∧ Pu H' p (n + 1 + 2 * (j : Nat)) ∧ WoP (del H' F) p W ls lg lc ln ts gs cs ns ∧ Sts (del H' F) t us ∧
      H' F = some (.lst (vs.map fun t => V.ref t.1)) ∧ (∀ u ∈ vs, del H' F u.1 = some (.tup u.2.vals)) ∧ vs.length = j ∧ ∀ (i : Nat) (s : S5), (snds vs)[i]? = some s → ∃ u : S5, (snds us)[i]? = some u ∧ s.nm = u.nm ∧ s.st = u.st ∧ s.en = u.en ∧ 0 ≤ s.wd ∧ s.wd ≤ 1000000 ∧ 0 ≤ s.ln ∧ s.ln ≤ 1000000)
    ⟨[], _, _, rfl, fun a o _ _ e => e, by simpa using hp2, w2, t2, hF, fun u h => by simp at h, rfl, fun i s h => by simp at h⟩ (fun j σ H' _ h => by obtain ⟨_, _, _, _, _, _, _, t, _⟩ := h; exact SqL.of (t.keep del_same).1) ?_ ?_
  · rintro j x σ H3 hj ⟨vs, o4, o5, rfl, b3, hp3, w3, t3, hF3, e3, lj, r3'⟩
    obtain ⟨y, hy, rfl⟩ := at_map hj
    have ym := List.mem_of_getElem? hy
    have jl := (List.getElem?_eq_some_iff.mp hy).1
    have hy2 : (snds us)[j]? = some y.2 := by rw [snds, List.getElem?_map, hy]; rfl
    obtain ⟨_, _, _, _, yw0, yw1, yl0, yl1⟩ := so.ok y.2 (List.mem_of_getElem? hy2)
    have hyd := t3.2 y ym
    have hy3 := (del_at hyd).1
    refine ⟨_, rfl, _, rfl, y.1, _, ((3 : Nat) : Int), _, rfl, rfl, SqT.of hy3, atI_nat rfl, _, rfl, y.1, _, ((3 : Nat) : Int), _, rfl, rfl, SqT.of hy3, atI_nat rfl, by show 5 ≤ sizeLine; omega, fun L nL => ?_⟩
    have s4 := same_upd (o := .lst [V.int y.2.wd, V.int y.2.wd, V.int 37, V.int 999, V.int 1000]) nL
    have hL : upd H3 L (.lst [V.int y.2.wd, V.int y.2.wd, V.int 37, V.int 999, V.int 1000]) L = some (.lst [V.int y.2.wd, V.int y.2.wd, V.int 37, V.int 999, V.int 1000]) := upd_same
    generalize upd H3 L (.lst [V.int y.2.wd, V.int y.2.wd, V.int 37, V.int 999, V.int 1000]) = H4 at s4 hL ⊢
    obtain ⟨xs4, hx4, hu4⟩ := hp3.same s4
    have npL : p ≠ L := fun e => by
      obtain ⟨q, hq, _⟩ := hp3
      rw [← e, hq] at nL
      cases nL
    refine ⟨p, L, _, xs4, _, rfl, hx4, hu4, by omega, hL, npL, (by show 0 < 5; decide), (by show 5 < 128; decide), fun k zv ys5 hz hu5 => ?_⟩
    obtain ⟨wv, rfl, w0, w1'⟩ := five_int (b := 0) hz ⟨yw0, yw1⟩
    have b5 : But p H3 (upd H4 p (.lst ys5)) := (Same.but s4).trans b0
    have p5 : upd H4 p (.lst ys5) p = some (.lst ys5) := upd_same
    generalize upd H4 p (.lst ys5) = H5 at b5 p5 ⊢
    have hF5 := b5 _ _ nFp hF3
    have nyp : y.1 ≠ p := fun e => by
      rw [e] at hy3
      obtain ⟨q, hq, _⟩ := hp3
      rw [hq] at hy3
      cases hy3
    have hy5 := b5 _ _ nyp hy3
    refine ⟨_, rfl, Or.inl ⟨rfl, _, SqL.of hF5⟩, _, rfl, ((3 : Nat) : Int), rfl, y.1, _, rfl, SqT.of hy5, (by show ¬ (HT.sIx 5 0 none = 0 ∧ HT.sIx 5 5 (some ((3 : Nat) : Int)) = 5); decide), fun S nS => ?_⟩
    rw [show cutV y.2.vals none (some ((3 : Nat) : Int)) = [V.str y.2.nm, V.str y.2.st, V.str y.2.en] from rfl]
    have s6 := same_upd (o := .tup [V.str y.2.nm, V.str y.2.st, V.str y.2.en]) nS
    have hS : upd H5 S (.tup [V.str y.2.nm, V.str y.2.st, V.str y.2.en]) S = some (.tup [V.str y.2.nm, V.str y.2.st, V.str y.2.en]) := upd_same
    generalize upd H5 S (.tup [V.str y.2.nm, V.str y.2.st, V.str y.2.en]) = H6 at s6 hS ⊢
    have hy6 := s6 _ _ hy5
    refine ⟨_, rfl, _, rfl, _, rfl, y.1, _, ((4 : Nat) : Int), _, rfl, rfl, SqT.of hy6, atI_nat rfl, _, rfl, y.1, _, ((4 : Nat) : Int), _, rfl, rfl, SqT.of hy6, atI_nat rfl, by show 4 ≤ sizeLine; omega, fun M nM => ?_⟩
    have s7 := same_upd (o := .lst [V.int y.2.ln, V.int y.2.ln, V.int 250, V.int 1000]) nM
    have hM : upd H6 M (.lst [V.int y.2.ln, V.int y.2.ln, V.int 250, V.int 1000]) M = some (.lst [V.int y.2.ln, V.int y.2.ln, V.int 250, V.int 1000]) := upd_same
    generalize upd H6 M (.lst [V.int y.2.ln, V.int y.2.ln, V.int 250, V.int 1000]) = H7 at s7 hM ⊢
    have p7 := s7 _ _ (s6 _ _ p5)
    have npM : p ≠ M := fun e => by
      rw [← e, s6 _ _ p5] at nM
      cases nM
    refine ⟨p, M, _, ys5, _, rfl, p7, hu5, by omega, hM, npM, (by show 0 < 4; decide), (by show 4 < 128; decide), fun k2 zv2 ys8 hz2 hu8 => ?_⟩
    obtain ⟨lv, rfl, l0, l1'⟩ := four_int hz2 ⟨yl0, yl1⟩
    have b8 : But p H5 (upd H7 p (.lst ys8)) := (Same.but (same_trans s6 s7)).trans b0
    have nSp : S ≠ p := fun e => by
      rw [e, p5] at nS
      cases nS
    have hS8 : upd H7 p (.lst ys8) S = some (.tup [V.str y.2.nm, V.str y.2.st, V.str y.2.en]) := by rw [upd_ne nSp]; exact s7 _ _ hS
    have p8 : upd H7 p (.lst ys8) p = some (.lst ys8) := upd_same
    generalize upd H7 p (.lst ys8) = H8 at b8 hS8 p8 ⊢
    refine ⟨two, fun U nU => ?_⟩
    have s9 := same_upd (o := .tup [V.int wv, V.int lv]) nU
    have hU : upd H8 U (.tup [V.int wv, V.int lv]) U = some (.tup [V.int wv, V.int lv]) := upd_same
    generalize upd H8 U (.tup [V.int wv, V.int lv]) = H9 at s9 hU ⊢
    refine ⟨S, U, _, _, rfl, rfl, SqT.of (s9 _ _ hS8), SqT.of hU, by simp, (by show 3 + 2 ≤ sizeLine; omega), (fun z => by cases z), fun _ r nr => ?_⟩
    have s10 := same_upd (o := .tup ([V.str y.2.nm, V.str y.2.st, V.str y.2.en] ++ [V.int wv, V.int lv])) nr
    have hr' : upd H9 r (.tup ([V.str y.2.nm, V.str y.2.st, V.str y.2.en] ++ [V.int wv, V.int lv])) r = some (.tup (S5.vals ⟨y.2.nm, y.2.st, y.2.en, wv, lv⟩)) := upd_same
    generalize upd H9 r (.tup ([V.str y.2.nm, V.str y.2.st, V.str y.2.en] ++ [V.int wv, V.int lv])) = H10 at s10 hr' ⊢
    have b10 : But p H3 H10 := b5.trans (b8.trans (Same.but (same_trans s9 s10)))
    have hF10 := b10 _ _ nFp hF3
    have p10 := s10 _ _ (s9 _ _ p8)
    refine ⟨F, _, _, rfl, rfl, hF10, by rw [List.length_map]; omega, ?_⟩
    have nrF : r ≠ F := fun e => by
      rw [e, hF10] at hr'
      cases hr'
    have dd : ∀ {o : HO}, Same (del H10 F) (del (upd H10 F o) F) := del_upd
    refine ⟨vs ++ [(r, ⟨y.2.nm, y.2.st, y.2.en, wv, lv⟩)], _, _, rfl, fun a o np nF e => by rw [upd_ne nF]; exact b10 _ _ np (b3 _ _ np nF e), ⟨ys8, by rw [upd_ne nFp.symm]; exact p10, hu8.mono (by push_cast; omega)⟩, (w3.but (but_del b10) (hp3.del nFp.symm).lst).keep dd, (t3.but (but_del b10) ntp (hp3.del nFp.symm).lst).keep dd, by rw [upd_same, List.map_append]; rfl, fun u hu => ?_, by rw [List.length_append, lj]; rfl, fun i s hi => ?_⟩
    · refine dd _ _ ?_
      rcases List.mem_append.mp hu with h | h
      · have e := e3 u h
        exact but_del b10 _ _ (fun ep => by
          have := (del_at e).1
          rw [ep] at this
          obtain ⟨q, hq, _⟩ := hp3
          rw [hq] at this
          cases this) e
      · rw [List.mem_singleton.mp h]
        exact del_of hr' nrF
    · rw [snds, List.map_append] at hi
      by_cases hlt : i < vs.length
      · rw [List.getElem?_append_left (by rw [List.length_map]; exact hlt)] at hi
        exact r3' i s hi
      · rw [List.getElem?_append_right (by rw [List.length_map]; omega), List.length_map] at hi
        have ei : i = vs.length := by
          have := (List.getElem?_eq_some_iff.mp hi).1
          simp only [List.length_map, List.length_cons, List.length_nil] at this
          omega
        rw [ei, Nat.sub_self] at hi
        cases hi
        exact ⟨y.2, by rw [ei, lj]; exact hy2, rfl, rfl, rfl, w0, w1', l0, l1'⟩
  · rintro σ H3 ⟨vs, o4, o5, rfl, b3, hp3, w3, t3, hF3, e3, lj, r3'⟩
    rw [List.length_map] at lj
    refine ⟨_, rfl, _, rfl, two, fun D nD => ?_⟩
    have s4 := same_upd (o := .lst [V.ref W, V.ref F]) nD
    have hv : Sts H3 F vs := ⟨hF3, fun u h => (del_at (e3 u h)).1⟩
    have b13 : But p H H3 := fun a o na e => by
      have e1 := b1 _ _ na e
      exact b3 _ _ na (ne_of_none e1 nF) (s2 _ _ e1)
    have lus : (snds vs).length = (snds us).length := by rw [snds, snds, List.length_map, List.length_map, lj]
    refine z D F vs _ (b13.trans (Same.but s4)) ((hp3.same s4).mono (by rw [List.length_map]; omega)) upd_same ((w3.keep del_same).keep s4) (hv.keep s4) nFp (sok_like so (Nat.le_of_eq lus) r3') (by omega) (by
      obtain ⟨zs, h1, h2⟩ := few
      refine ⟨zs, h1, fun s hs => ?_⟩
      obtain ⟨i, hi⟩ := List.mem_iff_getElem?.mp hs
      obtain ⟨u, hu, _, e1, e2, _⟩ := r3' i s hi
      rw [e1, e2]
      exact h2 u (List.mem_of_getElem? hu))
end
theorem ok_drawnNet {f : Addr} {fd : FuncData} (F : FnP K "_law_drawn_net" sDrawnNet f fd) (GD : DrawZ P w K mg base) (GO : OneZ P w K mg base) (GW : Fz P w K mg base "_law_world" 6 ["_law_purse_here", "_law_gates", "_law_inner_here", "_law_top"] spWorld) (GT : Fz P w K mg base "_law_town_world" 6 ["_law_purse_here", "_law_world_here", "_law_own", "_law_top"] spTownWorld) : FnOk P w K mg base CX0 7 f fd ["_law_purse_here"] spDrawn := by
  refine F.ok scDn (fun vs H Q E h => ?_) (fun cdv A outer s H vs Q E hr h => ?_)
  · obtain ⟨_, _, rfl, _⟩ := h
    rfl
  · obtain ⟨p, n, rfl, hp, hn, z⟩ := h
    refine ⟨_, PSs.nox (dn0 GD GW GT hr (dn2 GD GO hr)), ?_⟩
    refine ⟨p, n, rfl, hp, hn, fun W ls lg lc ln t ts us gs cs ns H1 b1 p1 w1 t1 nt so l10 few g4 => ?_⟩
    exact ⟨p, W, ls, lg, lc, ln, t, ts, us, gs, cs, ns, _, rfl, p1, by omega, w1, t1, nt, so, l10, few, fun D t2 us2 H2 b2 p2 hD w2 ht2 nt2 so2 l2 few2 => z D W ls lg lc ln t2 ts us2 gs cs ns H2 (b1.trans b2) (p2.mono (by omega)) hD w2 ht2 nt2 so2 l2 few2 g4⟩
end
end K13
end
section
set_option Elab.async false
set_option linter.all false
set_option maxRecDepth 100000
set_option maxHeartbeats 4000000
namespace K13
open PySem PySem.Spec PyProof.Rows L2
theorem dp_same {p : Addr} {H H' : Hp} (b : But p H H') : Same (del H p) (del H' p) := fun a o e => by
  obtain ⟨e1, n⟩ := del_at e
  exact del_of (b _ _ n e1) n
theorem but_delp {p : Addr} {H : Hp} : But p H (del H p) := fun b o n e => del_of e n
/-- the words that are asked of are few -/
theorem few_asked {gs zs : List Str} {us : List (Addr × S5)} (f : Few gs us) (g4 : gs.length ≤ 4) (t : Told zs (gs ++ ends (snds us))) : zs.length ≤ 6 := by
  obtain ⟨ys, h1, h2⟩ := f
  have := len_le_of_sub zs (gs ++ ys) t.nd fun x hx => by
    rcases List.mem_append.mp ((t.mem x).mp hx) with h | h
    · exact List.mem_append_left _ h
    · rcases List.mem_append.mp (show x ∈ (snds us).map S5.st ++ (snds us).map S5.en from h) with h | h
      · obtain ⟨s, hs, rfl⟩ := List.mem_map.mp h
        exact (h2 s hs).1
      · obtain ⟨s, hs, rfl⟩ := List.mem_map.mp h
        exact (h2 s hs).2
  rw [List.length_append] at this
  omega
section
variable {P : Program} {w : World} {K : PySem.W.Frag} {mg : Str → Option Value} {base : Heap}
/-! ### _law_pairs -/
def spPairs : Sp := fun vs H Q _ => ∃ (p W ls lg t : Addr) (ts us : List (Addr × S5)) (gs : List Str) (many : Nat) (n : Int), vs = [.ref p, .ref W, .ref t, .int (many : Int)] ∧ Wt (del H p) W ls lg t ts us gs ∧ Pu H p n ∧ n ≤ 600000 ∧ Few gs us ∧ gs.length ≤ 4 ∧
  ∀ (D : Addr) (ps : List (Addr × P2)) H', But p H H' → Pu H' p (n + 100) → PL (del H' p) D ps → (∀ x ∈ prs ps, x.1 ∈ gs ++ ends (snds us) ∧ x.2 ∈ gs ++ ends (snds us) ∧ x.1 ≠ x.2) → ps.length ≤ many → ps.length ≤ 36 → Q (.ref D) H'
abbrev NPs : List Str := ["_law_purse_here", "_law_world_here", "_law_town_here", "_law_many", "_law_asked_here", "_law_found", "_law_start", "_law_goal"]
theorem scPs : FnScope NPs ["_law_purse_here", "_law_world_here", "_law_town_here", "_law_many"] (defScope sPairs) := ⟨rfl, rfl, rfl, by decide +kernel, rfl, by decide +kernel, by decide +kernel⟩
theorem ok_pairs {f : Addr} {fd : FuncData} (F : FnP K "_law_pairs" sPairs f fd) (GA : Fz P w K mg base "_law_asked" 4 ["_law_world_here", "_law_town_here"] spLAsk) (GSh : Fz P w K mg base "_law_shuffled" 3 ["_law_purse_here", "_law_some"] spShuffled) : FnOk P w K mg base CX0 5 f fd ["_law_purse_here", "_law_world_here", "_law_town_here", "_law_many"] spPairs := by
  refine F.ok scPs (fun vs H Q E h => ?_) (fun cdv A outer s H vs Q E hr h => ?_)
  · obtain ⟨_, _, _, _, _, _, _, _, _, _, rfl, _⟩ := h
    rfl
  · obtain ⟨p, W, ls, lg, t, ts, us, gs, many, n, rfl, hw, hp, hn, few, g4, z⟩ := h
    have sl := sizeLine_eq
    have two : 2 ≤ sizeLine := by omega
    have r3 : Room 3 (A.deeper (envOfC "_law_pairs" (defScope sPairs) s.heap.objs.size f cdv)) := hr.mono (by decide)
    refine ⟨_, PSs.nox (pss_cons (ps_set (i := 4) scPs.nd rfl (Or.inl rfl) (pe_fz GA hr (by rfl) (pa_cons (pv 1) (pa_cons (pv 2) pa_nil))))
      (pss_cons (ps_set (i := 5) scPs.nd rfl (Or.inl rfl) (pe_lst pa_nil))
      (pss_cons (ps_for PassesOwn.never rfl (pi_list (pv 4)) (pg_name (i := 6) scPs.nd rfl (Or.inr rfl))
        (pss_one (ps_set (i := 5) scPs.nd rfl (Or.inl rfl) (pe_op op_cat (pv 5) (pe_lc (own := [("_law_goal", 7)]) (g := gName 7) (tt := tTest (tOp rNe (tVar 7) (tVar 6))) (te := tTup (tCons (tVar 6) (tCons (tVar 7) tNil))) rfl scPs.nd (pi_list (pv 4)) (blkOk_by (own := [("_law_goal", 7)]) (N := NPs) (sc := defScope sPairs) (by decide +kernel))
          (fun _ _ _ _ _ => pg_name (i := 7) scPs.nd rfl (Or.inl rfl)) (fun _ _ _ _ _ => pts_one (pt_cmpR op_ne (pv 7) (pv 6) (nomark _))) (fun _ _ _ _ _ => pe_tup (pa_cons (pv 6) (pa_cons (pv 7) pa_nil))))))))
      (pss_one (ps_ret (pe_slice sl_list (pe_fz GSh r3 (by rfl) (pa_cons (pv 0) (pa_cons (pv 5) pa_nil))) po_none (po_some (pv 3)))))))), ?_⟩
    refine ⟨_, rfl, _, rfl, W, ls, lg, t, ts, us, gs, rfl, hw.keep del_same, fun Ak zs H1 s1 nA tz hA l60 => ?_⟩
    have l6 := few_asked few g4 tz
    refine ⟨by show 0 ≤ sizeLine; omega, fun F0 nF => ?_⟩
    have s2 := same_upd (o := .lst []) nF
    have hF0 : PL (upd H1 F0 (.lst [])) F0 [] := ⟨upd_same, fun u h => by simp at h⟩
    generalize upd H1 F0 (.lst []) = H2 at s2 hF0 ⊢
    have hA2 : Ws H2 Ak zs := s2 _ _ hA
    have s02 := same_trans s1 s2
    refine ⟨_, rfl, Ak, rfl, ⟨_, SqL.of hA2⟩, ?_⟩
    refine for_list (K := K) (a := Ak) (xs := zs.map V.str) (fun j σ H' => ∃ (F : Addr) (ps : List (Addr × P2)) (o6 o7 : Option V), σ = [some (.ref p), some (.ref W), some (.ref t), some (.int (many : Int)), some (.ref Ak), some (.ref F), o6, o7] ∧ Same H2 H' ∧ PL H' F ps ∧ ps.length ≤ 6 * j ∧ (∀ x ∈ prs ps, x.1 ∈ zs ∧ x.2 ∈ zs ∧ x.1 ≠ x.2) ∧ H F = none)
      ⟨F0, [], _, _, rfl, .refl _, hF0, Nat.zero_le _, fun x h => by simp at h, s1.free nF⟩ (fun j σ H' _ h => by obtain ⟨_, _, _, _, _, s, _⟩ := h; exact SqL.of (s _ _ hA2)) ?_ ?_
    · rintro j v σ H3 hj ⟨F1, ps, o6, o7, rfl, s3, hF, lp, mp, fF⟩
      obtain ⟨x, hx, rfl⟩ := at_map hj
      have jl := (List.getElem?_eq_some_iff.mp hx).1
      have hA3 : Ws H3 Ak zs := s3 _ _ hA2
      refine ⟨_, rfl, _, rfl, Ak, rfl, ⟨_, SqL.of hA3⟩, fun M nM => ?_⟩
      refine _root_.H3.lc_gen (us := zs) (vf := V.str) (p := fun y => decide (y ≠ x)) (R := fun g y H' => ∃ a, y = .ref a ∧ a ≠ M ∧ PaAt H' a (x, g)) nM hA3 (by omega) (fun u y H H' ⟨a, h1, h2, h3⟩ k => ⟨a, h1, h2, k _ _ h2 h3⟩) (fun g hg H4 s4 hM N N0 n1 n0 => ?_) (fun H4 ws s4 hM e hR => ?_)
      · obtain ⟨acc, hM⟩ := hM
        refine ⟨rfl, _, rfl, _, rfl, rfl, _, rfl, ?_⟩
        by_cases hgx : g = x
        · refine ifF (by rw [hgx]; simp) (n0 (by rw [hgx]; simp) _ (Same.refl _))
        · refine ifT (by simp [hgx]) ⟨_, rfl, _, rfl, two, fun a na => ?_⟩
          exact n1 (by simp [hgx]) _ _ (same_upd na) ⟨a, rfl, (ne_of_none hM na).symm, upd_same⟩
      have e1 : (ws.map fun z => z.1) = zs.filter fun y => decide (y ≠ x) := e
      obtain ⟨qs, h1, h2, h3⟩ : ∃ qs : List (Addr × P2), (ws.map fun z => z.2) = qs.map (fun t => V.ref t.1) ∧ prs qs = (ws.map fun z => z.1).map (fun g => (x, g)) ∧ ∀ t ∈ qs, PaAt H4 t.1 t.2 := by
        clear hM e e1
        induction ws with
        | nil => exact ⟨[], rfl, rfl, fun t ht => by simp at ht⟩
        | cons z zs ih =>
          obtain ⟨ps, h1, h2, h3⟩ := ih fun z hz => hR z (List.mem_cons_of_mem _ hz)
          obtain ⟨a, e, _, h⟩ := hR z List.mem_cons_self
          refine ⟨(a, (x, z.1)) :: ps, by rw [List.map_cons, List.map_cons, h1, e], by rw [prs, List.map_cons, List.map_cons, List.map_cons]; exact congrArg _ h2, fun t ht => ?_⟩
          rcases List.mem_cons.mp ht with rfl | ht
          · exact h
          · exact h3 t ht
      have lq : qs.length ≤ 6 := by
        have h4 := congrArg List.length h2
        rw [e1, List.length_map, List.length_map] at h4
        have := List.length_filter_le (fun y => decide (y ≠ x)) zs
        omega
      have hF4 := hF.keep s4
      refine ⟨F1, M, _, _, rfl, rfl, hF4.at_, hM, by rw [List.length_map, h1, List.length_map]; omega, fun F2 nF2 => ?_⟩
      rw [h1, ← List.map_append]
      have s5 := same_upd (o := .lst ((ps ++ qs).map fun t => V.ref t.1)) nF2
      refine ⟨F2, ps ++ qs, _, _, rfl, same_trans s3 (same_trans s4 s5), ⟨upd_same, fun u hu => ?_⟩, by rw [List.length_append]; omega, fun y hy => ?_, ?_⟩
      · rcases List.mem_append.mp hu with h | h
        · exact s5 _ _ (hF4.each u h)
        · exact s5 _ _ (h3 u h)
      · rw [prs, List.map_append] at hy
        rcases List.mem_append.mp hy with h | h
        · exact mp y h
        · have h : y ∈ prs qs := h
          rw [h2, e1] at h
          obtain ⟨g, hg, rfl⟩ := List.mem_map.mp h
          have hg := List.mem_filter.mp hg
          exact ⟨List.mem_of_getElem? hx, hg.1, fun e => of_decide_eq_true hg.2 e.symm⟩
      · exact (same_trans s02 (same_trans s3 s4)).free nF2
    · rintro σ H3 ⟨F1, ps, o6, o7, rfl, s3, hF, lp, mp, fF⟩
      rw [List.length_map] at lp
      have hp3 := hp.same (same_trans s02 s3)
      have nFp : F1 ≠ p := fun e => by
        obtain ⟨xs, h, _⟩ := hp
        rw [e, h] at fF
        cases fF
      refine ⟨_, rfl, _, rfl, p, F1, n, _, rfl, hp3, by omega, hF.at_, nFp, by rw [List.length_map]; omega, fun D2 vs H4 pm p4 b4 nD2 hD2 => ?_⟩
      refine ⟨_, rfl, _, rfl, D2, _, rfl, SqL.of hD2, fun d nd => ?_⟩
      rw [cut_take]
      obtain ⟨qs, pr, rfl⟩ := perm_map_inv pm ps rfl
      rw [← List.map_take]
      have s5 := same_upd (o := .lst ((qs.take many).map fun t => V.ref t.1)) nd
      have ndp : d ≠ p := fun e => by
        obtain ⟨xs, h, _⟩ := p4
        rw [e, h] at nd
        cases nd
      have bb : But p H (upd H4 d (.lst ((qs.take many).map fun t => V.ref t.1))) := (Same.but (same_trans s02 s3)).trans (b4.trans (Same.but s5))
      refine z d (qs.take many) _ bb ((p4.same s5).mono (by rw [List.length_map]; omega)) ⟨del_of upd_same ndp, fun u hu => ?_⟩ (fun x hx => ?_) (by rw [List.length_take]; omega) (by rw [List.length_take, pr.length_eq]; omega)
      · have um := pr.mem_iff.mp (List.mem_of_mem_take hu)
        have e := hF.each u um
        have nup : u.1 ≠ p := fun ep => by
          obtain ⟨xs, h, _⟩ := hp3
          have e : H3 u.1 = some (.tup [.str u.2.1, .str u.2.2]) := e
          rw [ep, h] at e
          cases e
        exact del_of (s5 _ _ (b4 _ _ nup e)) nup
      · obtain ⟨u, hu, rfl⟩ := List.mem_map.mp hx
        obtain ⟨m1, m2, m3⟩ := mp u.2 (List.mem_map.mpr ⟨u, pr.mem_iff.mp (List.mem_of_mem_take hu), rfl⟩)
        exact ⟨(tz.mem _).mp m1, (tz.mem _).mp m2, m3⟩
end
end K13
end
section
set_option Elab.async false
set_option linter.all false
set_option maxRecDepth 100000
set_option maxHeartbeats 8000000
namespace K13
open PySem PySem.Spec PyProof.Rows L2
section
variable {P : Program} {w : World} {K : PySem.W.Frag} {mg : Str → Option Value} {base : Heap}
/-! ### _law_ends_of -/
def spEndsL : Sp := fun vs H Q _ => ∃ (l : Addr) (ts : List (Addr × S5)), vs = [.ref l] ∧ Sts H l ts ∧ (∀ t ∈ ts, t.2.st ≠ t.2.en) ∧ 2 * ts.length ≤ 63 ∧
  ∀ (D : Addr) (us : List Str) (H' : Hp), Same H H' → H D = none → us.Nodup → (∀ x, x ∈ us ↔ x ∈ ends (snds ts)) → Ws H' D us → us.length ≤ 63 → Q (.ref D) H'
abbrev NEo : List Str := ["_law_streets", "_law_found", "_law_street", "_law_word_here"]
theorem scEo : FnScope NEo ["_law_streets"] (defScope sEndsL) := ⟨rfl, rfl, rfl, by decide +kernel, rfl, by decide +kernel, by decide +kernel⟩
theorem ok_endsOfL {f : Addr} {fd : FuncData} (F : FnP K "_law_ends_of" sEndsL f fd) (T : Tx K mg) : FnOk P w K mg base CX0 1 f fd ["_law_streets"] spEndsL := by
  refine F.ok scEo (fun vs H Q E h => ?_) (fun cdv A outer s H vs Q E hr h => ?_)
  · obtain ⟨_, _, rfl, _⟩ := h
    rfl
  · obtain ⟨l, ts, rfl, hl, hne, h63, z⟩ := h
    have sl := sizeLine_eq
    refine ⟨_, PSs.nox (pss_cons (ps_set (i := 1) scEo.nd rfl (Or.inr rfl) (pe_lst pa_nil))
      (pss_cons (ps_for PassesOwn.never rfl (pi_list (pv 0)) (pg_name (i := 2) scEo.nd rfl (Or.inl rfl))
        (pss_one (ps_set (i := 1) scEo.nd rfl (Or.inr rfl) (pe_op op_cat (pv 1)
          (pe_lc (own := [("_law_word_here", 3)]) (g := gName 3) (tt := tTest (tOp (rIn K true) (tVar 3) (tVar 1))) rfl scEo.nd (pi_tup (pe_slice sl_tup (pv 2) (po_some pe_int) (po_some pe_int))) (blkOk_by (own := [("_law_word_here", 3)]) (N := NEo) (sc := defScope sEndsL) (by decide +kernel))
            (fun _ _ _ _ _ => pg_name (i := 3) scEo.nd rfl (Or.inl rfl)) (fun _ _ _ _ _ => pts_one (pt_cmpR op_notIn_seq (pv 3) (pv 1) rfl)) (fun _ _ _ _ _ => pv 3))))))
      (pss_one (ps_ret (pv 1))))), ?_⟩
    refine ⟨Nat.zero_le _, fun F1 nF1 => ?_⟩
    refine ⟨_, rfl, l, rfl, ⟨_, SqL.of ((same_upd nF1) _ _ hl.1)⟩, ?_⟩
    refine for_list (K := K) (a := l) (xs := ts.map fun t => V.ref t.1) (fun i σ H' => Same H H' ∧ ∃ (o3 : Option V) (o4 : Option V) (F : Addr) (fs : List Str), σ = [some (.ref l), some (.ref F), o3, o4] ∧ H F = none ∧ Ws H' F fs ∧ fs.Nodup ∧ ∀ x, x ∈ fs ↔ x ∈ ([] : List Str) ∨ x ∈ ends ((snds ts).take i))
      ⟨same_upd nF1, _, _, F1, [], rfl, nF1, upd_same, List.nodup_nil, fun x => by simp [ends]⟩ (fun i σ H' _ h => SqL.of (h.1 _ _ hl.1)) ?_ ?_
    · rintro i x σ H' hi ⟨s1, o3, o4, F, fs, rfl, nF, hF, nd, m⟩
      obtain ⟨t, ht, rfl⟩ := at_map hi
      have tm := List.mem_of_getElem? ht
      have lt := (List.getElem?_eq_some_iff.mp ht).1
      have ht2 : (snds ts)[i]? = some t.2 := by
        rw [List.getElem?_map, ht]
        rfl
      have fl := len_ends nd m
      have fl2 : ((snds ts).take i).length ≤ ts.length := by
        rw [List.length_take, List.length_map]
        omega
      refine ⟨_, rfl, _, rfl, _, rfl, _, rfl, t.1, _, rfl, SqT.of (s1 _ _ (hl.2 t tm)), ?_, fun S nS => ?_⟩
      · intro z
        exact absurd z.1 (by show ¬ HT.sIx 5 0 (some 1) = 0; decide)
      · have e := cut13 t.2
        have e' : cutV t.2.vals (some 1) (some 3) = [V.str t.2.st, V.str t.2.en] := e
        rw [e']
        have s2 := same_upd (o := .tup [V.str t.2.st, V.str t.2.en]) nS
        have hS : upd H' S (.tup [V.str t.2.st, V.str t.2.en]) S = some (.tup ([t.2.st, t.2.en].map V.str)) := upd_same
        generalize upd H' S (.tup [V.str t.2.st, V.str t.2.en]) = H2 at s2 hS ⊢
        refine ⟨S, rfl, ⟨_, SqT.of hS⟩, fun D nD => ?_⟩
        refine lc_notin (K := K) (i := 3) (f := 1) (F := F) (bs := fs) (ws := [t.2.st, t.2.en]) (walk_tup (K := K) (a := S) (xs := [t.2.st, t.2.en].map V.str)) nD (fun H3 s3 => SqT.of (s3 _ _ hS)) (s2 _ _ hF) (by show 2 ≤ 1000; decide) (fun v => rfl) (fun v => rfl) (fun v => rfl) fun H3 s3 hD => ?_
        obtain ⟨nd2, m2⟩ := add_two (a := t.2.st) (b := t.2.en) nd (hne t tm)
        refine ⟨F, D, _, _, rfl, rfl, s3 _ _ (s2 _ _ hF), hD, ?_, fun p np => ?_⟩
        · rw [List.length_map, List.length_map]
          have := List.length_filter_le (fun x => decide (x ∉ fs)) [t.2.st, t.2.en]
          simp only [List.length_cons, List.length_nil] at this fl
          omega
        · rw [← List.map_append]
          have s13 := same_trans s1 (same_trans s2 s3)
          refine ⟨same_trans s13 (same_upd np), _, _, p, _, rfl, s13.free np, upd_same, nd2, fun x => ?_⟩
          rw [m2, m, ends_take ht2]
          constructor
          · rintro ((h | h) | h)
            · exact .inl h
            · exact .inr (.inl h)
            · exact .inr (.inr h)
          · rintro (h | (h | h))
            · exact .inl (.inl h)
            · exact .inl (.inr h)
            · exact .inr h
    · rintro σ H' ⟨s1, o3, o4, F, fs, rfl, nF, hF, nd, m⟩
      rw [List.take_of_length_le (by rw [List.length_map, List.length_map]; exact Nat.le_refl _)] at m
      have fl := len_ends nd m
      rw [List.length_map] at fl
      simp only [List.length_nil] at fl
      exact ⟨_, rfl, z F fs _ s1 nF nd (fun x => by rw [m]; simp) hF (by omega)⟩
end
end K13
end
section
set_option Elab.async false
set_option linter.all false
set_option maxRecDepth 100000
set_option maxHeartbeats 8000000
namespace K13
open PySem PySem.Spec PyProof.Rows L2
section
variable {P : Program} {w : World} {K : PySem.W.Frag} {mg : Str → Option Value} {base : Heap}
/-- all that is asked of quarter and town -/
structure AkZ (P : Program) (w : World) (K : PySem.W.Frag) (mg : Str → Option Value) (base : Heap) (CQ CT : Addr) : Prop where
  m : Ms P w K mg base CQ CT
  pl : Fz P w K mg base "places_of" 2 ["town"] (spPlaces CT)
  cr : Fz P w K mg base "crossings_of" 2 ["quarter"] (spCross CQ)
  ak : Fz P w K mg base "asked_of" 3 ["quarter", "town"] (spAsked CQ CT)
  so : Fz P w K mg base "street_of" 2 ["quarter", "name"] (spStreetOf CQ)
  T : Tx K mg
/-- told -/
structure UnT (H : Hp) (CQ CT q t W ls lg T : Addr) (ts us : List (Addr × S5)) (gs : List Str) : Prop where
  q : IsQ H CQ q (snds ts) gs
  t : IsT H CT t (snds us)
  w : Wt H W ls lg T ts us gs
theorem UnT.keep {H H' : Hp} {CQ CT q t W ls lg T : Addr} {ts us : List (Addr × S5)} {gs : List Str} (h : UnT H CQ CT q t W ls lg T ts us gs) (s : Same H H') : UnT H' CQ CT q t W ls lg T ts us gs := ⟨h.q.keep s, h.t.keep s, h.w.keep s⟩
/-- the data that is told and due -/
def unD (sq su ss : List S5) (hs P C Z : List Str) : PyData := .list [.list (sq.map S5.data), .list (hs.map PyData.str), .list (su.map S5.data), .list (P.map PyData.str), .list (C.map PyData.str), .list (Z.map PyData.str), .list (ss.map S5.data)]
abbrev NUn : List Str := ["_law_quarter_here", "_law_town_of", "_law_world_here", "_law_town_here", "_law_told", "_law_crossings", "_law_due", "_law_street", "_law_gate"]
theorem scUn : FnScope NUn ["_law_quarter_here", "_law_town_of", "_law_world_here", "_law_town_here"] (defScope sUnspoilt) := ⟨rfl, rfl, rfl, by decide +kernel, rfl, by decide +kernel, by decide +kernel⟩
section
variable {f : Addr} {cdv : Value} {A : Around} {outer : List Env} {s : Shared} {Hl : Hp} {E : XK} {CQ CT : Addr}
abbrev TUn (P : Program) (w : World) (K : PySem.W.Frag) (mg : Str → Option Value) (base : Heap) (f : Addr) (cdv : Value) (A : Around) (outer : List Env) (s : Shared) (Hl : Hp) (E : XK) : Cx := (cxOf CX0 P w K mg base NUn "_law_unspoilt" (defScope sUnspoilt) f cdv A outer s Hl E).nox
def unB (j : Nat) : Stmt := (defBody sUnspoilt).getD j (.Pass ⟨0, 0, 0, 0⟩)
def tUn0 (CQ CT : Addr) (u : TS) : TS := fun Z σ H => ∃ (q t W ls lg T : Addr) (ts us : List (Addr × S5)) (gs : List Str), σ = L2.start NUn [.ref q, .ref t, .ref W, .ref T] ∧ UnT H CQ CT q t W ls lg T ts us gs ∧
  ∀ (L : Addr) (sq su : List S5) (hs Pl C Zs : List Str) (o7 o8 : Option V) H', Same H H' → Dt H' (.ref L) (unD sq su (snds ts) hs Pl C Zs) → sq.Perm (snds ts) → Asc5 sq → su.Perm (snds us) → Asc5 su → hs.Perm gs → Asc hs → Told Pl (ends (snds us)) → Told C (ends (snds ts) ++ gs) → Told Zs (gs ++ ends (snds us)) →
    u Z [some (.ref q), some (.ref t), some (.ref W), some (.ref T), some (.ref L), none, none, o7, o8] H'
theorem un0 (M : AkZ P w K mg base CQ CT) (hr : Room 8 (A.deeper (envOfC "_law_unspoilt" (defScope sUnspoilt) s.heap.objs.size f cdv))) {rest : List Stmt} {u : TS} (hu : PSs (TUn P w K mg base f cdv A outer s Hl E) rest u) :
    PSs (TUn P w K mg base f cdv A outer s Hl E) (unB 0 :: unB 1 :: rest) (tUn0 CQ CT u) := by
  have r1 : Room 1 (A.deeper (envOfC "_law_unspoilt" (defScope sUnspoilt) s.heap.objs.size f cdv)) := hr.mono (by decide)
  have r2 : Room 2 (A.deeper (envOfC "_law_unspoilt" (defScope sUnspoilt) s.heap.objs.size f cdv)) := hr.mono (by decide)
  have r3 : Room 3 (A.deeper (envOfC "_law_unspoilt" (defScope sUnspoilt) s.heap.objs.size f cdv)) := hr.mono (by decide)
  refine weak (pss_cons (ps_set (i := 4) scUn.nd rfl (Or.inl rfl) (pe_lst (pa_cons (pe_mz M.m.qs (pv 0) r1) (pa_cons (pe_mz M.m.qg (pv 0) r1) (pa_cons (pe_mz M.m.ts (pv 1) r1) (pa_cons (pe_fz M.pl r2 (by rfl) (pa_cons (pv 1) pa_nil)) (pa_cons (pe_fz M.cr r2 (by rfl) (pa_cons (pv 0) pa_nil)) pa_nil)))))))
    (pss_cons (ps_set (i := 4) scUn.nd rfl (Or.inl rfl) (pe_op op_cat (pv 4) (pe_lst (pa_cons (pe_fz M.ak r3 (by rfl) (pa_cons (pv 0) (pa_cons (pv 1) pa_nil))) (pa_cons
      (pe_lc (own := [("_law_street", 7)]) (g := gName 7) (tt := tYes) (te := tCall (spStreetOf CQ) [] E0 (tCons (tVar 0) (tCons (tOp (rIxT K) (tVar 7) (tC (.int ((0 : Nat) : Int)))) tNil))) rfl scUn.nd (pi_list (pe_ix ix_list (pv 2) pe_int (fun _ _ => rfl))) (blkOk_by (own := [("_law_street", 7)]) (N := NUn) (sc := defScope sUnspoilt) (by decide +kernel))
        (fun _ _ _ _ _ => pg_name (i := 7) scUn.nd rfl (Or.inl rfl)) (fun _ _ _ _ _ => pts_nil) (fun _ _ _ _ _ => pe_fz M.so r2 (by rfl) (pa_cons (pv 0) (pa_cons (pe_ix ix_tup (pv 7) pe_int (fun _ _ => rfl)) pa_nil)))) pa_nil))))) hu)) ?_
  rintro Z σ H ⟨q, t, W, ls, lg, T, ts, us, gs, rfl, h, z⟩
  have sl := sizeLine_eq
  have h0 := h
  obtain ⟨⟨⟨dx, l, g, tq, hs, hq, pt, as, pg, ag⟩, so, go⟩, ⟨⟨dx2, l2, tu, ht, pu, au⟩, so2⟩, hw⟩ := h
  have l1 := hw.l1
  have l2' := hw.l2
  have l3 := hw.l3
  have ltq : tq.length = ts.length := by
    have := pt.length_eq
    rwa [List.length_map, List.length_map] at this
  have ltu : tu.length = us.length := by
    have := pu.length_eq
    rwa [List.length_map, List.length_map] at this
  have lhs : hs.length = gs.length := pg.length_eq
  refine ⟨_, rfl, q, dx, _, rfl, hq.at_, rfl, q, dx, l, _, _, rfl, hq.at_, rfl, hq.s.1, fun D1 n1 => ?_⟩
  have s1 := same_upd (o := .lst (tq.map fun t => V.ref t.1)) n1
  have hD1 : Sts (upd H D1 (.lst (tq.map fun t => V.ref t.1))) D1 tq := ⟨upd_same, fun t ht => s1 _ _ (hq.s.2 t ht)⟩
  generalize upd H D1 (.lst (tq.map fun t => V.ref t.1)) = H1 at s1 hD1 ⊢
  have hq1 := hq.keep s1
  refine ⟨_, rfl, q, dx, _, rfl, hq1.at_, rfl, q, dx, g, _, _, rfl, hq1.at_, rfl, hq1.g, fun D2 n2 => ?_⟩
  have s2 := same_upd (o := .lst (hs.map V.str)) n2
  have hD2 : Ws (upd H1 D2 (.lst (hs.map V.str))) D2 hs := upd_same
  generalize upd H1 D2 (.lst (hs.map V.str)) = H2 at s2 hD2 ⊢
  have ht2 := ht.keep (same_trans s1 s2)
  refine ⟨_, rfl, t, dx2, _, rfl, ht2.at_, rfl, t, dx2, l2, _, _, rfl, ht2.at_, rfl, ht2.s.1, fun D3 n3 => ?_⟩
  have s3 := same_upd (o := .lst (tu.map fun t => V.ref t.1)) n3
  have hD3 : Sts (upd H2 D3 (.lst (tu.map fun t => V.ref t.1))) D3 tu := ⟨upd_same, fun t h => s3 _ _ (ht2.s.2 t h)⟩
  generalize upd H2 D3 (.lst (tu.map fun t => V.ref t.1)) = H3 at s3 hD3 ⊢
  have s03 := same_trans s1 (same_trans s2 s3)
  have ht3 := ht.keep s03
  refine ⟨_, rfl, t, dx2, l2, tu, rfl, ht3, by omega, fun D4 Pl H4 s4 n4 tP hD4 => ?_⟩
  have hq4 := hq.keep (same_trans s03 s4)
  refine ⟨_, rfl, q, dx, l, g, tq, hs, rfl, hq4, by omega, by omega, fun D5 C H5 s5 n5 tC hD5 => ?_⟩
  refine ⟨(by show 5 ≤ sizeLine; omega), fun L0 nL0 => ?_⟩
  have s6 := same_upd (o := .lst [V.ref D1, V.ref D2, V.ref D3, V.ref D4, V.ref D5]) nL0
  have hL0 : upd H5 L0 (.lst [V.ref D1, V.ref D2, V.ref D3, V.ref D4, V.ref D5]) L0 = some (.lst [V.ref D1, V.ref D2, V.ref D3, V.ref D4, V.ref D5]) := upd_same
  generalize upd H5 L0 (.lst [V.ref D1, V.ref D2, V.ref D3, V.ref D4, V.ref D5]) = H6 at s6 hL0 ⊢
  have s36 := same_trans s4 (same_trans s5 s6)
  have s06 := same_trans s03 s36
  have hq6 := hq.keep s06
  have ht6 := ht.keep s06
  refine ⟨_, rfl, _, rfl, _, rfl, q, dx, l, g, tq, hs, t, dx2, l2, tu, rfl, hq6, by omega, ht6, by omega, fun D6 Zs H7 s7 n6 tZ hD6 => ?_⟩
  have s07 := same_trans s06 s7
  have hw7 := hw.keep s07
  obtain ⟨rw0, hW7⟩ := hw7.w.at_
  refine ⟨_, rfl, W, _, ((0 : Nat) : Int), _, rfl, rfl, SqL.of hW7, atI_nat rfl, ls, rfl, ⟨_, SqL.of hw7.w.s.1⟩, fun D7 n7 => ?_⟩
  have hq7 := hq.keep s07
  have ndq : (tq.map fun t => t.2.nm).Nodup := by
    have := (so.perm pt).nd
    rwa [← nms_snds] at this
  refine _root_.H3.lc_gen (us := ts) (vf := fun t => V.ref t.1) (p := fun _ => true) (R := fun u y _ => ∃ v ∈ tq, y = .ref v.1 ∧ v.2 = u.2) n7 hw7.w.s.1 (by omega) (fun u y H H' h _ => h) (fun u hu H8 s8 hD7 N N0 m1 _ => ?_) (fun H8 zs s8 hD7 e hR => ?_)
  · have hu8 := s8 _ _ (hw7.w.s.2 u hu)
    have um : u.2 ∈ snds tq := pt.mem_iff.mpr (List.mem_map.mpr ⟨u, hu, rfl⟩)
    obtain ⟨v, hv, ev⟩ := List.mem_map.mp um
    refine ⟨rfl, _, rfl, _, rfl, u.1, _, ((0 : Nat) : Int), _, rfl, rfl, SqT.of hu8, atI_nat rfl, q, dx, l, g, tq, hs, v, by rw [ev]; rfl, hq7.keep s8, hv, ndq, fun H9 s9 => ?_⟩
    exact m1 rfl _ H9 s9 ⟨v, hv, rfl, ev⟩
  have e1 : (zs.map fun z => z.1) = ts := by rw [e, List.filter_eq_self.mpr (fun _ _ => rfl)]
  have s08 := same_trans s07 s8
  have hq8 := hq.keep s08
  have d7 : Dt H8 (.ref D7) (.list ((snds ts).map S5.data)) := by
    refine .lst hD7 ?_
    have e2 : (snds ts).map S5.data = zs.map fun z => z.1.2.data := by
      rw [← e1, snds, List.map_map, List.map_map]
      rfl
    rw [e2]
    clear hD7 e e1 e2
    induction zs with
    | nil => exact .nil
    | cons z zs ih =>
      obtain ⟨v, hv, e3, e4⟩ := hR z List.mem_cons_self
      rw [List.map_cons, List.map_cons, e3]
      refine .cons ?_ (ih fun z hz => hR z (List.mem_cons_of_mem _ hz))
      rw [← e4]
      exact .tup (hq8.s.2 v hv) (.cons (.str _) (.cons (.str _) (.cons (.str _) (.cons (.int _) (.cons (.int _) .nil)))))
  refine ⟨(by show 2 ≤ sizeLine; omega), fun L1 nL1 => ?_⟩
  have s9 := same_upd (o := .lst [V.ref D6, V.ref D7]) nL1
  have hL1 : upd H8 L1 (.lst [V.ref D6, V.ref D7]) L1 = some (.lst [V.ref D6, V.ref D7]) := upd_same
  generalize upd H8 L1 (.lst [V.ref D6, V.ref D7]) = H9 at s9 hL1 ⊢
  have s69 := same_trans s7 (same_trans s8 s9)
  refine ⟨L0, L1, _, _, rfl, rfl, s69 _ _ hL0, hL1, (by show 5 + 2 ≤ sizeLine; omega), fun L nL => ?_⟩
  have s10 := same_upd (o := .lst ([V.ref D1, V.ref D2, V.ref D3, V.ref D4, V.ref D5] ++ [V.ref D6, V.ref D7])) nL
  have s7_10 := same_trans s8 (same_trans s9 s10)
  have s6_10 := same_trans s7 s7_10
  have s5_10 := same_trans s6 s6_10
  have s4_10 := same_trans s5 s5_10
  have s3_10 := same_trans s4 s4_10
  have s2_10 := same_trans s3 s3_10
  refine z L (snds tq) (snds tu) hs Pl C Zs _ _ _ (same_trans s1 (same_trans s2 s2_10)) (.lst upd_same ?_) pt as pu au pg ag ⟨tP.asc, tP.nd, fun x => by rw [tP.mem, ends_perm pu]⟩ ⟨tC.asc, tC.nd, fun x => by rw [tC.mem, List.mem_append, List.mem_append, ends_perm pt, pg.mem_iff]⟩ ⟨tZ.asc, tZ.nd, fun x => by rw [tZ.mem, List.mem_append, List.mem_append, ends_perm pu, pg.mem_iff]⟩
  exact .cons (Dt.keep (same_trans s2 s2_10) _ _ hD1.dt) (.cons (Dt.keep s2_10 _ _ (dt_ws hD2)) (.cons (Dt.keep s3_10 _ _ hD3.dt) (.cons (Dt.keep s4_10 _ _ (dt_ws hD4)) (.cons (Dt.keep s5_10 _ _ (dt_ws hD5)) (.cons (Dt.keep s7_10 _ _ (dt_ws hD6)) (.cons (Dt.keep (same_trans s9 s10) _ _ d7) .nil))))))
/-- the law's own crossings -/
def tUn2 (u : TS) : TS := fun Z σ H => ∃ (q t W ls lg T L : Addr) (ts us : List (Addr × S5)) (gs : List Str) (o7 o8 : Option V), σ = [some (.ref q), some (.ref t), some (.ref W), some (.ref T), some (.ref L), none, none, o7, o8] ∧ Wt H W ls lg T ts us gs ∧
  ∀ (D : Addr) (C : List Str) H', Same H H' → Ws H' D C → Told C (ends (snds ts) ++ gs) → u Z [some (.ref q), some (.ref t), some (.ref W), some (.ref T), some (.ref L), some (.ref D), none, o7, o8] H'
theorem un2 (GE : Fz P w K mg base "_law_ends_of" 1 ["_law_streets"] spEndsL) (T : Tx K mg) (hr : Room 8 (A.deeper (envOfC "_law_unspoilt" (defScope sUnspoilt) s.heap.objs.size f cdv))) {rest : List Stmt} {u : TS} (hu : PSs (TUn P w K mg base f cdv A outer s Hl E) rest u) :
    PSs (TUn P w K mg base f cdv A outer s Hl E) (unB 2 :: unB 3 :: rest) (tUn2 u) := by
  have gSo := T.fr "sorted" (by decide +kernel)
  have r1 : Room 1 (A.deeper (envOfC "_law_unspoilt" (defScope sUnspoilt) s.heap.objs.size f cdv)) := hr.mono (by decide)
  refine weak (pss_cons (ps_set (i := 5) scUn.nd rfl (Or.inr rfl) (pe_fz GE r1 (by rfl) (pa_cons (pe_ix ix_list (pv 2) pe_int (fun _ _ => rfl)) pa_nil)))
    (pss_cons (ps_set (i := 5) scUn.nd rfl (Or.inr rfl) (pe_callB cr_sortedS (by rfl) gSo (by decide +kernel) (pa_cons (pe_op op_cat (pv 5)
      (pe_lc (own := [("_law_gate", 8)]) (g := gName 8) (tt := tTest (tOp (rIn K true) (tVar 8) (tVar 5))) rfl scUn.nd (pi_list (pe_ix ix_list (pv 2) pe_int (fun _ _ => rfl))) (blkOk_by (own := [("_law_gate", 8)]) (N := NUn) (sc := defScope sUnspoilt) (by decide +kernel))
        (fun _ _ _ _ _ => pg_name (i := 8) scUn.nd rfl (Or.inl rfl)) (fun _ _ _ _ _ => pts_one (pt_cmpR op_notIn_seq (pv 8) (pv 5) rfl)) (fun _ _ _ _ _ => pv 8))) pa_nil))) hu)) ?_
  rintro Z σ H ⟨q, t, W, ls, lg, Tw, L, ts, us, gs, o7, o8, rfl, hw, z⟩
  have sl := sizeLine_eq
  have l1 := hw.l1
  have l3 := hw.l3
  obtain ⟨r0, hW⟩ := hw.w.at_
  have ne : ∀ t ∈ ts, t.2.st ≠ t.2.en := fun t h => (hw.o1.ok t.2 (List.mem_map.mpr ⟨t, h, rfl⟩)).2.2.2.1
  refine ⟨_, rfl, W, _, ((0 : Nat) : Int), _, rfl, rfl, SqL.of hW, atI_nat rfl, ls, ts, rfl, hw.w.s, ne, by omega, fun F es H1 s1 nF nd me hF l63 => ?_⟩
  have hw1 := hw.keep s1
  refine ⟨_, rfl, _, rfl, W, _, ((1 : Nat) : Int), _, rfl, rfl, SqL.of (s1 _ _ hW), atI_nat rfl, lg, rfl, ⟨_, SqL.of hw1.w.g⟩, fun D nD => ?_⟩
  refine lc_notin (K := K) (i := 8) (f := 5) (F := F) (bs := es) (ws := gs) (walk_strs (K := K) (a := lg) (ws := gs)) nD (fun H' s => SqL.of (s _ _ hw1.w.g)) hF (by omega) (fun v => rfl) (fun v => rfl) (fun v => rfl) fun H2 s2 hD => ?_
  have nn : (es ++ gs.filter fun x => decide (x ∉ es)).Nodup := nodup_filter_app nd hw.g.nd
  have le : es.length ≤ 2 * ts.length := by
    have h := len_le_of_sub es (ends (snds ts)) nd fun x hx => (me x).mp hx
    have h2 := ends_len (snds ts)
    have h3 : (snds ts).length = ts.length := List.length_map _
    omega
  have lf := List.length_filter_le (fun x => decide (x ∉ es)) gs
  refine ⟨F, D, _, _, rfl, rfl, s2 _ _ hF, hD, by rw [List.length_map, List.length_map]; omega, fun M nM => ?_⟩
  rw [← List.map_append]
  have s3 := same_upd (o := .lst ((es ++ gs.filter fun x => decide (x ∉ es)).map V.str)) nM
  refine ⟨M, _, rfl, SqL.of upd_same, by rw [List.length_append]; omega, fun ys p pm sy np => ?_⟩
  have s4 := same_upd (o := .lst (ys.map V.str)) np
  refine z p ys _ (same_trans s1 (same_trans s2 (same_trans s3 s4))) upd_same (told_sorted pm sy nn fun x => ?_)
  rw [List.mem_append, List.mem_append, List.mem_filter, ← me]
  by_cases hx : x ∈ es
  · simp [hx]
  · simp [hx]
/-- due, and what is asked of the same -/
def tUn4 (CQ CT : Addr) : TS := fun Z σ H => ∃ (q t W ls lg T L D : Addr) (ts us : List (Addr × S5)) (gs : List Str) (sq su : List S5) (hs Pl C Zs C' : List Str) (o7 o8 : Option V), σ = [some (.ref q), some (.ref t), some (.ref W), some (.ref T), some (.ref L), some (.ref D), none, o7, o8] ∧ UnT H CQ CT q t W ls lg T ts us gs ∧
  Dt H (.ref L) (unD sq su (snds ts) hs Pl C Zs) ∧ sq.Perm (snds ts) ∧ Asc5 sq ∧ su.Perm (snds us) ∧ Asc5 su ∧ hs.Perm gs ∧ Asc hs ∧ Told Pl (ends (snds us)) ∧ Told C (ends (snds ts) ++ gs) ∧ Told Zs (gs ++ ends (snds us)) ∧ Ws H D C' ∧ Told C' (ends (snds ts) ++ gs) ∧ ∀ H', Same H H' → Z.rt (.bl true) H'
theorem un4 (GE : Fz P w K mg base "_law_ends_of" 1 ["_law_streets"] spEndsL) (GA : Fz P w K mg base "_law_asked" 4 ["_law_world_here", "_law_town_here"] spLAsk) (EX : Fz P w K mg base "_law_exact" 7 ["_law_one", "_law_other"] (spExact 6))
    (LQ : Fz P w K mg base "_law_quarter" 8 ["_law_world_here"] (spLQuarter CQ)) (LT : Fz P w K mg base "_law_town" 8 ["_law_town_here"] (spLTown CT)) (EZ : EqZ P w K mg base CQ CT) (T : Tx K mg) (hr : Room 8 (A.deeper (envOfC "_law_unspoilt" (defScope sUnspoilt) s.heap.objs.size f cdv))) :
    PSs (TUn P w K mg base f cdv A outer s Hl E) [unB 4, unB 5] (tUn4 CQ CT) := by
  have gSo := T.fr "sorted" (by decide +kernel)
  have r1 : Room 1 (A.deeper (envOfC "_law_unspoilt" (defScope sUnspoilt) s.heap.objs.size f cdv)) := hr.mono (by decide)
  have r4 : Room 4 (A.deeper (envOfC "_law_unspoilt" (defScope sUnspoilt) s.heap.objs.size f cdv)) := hr.mono (by decide)
  have r7 : Room 7 (A.deeper (envOfC "_law_unspoilt" (defScope sUnspoilt) s.heap.objs.size f cdv)) := hr.mono (by decide)
  refine weak (pss_cons (ps_set (i := 6) scUn.nd rfl (Or.inl rfl) (pe_lst (pa_cons (pe_callB cr_sortedTx (by rfl) gSo (by decide +kernel) (pa_cons (pe_ix ix_list (pv 2) pe_int (fun _ _ => rfl)) pa_nil)) (pa_cons (pe_callB cr_sortedS (by rfl) gSo (by decide +kernel) (pa_cons (pe_ix ix_list (pv 2) pe_int (fun _ _ => rfl)) pa_nil)) (pa_cons (pe_callB cr_sortedTx (by rfl) gSo (by decide +kernel) (pa_cons (pv 3) pa_nil))
      (pa_cons (pe_callB cr_sortedS (by rfl) gSo (by decide +kernel) (pa_cons (pe_fz GE r1 (by rfl) (pa_cons (pv 3) pa_nil)) pa_nil)) (pa_cons (pv 5) (pa_cons (pe_fz GA r4 (by rfl) (pa_cons (pv 2) (pa_cons (pv 3) pa_nil))) (pa_cons (pe_ix ix_list (pv 2) pe_int (fun _ _ => rfl)) pa_nil)))))))))
    (pss_one (ps_ret (pe_and (pe_fz EX r7 (by rfl) (pa_cons (pv 4) (pa_cons (pv 6) pa_nil))) (pe_and (pe_cmpR (op_obEq EZ r1) (pv 0) (pe_fz LQ hr (by rfl) (pa_cons (pv 2) pa_nil)) (nomark _)) (pe_one (pe_cmpR (op_obEq EZ r1) (pv 1) (pe_fz LT hr (by rfl) (pa_cons (pv 3) pa_nil)) (nomark _)))))))) ?_
  rintro Z σ H ⟨q, t, W, ls, lg, Tw, L, D, ts, us, gs, sq, su, hs, Pl, C, Zs, C', o7, o8, rfl, h, dL, psq, asq, psu, asu, phs, ahs, tP, tC, tZ, hD, tC', z⟩
  have sl := sizeLine_eq
  have l1 := h.w.l1
  have l2 := h.w.l2
  have l3 := h.w.l3
  have eC : C' = C := tC'.uniq tC fun x => Iff.rfl
  obtain ⟨r0, hW⟩ := h.w.w.at_
  have hts := h.w.w.s
  refine ⟨_, rfl, W, _, ((0 : Nat) : Int), _, rfl, rfl, SqL.of hW, atI_nat rfl, ls, _, nameAt H, rfl, SqL.of hts.1, sort_a hts, sort_b hts h.w.o1.nd, fun ys D1 pm pw n1 => ?_⟩
  obtain ⟨t1, pt1, as1, rfl⟩ := sort_c hts pm pw
  have s1 := same_upd (o := .lst (t1.map fun t => V.ref t.1)) n1
  have hD1 : Sts (upd H D1 (.lst (t1.map fun t => V.ref t.1))) D1 t1 := ⟨upd_same, fun t ht => s1 _ _ (hts.2 t (pt1.mem_iff.mp ht))⟩
  generalize upd H D1 (.lst (t1.map fun t => V.ref t.1)) = H1 at s1 hD1 ⊢
  have h1 := h.keep s1
  refine ⟨_, rfl, W, _, ((1 : Nat) : Int), _, rfl, rfl, SqL.of (s1 _ _ hW), atI_nat rfl, lg, gs, rfl, SqL.of h1.w.w.g, by omega, fun hs' D2 pm2 sy2 n2 => ?_⟩
  have s2 := same_upd (o := .lst (hs'.map V.str)) n2
  have hD2 : Ws (upd H1 D2 (.lst (hs'.map V.str))) D2 hs' := upd_same
  generalize upd H1 D2 (.lst (hs'.map V.str)) = H2 at s2 hD2 ⊢
  have h2 := h1.keep s2
  have hus := h2.w.t
  refine ⟨_, rfl, Tw, _, nameAt H2, rfl, SqL.of hus.1, sort_a hus, sort_b hus h.w.o2.nd, fun ys D3 pm3 pw3 n3 => ?_⟩
  obtain ⟨t3, pt3, as3, rfl⟩ := sort_c hus pm3 pw3
  have s3 := same_upd (o := .lst (t3.map fun t => V.ref t.1)) n3
  have hD3 : Sts (upd H2 D3 (.lst (t3.map fun t => V.ref t.1))) D3 t3 := ⟨upd_same, fun t ht => s3 _ _ (hus.2 t (pt3.mem_iff.mp ht))⟩
  generalize upd H2 D3 (.lst (t3.map fun t => V.ref t.1)) = H3 at s3 hD3 ⊢
  have h3 := h2.keep s3
  have ne : ∀ t ∈ us, t.2.st ≠ t.2.en := fun t hh => (h.w.o2.ok t.2 (List.mem_map.mpr ⟨t, hh, rfl⟩)).2.2.2.1
  refine ⟨_, rfl, Tw, us, rfl, h3.w.t, ne, by omega, fun F es H4 s4 nF nd me hF l63 => ?_⟩
  have le : es.length ≤ 2 * us.length := by
    have hh := len_le_of_sub es (ends (snds us)) nd fun x hx => (me x).mp hx
    have hh2 := ends_len (snds us)
    have hh3 : (snds us).length = us.length := List.length_map _
    omega
  refine ⟨F, es, rfl, SqL.of hF, by omega, fun Pl' D4 pm4 sy4 n4 => ?_⟩
  have tP' : Told Pl' (ends (snds us)) := told_sorted pm4 sy4 nd me
  have eP : Pl' = Pl := tP'.uniq tP fun x => Iff.rfl
  have s5 := same_upd (o := .lst (Pl'.map V.str)) n4
  have hD4 : Ws (upd H4 D4 (.lst (Pl'.map V.str))) D4 Pl' := upd_same
  generalize upd H4 D4 (.lst (Pl'.map V.str)) = H5 at s5 hD4 ⊢
  have s35 := same_trans s4 s5
  have h5 := h3.keep s35
  refine ⟨_, rfl, _, rfl, _, rfl, W, ls, lg, Tw, ts, us, gs, rfl, h5.w, fun D6 Zs' H6 s6 n6 tZ' hD6 l60 => ?_⟩
  have eZ : Zs' = Zs := tZ'.uniq tZ fun x => Iff.rfl
  have s16 := same_trans s2 (same_trans s3 (same_trans s35 s6))
  have h6 := h1.keep s16
  obtain ⟨r6, hW6⟩ := h6.w.w.at_
  refine ⟨_, rfl, W, _, ((0 : Nat) : Int), _, rfl, rfl, SqL.of hW6, atI_nat rfl, (by show 7 ≤ sizeLine; omega), fun M nM => ?_⟩
  have s7 := same_upd (o := .lst [V.ref D1, V.ref D2, V.ref D3, V.ref D4, V.ref D, V.ref D6, V.ref ls]) nM
  have hM : upd H6 M (.lst [V.ref D1, V.ref D2, V.ref D3, V.ref D4, V.ref D, V.ref D6, V.ref ls]) M = some (.lst [V.ref D1, V.ref D2, V.ref D3, V.ref D4, V.ref D, V.ref D6, V.ref ls]) := upd_same
  generalize upd H6 M (.lst [V.ref D1, V.ref D2, V.ref D3, V.ref D4, V.ref D, V.ref D6, V.ref ls]) = H7 at s7 hM ⊢
  have s17 := same_trans s16 s7
  have s07 := same_trans s1 s17
  have q1 : (snds t1).Perm (snds ts) := pt1.map fun t => t.2
  have q3 : (snds t3).Perm (snds us) := pt3.map fun t => t.2
  have e1 : snds t1 = sq := (asc5_eq h.w.o1 h.w.o1 q1 psq as1 asq).mpr (List.Perm.refl _)
  have e3 : snds t3 = su := (asc5_eq h.w.o2 h.w.o2 q3 psu as3 asu).mpr (List.Perm.refl _)
  have e2 : hs' = hs := asc_uniq (pm2.trans phs.symm) (asc_of_sortedS sy2) ahs
  have dM : Dt H7 (.ref M) (unD sq su (snds ts) hs Pl C Zs) := by
    refine .lst hM (.cons ?_ (.cons ?_ (.cons ?_ (.cons ?_ (.cons ?_ (.cons ?_ (.cons ?_ .nil)))))))
    · rw [← e1]
      exact Dt.keep s17 _ _ hD1.dt
    · rw [← e2]
      exact Dt.keep (same_trans s3 (same_trans s35 (same_trans s6 s7))) _ _ (dt_ws hD2)
    · rw [← e3]
      exact Dt.keep (same_trans s35 (same_trans s6 s7)) _ _ hD3.dt
    · rw [← eP]
      exact Dt.keep (same_trans s6 s7) _ _ (dt_ws hD4)
    · rw [← eC]
      exact Dt.keep s07 _ _ (dt_ws hD)
    · rw [← eZ]
      exact Dt.keep s7 _ _ (dt_ws hD6)
    · exact Dt.keep s07 _ _ hts.dt
  have lsq : sq.length ≤ 1000 := by
    have := psq.length_eq
    have hh3 : (snds ts).length = ts.length := List.length_map _
    omega
  have lsu : su.length ≤ 1000 := by
    have := psu.length_eq
    have hh3 : (snds us).length = us.length := List.length_map _
    omega
  have lC : C.length ≤ 1000 := by
    have hh := len_le_of_sub C (ends (snds ts) ++ gs) tC.nd fun x hx => (tC.mem x).mp hx
    have hh2 := ends_len (snds ts)
    have hh3 : (snds ts).length = ts.length := List.length_map _
    rw [List.length_append] at hh
    omega
  have lP : Pl.length ≤ 1000 := by rw [← eP, pm4.length_eq]; omega
  have lZ : Zs.length ≤ 1000 := by rw [← eZ]; omega
  have lh : hs.length ≤ 1000 := by rw [phs.length_eq]; omega
  have lts : (snds ts).length ≤ 1000 := by
    have hh3 : (snds ts).length = ts.length := List.length_map _
    omega
  have dep : PyData.depth (unD sq su (snds ts) hs Pl C Zs) ≤ 6 := by
    have d1 := dep_sts sq
    have d2 := dep_strs hs
    have d3 := dep_sts su
    have d4 := dep_strs Pl
    have d5 := dep_strs C
    have d6 := dep_strs Zs
    have d7 := dep_sts (snds ts)
    unfold unD
    rw [PyData.depth]
    simp only [PyData.depthAll]
    omega
  have wd : wid (unD sq su (snds ts) hs Pl C Zs) ≤ 1000 := by
    have w1 := wid_sts lsq
    have w2 := wid_strs lh
    have w3 := wid_sts lsu
    have w4 := wid_strs lP
    have w5 := wid_strs lC
    have w6 := wid_strs lZ
    have w7 := wid_sts lts
    unfold unD
    rw [wid]
    simp only [widAll, List.length_cons, List.length_nil]
    omega
  refine ⟨_, rfl, _, rfl, .ref L, .ref M, _, rfl, Dt.keep s07 _ _ dL, dM, dep, wd, fun H8 s8 => ⟨_, rfl, ifT rfl ?_⟩⟩
  have s08 := same_trans s07 s8
  have h8 := h.keep s08
  have wq8 : Wq H8 W ls lg ts gs := by
    obtain ⟨r8, hW8⟩ := h8.w.w.at_
    exact ⟨⟨_, hW8⟩, h8.w.w.s, h8.w.w.g, h.w.o1, h.w.g⟩
  refine ⟨_, rfl, _, rfl, W, ls, lg, ts, gs, rfl, wq8, fun q2 H9 s9 nq2 hq2 => ?_⟩
  refine ⟨_, _, .q (h8.q.keep s9), .q hq2, Or.inl (by simp), fun k hk => ?_⟩
  rw [hk.mpr ⟨.refl _, .refl _⟩]
  refine ⟨_, rfl, ifT rfl ?_⟩
  have h9 := h8.keep s9
  refine ⟨_, rfl, _, rfl, Tw, us, rfl, h9.w.t, h.w.o2, fun q3' H10 s10 nq3 hq3 => ?_⟩
  refine ⟨_, _, .t (h9.t.keep s10), .t hq3, Or.inl (by simp), fun k hk => ?_⟩
  rw [hk.mpr (List.Perm.refl _)]
  exact z _ (same_trans s08 (same_trans s9 s10))
end
def spUnsp (CQ CT : Addr) : Sp := fun vs H Q _ => ∃ (q t W ls lg T : Addr) (ts us : List (Addr × S5)) (gs : List Str), vs = [.ref q, .ref t, .ref W, .ref T] ∧ UnT H CQ CT q t W ls lg T ts us gs ∧ ∀ H', Same H H' → Q (.bl true) H'
theorem ok_unspoilt {CQ CT : Addr} {f : Addr} {fd : FuncData} (F : FnP K "_law_unspoilt" sUnspoilt f fd) (M : AkZ P w K mg base CQ CT) (GE : Fz P w K mg base "_law_ends_of" 1 ["_law_streets"] spEndsL) (GA : Fz P w K mg base "_law_asked" 4 ["_law_world_here", "_law_town_here"] spLAsk) (EX : Fz P w K mg base "_law_exact" 7 ["_law_one", "_law_other"] (spExact 6))
    (LQ : Fz P w K mg base "_law_quarter" 8 ["_law_world_here"] (spLQuarter CQ)) (LT : Fz P w K mg base "_law_town" 8 ["_law_town_here"] (spLTown CT)) (EZ : EqZ P w K mg base CQ CT) : FnOk P w K mg base CX0 9 f fd ["_law_quarter_here", "_law_town_of", "_law_world_here", "_law_town_here"] (spUnsp CQ CT) := by
  refine F.ok scUn (fun vs H Q E h => ?_) (fun cdv A outer s H vs Q E hr h => ?_)
  · obtain ⟨_, _, _, _, _, _, _, _, _, rfl, _⟩ := h
    rfl
  · obtain ⟨q, t, W, ls, lg, Tw, ts, us, gs, rfl, h, z⟩ := h
    refine ⟨_, PSs.nox (un0 M hr (un2 GE M.T hr (un4 GE GA EX LQ LT EZ M.T hr))), ?_⟩
    refine ⟨q, t, W, ls, lg, Tw, ts, us, gs, rfl, h, fun L sq su hs Pl C Zs o7 o8 H1 s1 dL p1 a1 p2 a2 p3 a3 t1 t2 t3 => ?_⟩
    have h1 := h.keep s1
    refine ⟨q, t, W, ls, lg, Tw, L, ts, us, gs, o7, o8, rfl, h1.w, fun D C' H2 s2 hD tC' => ?_⟩
    exact ⟨q, t, W, ls, lg, Tw, L, D, ts, us, gs, sq, su, hs, Pl, C, Zs, C', o7, o8, rfl, h1.keep s2, Dt.keep s2 _ _ dL, p1, a1, p2, a2, p3, a3, t1, t2, t3, hD, tC', fun H3 s3 => z H3 (same_trans s1 (same_trans s2 s3))⟩
end
end K13
end
section
set_option Elab.async false
set_option linter.all false
set_option maxRecDepth 100000
set_option maxHeartbeats 4000000
namespace K13
open PySem PySem.Spec PyProof.Rows L2
theorem netRow_shut {side : Str} {gs : List Str} {k : P2} (s : S5) : netRow side gs (sideS side k s) = shutK k (netRow side gs s) := by
  unfold sideS shutK
  by_cases h1 : k.1 = side
  · rw [if_pos h1]
    unfold shutS
    by_cases h2 : s.nm = k.2
    · rw [if_pos h2, if_pos (show (netRow side gs s).key = k from Prod.ext h1.symm h2)]
      rfl
    · rw [if_neg h2, if_neg fun e => h2 (congrArg Prod.snd e)]
  · rw [if_neg h1, if_neg fun e => h1 (congrArg Prod.fst e).symm]
theorem netOf_shut {gs : List Str} {k : P2} (ss us : List S5) : netOf gs (ss.map (sideS "quarter" k)) (us.map (sideS "town" k)) = (netOf gs ss us).map (shutK k) := by
  unfold netOf
  rw [List.map_append, List.map_map, List.map_map, List.map_map, List.map_map]
  congr 1
  · exact List.map_congr_left fun s _ => netRow_shut s
  · exact List.map_congr_left fun s _ => netRow_shut s
theorem netOf_nok {gs : List Str} {ss us : List S5} (h1 : SOk ss) (h2 : SOk us) : NOk (netOf gs ss us) := by
  have k : ∀ r ∈ netOf gs ss us, 0 ≤ r.ln ∧ 0 ≤ r.wd := fun r hr => by
    rcases List.mem_append.mp hr with h | h
    · obtain ⟨s, hs, rfl⟩ := List.mem_map.mp h
      have := h1.ok s hs
      exact ⟨this.2.2.2.2.2.2.1, this.2.2.2.2.1⟩
    · obtain ⟨s, hs, rfl⟩ := List.mem_map.mp h
      have := h2.ok s hs
      exact ⟨this.2.2.2.2.2.2.1, this.2.2.2.2.1⟩
  exact ⟨fun e he => (k e he).1, fun e he => (k e he).2, netOf_wd h1 h2⟩
theorem NOk.perm {N N' : List NR} (h : NOk N) (p : N'.Perm N) : NOk N' := ⟨fun e he => h.ln e (p.mem_iff.mp he), fun e he => h.wd e (p.mem_iff.mp he), fun e he => h.w e (p.mem_iff.mp he)⟩
theorem dist_perm {N N' : List NR} {s : P2} (pos : ∀ e ∈ N, 0 ≤ e.ln) (p : N.Perm N') : dist N s = dist N' s := (IsD.mem (isD_dist pos) fun e => p.mem_iff).eq fun e he => pos e (p.mem_iff.mpr he)
/-- what a quarter and a town that are told stand for -/
theorem netA_of {H : Hp} {CQ CT q t : Addr} {ss us : List S5} {gs : List Str} {x y : Str} (hq : IsQ H CQ q ss gs) (ht : IsT H CT t us) (l1 : ss.length ≤ 20) (l2 : us.length ≤ 20) (l3 : gs.length ≤ 20) (hx : x ∈ gs ++ ends us) (hy : y ∈ gs ++ ends us) (ne : x ≠ y) :
    ∃ N hs, NetA H CQ CT q t N hs x y ∧ N.Perm (netOf gs ss us) ∧ AscN N ∧ ∀ z, place "town" hs z = place "town" gs z := by
  obtain ⟨⟨dx, l, g, tq, hs, hQ, pt, as, pg, ag⟩, so, go⟩ := hq
  obtain ⟨⟨dx2, l2', tu, hT, pu, au⟩, so2⟩ := ht
  have mg : ∀ z, z ∈ hs ↔ z ∈ gs := fun z => pg.mem_iff
  have me : ∀ z, z ∈ gs ++ ends us → z ∈ hs ++ ends (snds tu) := fun z hz => by
    rcases List.mem_append.mp hz with h | h
    · exact List.mem_append_left _ ((mg z).mpr h)
    · exact List.mem_append_right _ ((ends_perm pu z).mpr h)
  have pm : (netOf hs (snds tq) (snds tu)).Perm (netOf gs ss us) := by
    rw [netOf_gs mg]
    exact netOf_perm pt pu
  have lt : tq.length = ss.length := by
    have := pt.length_eq
    rwa [List.length_map] at this
  have lu : tu.length = us.length := by
    have := pu.length_eq
    rwa [List.length_map] at this
  have lh := pg.length_eq
  exact ⟨_, hs, ⟨⟨dx, l, g, dx2, l2', tq, tu, hQ, by omega, by omega, hT, by omega, me x hx, me y hy, ne, rfl⟩, (netOf_nok so so2).perm pm⟩, pm, netOf_asc as au, fun z => place_mem mg "town" z⟩
/-- all that is told of a pair that is asked -/
structure PrI (H : Hp) (CQ CT W T n q t pr e a b : Addr) (ls lg : Addr) (ts us : List (Addr × S5)) (gs : List Str) (rs : List (Addr × NR)) (x y : Str) : Prop where
  w : Ws4 H W ls lg ts gs
  tw : Sts H T us
  so : SOk (snds us)
  l1 : ts.length ≤ 20
  l2 : us.length ≤ 20
  l3 : gs.length ≤ 20
  n : NL H n rs
  pm : (nrs rs).Perm (netOf gs (snds ts) (snds us))
  as : AscN (nrs rs)
  q : IsQ H CQ q (snds ts) gs
  tt : IsT H CT t (snds us)
  pr : PaAt H pr (x, y)
  e : H e = some (.lst [.ref a, .ref b])
  pa : PaAt H a (place "town" gs x)
  pb : PaAt H b (place "town" gs y)
  hx : x ∈ gs ++ ends (snds us)
  hy : y ∈ gs ++ ends (snds us)
  ne : x ≠ y
section
variable {H H' : Hp} {CQ CT W T n q t pr e a b ls lg : Addr} {ts us : List (Addr × S5)} {gs : List Str} {rs : List (Addr × NR)} {x y : Str}
theorem PrI.keep (h : PrI H CQ CT W T n q t pr e a b ls lg ts us gs rs x y) (s : Same H H') : PrI H' CQ CT W T n q t pr e a b ls lg ts us gs rs x y :=
  ⟨h.w.keep s, h.tw.keep s, h.so, h.l1, h.l2, h.l3, h.n.keep s, h.pm, h.as, h.q.keep s, h.tt.keep s, s _ _ h.pr, s _ _ h.e, s _ _ h.pa, s _ _ h.pb, h.hx, h.hy, h.ne⟩
theorem PrI.ok (h : PrI H CQ CT W T n q t pr e a b ls lg ts us gs rs x y) : NOk (nrs rs) := (netOf_nok h.w.so h.so).perm h.pm
theorem PrI.len (h : PrI H CQ CT W T n q t pr e a b ls lg ts us gs rs x y) : rs.length ≤ 40 := by
  have := h.pm.length_eq
  unfold netOf at this
  rw [nrs, List.length_map, List.length_append, List.length_map, List.length_map, List.length_map, List.length_map] at this
  have := h.l1
  have := h.l2
  omega
theorem PrI.nd (h : PrI H CQ CT W T n q t pr e a b ls lg ts us gs rs x y) : ((nrs rs).map NR.key).Nodup := (h.pm.map NR.key).nodup_iff.mpr (net_key h.w.so.nd h.so.nd)
/-- the program's own net is the law's -/
theorem PrI.net (h : PrI H CQ CT W T n q t pr e a b ls lg ts us gs rs x y) : ∃ hs, NetA H CQ CT q t (nrs rs) hs x y ∧ ∀ z, place "town" hs z = place "town" gs z := by
  obtain ⟨N, hs, hN, pm, as, pl⟩ := netA_of h.q h.tt (by rw [List.length_map]; exact h.l1) (by rw [List.length_map]; exact h.l2) h.l3 h.hx h.hy h.ne
  have : nrs rs = N := ascN_uniq h.nd (h.pm.trans pm.symm) h.as as
  subst this
  exact ⟨hs, hN, pl⟩
theorem PrI.wda (h : PrI H CQ CT W T n q t pr e a b ls lg ts us gs rs x y) : WdP (place "town" gs x) ∧ WdP (place "town" gs y) := by
  have k : ∀ z, z ∈ gs ++ ends (snds us) → WdP (place "town" gs z) := fun z hz => by
    refine place_wd wd_town ?_
    rcases List.mem_append.mp hz with g | g
    · exact h.w.go.wd z g
    · unfold ends at g
      rcases List.mem_append.mp g with g | g
      · obtain ⟨s, hs, rfl⟩ := List.mem_map.mp g
        exact (h.so.ok s hs).2.1
      · obtain ⟨s, hs, rfl⟩ := List.mem_map.mp g
        exact (h.so.ok s hs).2.2.1
  exact ⟨k x h.hx, k y h.hy⟩
end
theorem ends_side {us : List S5} {k : P2} : ends (us.map (sideS "town" k)) = ends us := by
  unfold ends
  rw [List.map_map, List.map_map]
  congr 1
  · exact List.map_congr_left fun s _ => by
      show (sideS "town" k s).st = s.st
      unfold sideS
      split
      · exact shutS_st _ _
      · rfl
  · exact List.map_congr_left fun s _ => by
      show (sideS "town" k s).en = s.en
      unfold sideS
      split
      · exact shutS_en _ _
      · rfl
theorem dt_pr {H : Hp} {a : Addr} {x : P2} (h : PaAt H a x) : Dt H (.ref a) (prD x) := .tup h (.cons (.str _) (.cons (.str _) .nil))
theorem dt_prs {H : Hp} : ∀ {ps : List (Addr × P2)}, (∀ t ∈ ps, PaAt H t.1 t.2) → DtAll H (ps.map fun t => V.ref t.1) ((prs ps).map prD)
  | [], _ => .nil
  | t :: ps, h => .cons (dt_pr (h t List.mem_cons_self)) (dt_prs fun u hu => h u (List.mem_cons_of_mem _ hu))
theorem PL.dt {H : Hp} {l : Addr} {ps : List (Addr × P2)} (h : PL H l ps) : Dt H (.ref l) (.list ((prs ps).map prD)) := .lst h.at_ (dt_prs h.each)
theorem wid_prs : ∀ {xs : List P2}, widAll (xs.map prD) ≤ 2
  | [] => Nat.zero_le _
  | x :: xs => by
    have ih := wid_prs (xs := xs)
    show max (wid (prD x)) (widAll (xs.map prD)) ≤ 2
    refine Nat.max_le.mpr ⟨?_, ih⟩
    simp [prD, wid, widAll]
theorem keys_wd {N : List NR} (h : NOk N) {ks : List P2} (k : ∀ x ∈ ks, ∃ e ∈ N, e.key = x) : ∀ x ∈ ks, WdP x := fun x hx => by
  obtain ⟨e, he, rfl⟩ := k x hx
  exact (h.w e he).2.2
theorem needL_key {N : List NR} {s t : P2} : ∀ k ∈ needL N s t, ∃ e ∈ N, e.key = k := fun k hk => usedL_key k (List.mem_filter.mp hk).1
theorem needL_len (N : List NR) (s t : P2) : (needL N s t).length ≤ N.length := Nat.le_trans (List.length_filter_le _ _) (usedL_len N s t)
end K13
end
section
set_option Elab.async false
set_option linter.all false
set_option maxRecDepth 100000
set_option maxHeartbeats 8000000
namespace K13
open PySem PySem.Spec PyProof.Rows L2
theorem oV_get (o : Option Int) : (o.map V.int).getD .non = oV o := by cases o <;> rfl
section
variable {P : Program} {w : World} {K : PySem.W.Frag} {mg : Str → Option Value} {base : Heap}
/-! ### _law_pair_right -/
abbrev NPr : List Str := ["_law_purse_here", "_law_world_here", "_law_town_here", "_law_net_here", "_law_quarter_here", "_law_town_of", "_law_pair_here", "_law_ends", "_law_least", "_law_used_here", "_law_needed", "_law_key", "_law_row", "_law_rest", "_law_turn", "_law_told", "_law_way", "_law_less", "_law_other", "_law_without"]
theorem scPr : FnScope NPr ["_law_purse_here", "_law_world_here", "_law_town_here", "_law_net_here", "_law_quarter_here", "_law_town_of", "_law_pair_here", "_law_ends"] (defScope sPairR) := ⟨rfl, rfl, rfl, by decide +kernel, rfl, by decide +kernel, by decide +kernel⟩
/-- all that _law_pair_right asks -/
structure PrZ (P : Program) (w : World) (K : PySem.W.Frag) (mg : Str → Option Value) (base : Heap) (CQ CT : Addr) : Prop where
  fa : FarZ P w K mg base
  us : Fz P w K mg base "_law_used" 2 ["_law_net_here", "_law_ends"] spLUsed
  pu : Fz P w K mg base "used_streets" 5 ["quarter", "town", "start", "goal"] (spUse CQ CT)
  pn : Fz P w K mg base "needed_streets" 6 ["quarter", "town", "start", "goal"] (spNeed CQ CT)
  ex : Fz P w K mg base "_law_exact" 7 ["_law_one", "_law_other"] (spExact 6)
  wy : Fz P w K mg base "_law_ways" 1 ["_law_net_here", "_law_start", "_law_goal", "_law_top"] spWays
  wl : Fz P w K mg base "_law_way_length" 4 ["_law_net_here", "_law_way"] spWlL
  sh : Fz P w K mg base "_law_shuffled" 3 ["_law_purse_here", "_law_some"] spShuffled
  s1 : Fz P w K mg base "_law_shut_one" 2 ["_law_world_here", "_law_town_here", "_law_key"] spShut1
  wa : Fz P w K mg base "way_length" 5 ["quarter", "town", "start", "goal"] (spWay CQ CT)
  lq : Fz P w K mg base "_law_quarter" 8 ["_law_world_here"] (spLQuarter CQ)
  lt : Fz P w K mg base "_law_town" 8 ["_law_town_here"] (spLTown CT)
  T : Tx K mg
section
variable {f : Addr} {cdv : Value} {A : Around} {outer : List Env} {s : Shared} {Hl : Hp} {E : XK} {CQ CT : Addr}
abbrev TPr (P : Program) (w : World) (K : PySem.W.Frag) (mg : Str → Option Value) (base : Heap) (f : Addr) (cdv : Value) (A : Around) (outer : List Env) (s : Shared) (Hl : Hp) (E : XK) : Cx := (cxOf CX0 P w K mg base NPr "_law_pair_right" (defScope sPairR) f cdv A outer s Hl E).nox
abbrev RPr (f : Addr) (cdv : Value) (A : Around) (s : Shared) : Around := A.deeper (envOfC "_law_pair_right" (defScope sPairR) s.heap.objs.size f cdv)
def prB (j : Nat) : Stmt := (defBody sPairR).getD j (.Pass ⟨0, 0, 0, 0⟩)
/-- the eight that are given, then the rest -/
abbrev σPr (p W T n q t pr e : Addr) (o : List (Option V)) : L2.St := [some (.ref p), some (.ref W), some (.ref T), some (.ref n), some (.ref q), some (.ref t), some (.ref pr), some (.ref e)] ++ o
def tPr0 (CQ CT : Addr) (u : TS) : TS := fun Z σ H => ∃ (p W T n q t pr e a b ls lg : Addr) (ts us : List (Addr × S5)) (gs : List Str) (rs : List (Addr × NR)) (x y : Str) (xs : List V), σ = L2.start NPr [.ref p, .ref W, .ref T, .ref n, .ref q, .ref t, .ref pr, .ref e] ∧ H p = some (.lst xs) ∧ PrI (del H p) CQ CT W T n q t pr e a b ls lg ts us gs rs x y ∧
  ∀ (U D : Addr) (ks ds : List (Addr × P2)) (o11 o12 o13 : Option V) H', Same H H' → U ≠ p → D ≠ p → PL H' U ks → prs ks = usedL (nrs rs) (place "town" gs x) (place "town" gs y) → PL H' D ds → prs ds = needL (nrs rs) (place "town" gs x) (place "town" gs y) →
    u Z (σPr p W T n q t pr e [some (oV (dist (nrs rs) (place "town" gs x) (place "town" gs y))), some (.ref U), some (.ref D), o11, o12, o13, none, none, none, none, none, none]) H'
theorem pr0 (C : PrZ P w K mg base CQ CT) (hr : Room 8 (RPr f cdv A s)) {rest : List Stmt} {u : TS} (hu : PSs (TPr P w K mg base f cdv A outer s Hl E) rest u) :
    PSs (TPr P w K mg base f cdv A outer s Hl E) (prB 0 :: prB 1 :: prB 2 :: rest) (tPr0 CQ CT u) := by
  have r2 : Room 2 (RPr f cdv A s) := hr.mono (by decide)
  have r1 : Room 1 (RPr f cdv A s) := hr.mono (by decide)
  have hu64 : (RPr f cdv A s).units + 64 < cLine := hr.units
  have u1 : (RPr f cdv A s).units + 1 < cLine := by omega
  have gI := C.T.fr "int" (by decide +kernel)
  refine weak (pss_cons (ps_set (i := 8) scPr.nd rfl (Or.inl rfl) (pe_dget2 u1 (pe_fz C.fa r1 (by rfl) (pa_cons (pv 3) (pa_cons (pe_ix ix_list (pv 7) pe_int (fun _ _ => rfl)) pa_nil))) (pe_ix ix_list (pv 7) pe_int (fun _ _ => rfl)) pe_non ⟨rfl, rfl, rfl, rfl⟩))
    (pss_cons (ps_asg (pe_tup (pa_cons (pe_fz C.us r2 (by rfl) (pa_cons (pv 3) (pa_cons (pv 7) pa_nil))) (pa_cons (pe_lst pa_nil) pa_nil))) (pg_tup rfl (pgs_cons (pg_name (i := 9) scPr.nd rfl (Or.inr rfl)) (pgs_cons (pg_name (i := 10) scPr.nd rfl (Or.inl rfl)) pgs_nil))))
    (pss_cons (ps_for PassesOwn.never rfl (pi_list (pv 9)) (pg_name (i := 11) scPr.nd rfl (Or.inr rfl))
      (pss_cons (ps_setLc (i := 13) (own := [("_law_row", 12)]) (g := gName 12) (tt := tTest (tOp (rNeD K) (tOp (rIxT K) (tVar 12) (tC (.int ((0 : Nat) : Int)))) (tVar 11))) (te := tVar 12) rfl scPr.nd rfl rfl rfl (pi_list (pv 3)) (blkOk_by (own := [("_law_row", 12)]) (N := NPr) (sc := defScope sPairR) (by decide +kernel))
          (fun _ _ _ _ _ => pg_name (i := 12) scPr.nd rfl (Or.inl rfl)) (fun _ _ _ _ _ => pts_one (pt_cmpR (op_neD hu64) (pe_ix ix_tup (pv 12) pe_int (fun _ _ => rfl)) (pv 11) (nomark _))) (fun _ _ _ _ _ => pv 12))
      (pss_one (ps_set (i := 10) scPr.nd rfl (Or.inl rfl) (pe_op op_cat (pv 10) (pe_op op_rep (pe_lst (pa_cons (pv 11) pa_nil)) (pe_callTy call_int1 (by rfl) gI (by decide +kernel) (pa_cons (pe_cmpR op_ne (pe_dget2 u1 (pe_fz C.fa r1 (by rfl) (pa_cons (pv 13) (pa_cons (pe_ix ix_list (pv 7) pe_int (fun _ _ => rfl)) pa_nil))) (pe_ix ix_list (pv 7) pe_int (fun _ _ => rfl)) pe_non ⟨rfl, rfl, rfl, rfl⟩) (pv 8) (nomark _)) pa_nil))))))))
    hu))) ?_
  rintro Z σ H ⟨p, W, T, n, q, t, pr, e, a, b, ls, lg, ts, us, gs, rs, x, y, xs, rfl, hp, I, z⟩
  have sl := sizeLine_eq
  have I0 := I.keep del_same
  have l40 := I.len
  have hn := I.ok.ln
  have two : 2 ≤ sizeLine := by omega
  refine ⟨_, rfl, _, rfl, e, _, ((0 : Nat) : Int), _, rfl, rfl, SqL.of I0.e, atI_nat rfl, n, a, rs, _, rfl, I0.n, by omega, hn, I0.pa, fun X F1 H1 s1 nX hX eF => ?_⟩
  obtain rfl := eF.eq hn
  have I1 := I0.keep s1
  refine ⟨X, rfl, hX.isD, _, rfl, e, _, ((1 : Nat) : Int), _, rfl, rfl, SqL.of I1.e, atI_nat rfl, _, hX.get I1.pb, ?_⟩
  rw [oV_get]
  refine ⟨_, rfl, _, rfl, n, e, a, b, rs, _, _, rfl, I1.n, by omega, I.ok, I1.e, I1.pa, I1.pb, fun U ks H2 s2 nU hU eU => ?_⟩
  have s02 := same_trans s1 s2
  refine ⟨Nat.zero_le _, fun D0 nD0 => ?_⟩
  have s3 := same_upd (o := .lst []) nD0
  have hD0 : PL (upd H2 D0 (.lst [])) D0 [] := ⟨upd_same, fun t h => by simp at h⟩
  have nU' : H U = none := s1.free nU
  have nUp : U ≠ p := (ne_of_none hp nU').symm
  have nDp : D0 ≠ p := (ne_of_none (s02 _ _ hp) nD0).symm
  generalize upd H2 D0 (.lst []) = H3 at s3 hD0 ⊢
  refine ⟨two, fun Tp nTp => ?_⟩
  have s4 := same_upd (o := .tup [V.ref U, V.ref D0]) nTp
  have gT : upd H3 Tp (.tup [V.ref U, V.ref D0]) Tp = some (.tup [V.ref U, V.ref D0]) := upd_same
  generalize upd H3 Tp (.tup [V.ref U, V.ref D0]) = H4 at s4 gT ⊢
  have s24 := same_trans s3 s4
  have s04 := same_trans s02 s24
  have hU4 := hU.keep s24
  refine ⟨Tp, _, rfl, SqT.of gT, rfl, _, _, rfl, _, _, rfl, rfl, ?_⟩
  refine ⟨_, rfl, U, rfl, ⟨_, SqL.of hU4.at_⟩, ?_⟩
  have lks : ks.length ≤ 60 := by
    have h1 := congrArg List.length eU
    have h2 := usedL_len (nrs rs) (place "town" gs x) (place "town" gs y)
    rw [prs, List.length_map] at h1
    have h3 : (nrs rs).length = rs.length := by rw [nrs, List.length_map]
    omega
  generalize hu : needB (nrs rs) (place "town" gs x) (place "town" gs y) = u0
  refine for_list (K := K) (a := U) (xs := ks.map fun t => V.ref t.1) (fun j σ H' => ∃ (o11 o12 o13 : Option V) (D : Addr) (ds : List (Addr × P2)), σ = σPr p W T n q t pr e [some (oV (dist (nrs rs) (place "town" gs x) (place "town" gs y))), some (.ref U), some (.ref D), o11, o12, o13, none, none, none, none, none, none] ∧
      Same H4 H' ∧ D ≠ p ∧ PL H' D ds ∧ prs ds = ((usedL (nrs rs) (place "town" gs x) (place "town" gs y)).take j).filter u0)
    ⟨_, _, _, D0, [], rfl, .refl _, nDp, hD0.keep s4, rfl⟩ (fun j σ H' _ h => by
      obtain ⟨_, _, _, _, _, _, s, _⟩ := h
      exact SqL.of (s _ _ hU4.at_)) ?_ ?_
  · rintro j v σ H5 hj ⟨o11, o12, o13, D, ds, rfl, s5, nD, hD, eK⟩
    obtain ⟨k, hk, rfl⟩ := at_map hj
    have jl := (List.getElem?_eq_some_iff.mp hk).1
    have hku : (usedL (nrs rs) (place "town" gs x) (place "town" gs y))[j]? = some k.2 := by rw [← eU, prs, List.getElem?_map, hk]; rfl
    obtain ⟨e0, he0, ek0⟩ := usedL_key k.2 (List.mem_of_getElem? hku)
    have wk : WdP k.2 := by rw [← ek0]; exact (I.ok.w e0 he0).2.2
    have g1 : PaAt H5 k.1 k.2 := s5 _ _ (hU4.each k (List.mem_of_getElem? hk))
    have tf := take_filter (u := u0) hku
    have s05 := same_trans s04 s5
    have I5 := I0.keep s05
    rw [tf]
    have ld : ds.length ≤ 60 := by
      have h1 := congrArg List.length eK
      have h2 := filter_take_len (usedL (nrs rs) (place "town" gs x) (place "town" gs y)) u0 j
      rw [prs, List.length_map] at h1
      omega
    refine ⟨_, rfl, n, rfl, ⟨_, SqL.of I5.n.at_⟩, fun M nM => ?_⟩
    refine _root_.H3.lc_gen (us := rs) (vf := fun t => V.ref t.1) (p := fun r => decide (r.2.key ≠ k.2)) (R := fun r y _ => y = .ref r.1) nM I5.n.at_ (by omega) (fun u y H H' h k => h) (fun r hr H6 s6 hM Nx N0 n1 n0 => ?_) (fun H6 zs s6 hM eZ hR => ?_)
    · obtain ⟨ak, ab, ae, q0, q1, q2, q3⟩ := (I5.n.each r hr).keep s6
      have wr : WdP r.2.key := (I.ok.w r.2 (List.mem_map.mpr ⟨r, hr, rfl⟩)).2.2
      refine ⟨rfl, _, rfl, r.1, _, ((0 : Nat) : Int), _, rfl, rfl, SqT.of q0, atI_nat rfl, _, rfl, prD r.2.key, prD k.2, dp_pr q1, dp_pr (s6 _ _ g1), prD_shaped wr, prD_shaped wk, _, rfl, ?_⟩
      rw [eqv_pr]
      by_cases hk : r.2.key = k.2
      · refine ifF (by rw [decide_eq_true hk]; decide) (n0 (by simp [hk]) _ (Same.refl _))
      · refine ifT (by rw [decide_eq_false hk]; rfl) ⟨_, rfl, ?_⟩
        exact n1 (by simp [hk]) _ _ (Same.refl _) rfl
    · have e1 : (zs.map fun z => z.1) = rs.filter fun r => decide (r.2.key ≠ k.2) := eZ
      have e2 : (zs.map fun z => z.2) = (zs.map fun z => z.1).map fun t => V.ref t.1 := by
        rw [List.map_map]
        exact List.map_congr_left fun z hz => hR z hz
      have hM6 : NL H6 M (rs.filter fun r => decide (r.2.key ≠ k.2)) := ⟨by rw [hM, e2, e1], fun r hr => (I5.n.each r (List.mem_filter.mp hr).1).keep s6⟩
      have eM : nrs (rs.filter fun r => decide (r.2.key ≠ k.2)) = butK (nrs rs) k.2 := by
        unfold butK
        rw [nrs, nrs, List.filter_map]
        rfl
      have lM : (rs.filter fun r => decide (r.2.key ≠ k.2)).length ≤ 60 := by
        have := List.length_filter_le (fun r : Addr × NR => decide (r.2.key ≠ k.2)) rs
        omega
      have s06 := same_trans s05 s6
      have I6 := I0.keep s06
      have g6 := s6 _ _ g1
      have hD6 := hD.keep s6
      refine ⟨_, rfl, _, rfl, by show 1 ≤ sizeLine; omega, fun L nL => ?_⟩
      have m1 := same_upd (o := .lst [V.ref k.1]) nL
      have gL : upd H6 L (.lst [V.ref k.1]) L = some (.lst [V.ref k.1]) := upd_same
      generalize upd H6 L (.lst [V.ref k.1]) = J1 at m1 gL ⊢
      have I7 := I6.keep m1
      refine ⟨_, rfl, _, rfl, e, _, ((0 : Nat) : Int), _, rfl, rfl, SqL.of I7.e, atI_nat rfl, M, a, _, _, rfl, hM6.keep m1, lM, by rw [eM]; exact butK_pos hn, I7.pa, fun X2 F2 J2 m2 nX2 hX2 eF2 => ?_⟩
      rw [eM] at eF2
      obtain rfl := eF2.eq (butK_pos hn)
      have I8 := I7.keep m2
      refine ⟨X2, rfl, hX2.isD, _, rfl, e, _, ((1 : Nat) : Int), _, rfl, rfl, SqL.of I8.e, atI_nat rfl, _, hX2.get I8.pb, ?_⟩
      rw [oV_get]
      refine ⟨_, rfl, scal_oV _ _, Or.inr ⟨_, rfl, ?_⟩⟩
      rw [oV_eq]
      have ue : u0 k.2 = !decide (dist (butK (nrs rs) k.2) (place "town" gs x) (place "town" gs y) = dist (nrs rs) (place "town" gs x) (place "town" gs y)) := by
        rw [← hu]
        rfl
      rw [← ue]
      have m12 := same_trans m1 m2
      have hD8 := hD6.keep m12
      have g8 : PaAt J2 k.1 k.2 := m12 _ _ g6
      have hp8 : J2 p = some (.lst xs) := (same_trans s06 m12) _ _ hp
      cases huk : u0 k.2 with
      | true =>
        refine ⟨L, _, [V.ref k.1], rfl, rfl, m2 _ _ gL, by decide, by decide, by show 1 * 1 ≤ sizeLine; omega, fun pp np => ?_⟩
        have k2 := same_upd (o := .lst (List.replicate (if true = true then (1 : Int) else 0).toNat [V.ref k.1]).flatten) np
        refine ⟨D, pp, _, _, rfl, rfl, k2 _ _ hD8.at_, upd_same, by rw [List.length_map]; show ds.length + 1 ≤ _; omega, fun D' nD' => ?_⟩
        have k3 := same_upd (o := .lst ((ds.map fun t => V.ref t.1) ++ (List.replicate (if true = true then (1 : Int) else 0).toNat [V.ref k.1]).flatten)) nD'
        have k23 := same_trans k2 k3
        refine ⟨_, _, _, D', ds ++ [(k.1, k.2)], rfl, same_trans s5 (same_trans s6 (same_trans m12 k23)), (ne_of_none (k2 _ _ hp8) nD').symm, ⟨?_, fun t ht => ?_⟩, ?_⟩
        · rw [upd_same, List.map_append]
          rfl
        · rcases List.mem_append.mp ht with h | h
          · exact k23 _ _ (hD8.each t h)
          · rw [List.mem_singleton.mp h]
            exact k23 _ _ g8
        · rw [if_pos rfl, prs, List.map_append]
          show prs ds ++ _ = _
          rw [eK]
          rfl
      | false =>
        refine ⟨L, _, [V.ref k.1], rfl, rfl, m2 _ _ gL, by decide, by decide, by show 1 * 0 ≤ sizeLine; omega, fun pp np => ?_⟩
        have k2 := same_upd (o := .lst (List.replicate (if false = true then (1 : Int) else 0).toNat [V.ref k.1]).flatten) np
        refine ⟨D, pp, _, _, rfl, rfl, k2 _ _ hD8.at_, upd_same, by rw [List.length_map]; show ds.length + 0 ≤ _; omega, fun D' nD' => ?_⟩
        have k3 := same_upd (o := .lst ((ds.map fun t => V.ref t.1) ++ (List.replicate (if false = true then (1 : Int) else 0).toNat [V.ref k.1]).flatten)) nD'
        have k23 := same_trans k2 k3
        refine ⟨_, _, _, D', ds, rfl, same_trans s5 (same_trans s6 (same_trans m12 k23)), (ne_of_none (k2 _ _ hp8) nD').symm, ⟨?_, fun t ht => k23 _ _ (hD8.each t ht)⟩, ?_⟩
        · rw [upd_same]
          show some (HO.lst (_ ++ [])) = _
          rw [List.append_nil]
        · rw [if_neg (by decide), List.append_nil]
          exact eK
  · rintro σ H5 ⟨o11, o12, o13, D, ds, rfl, s5, nD, hD, eK⟩
    have eT : (usedL (nrs rs) (place "town" gs x) (place "town" gs y)).take (ks.map fun t => V.ref t.1).length = usedL (nrs rs) (place "town" gs x) (place "town" gs y) := List.take_of_length_le (by
      rw [← eU, prs, List.length_map, List.length_map]
      exact Nat.le_refl _)
    rw [eT] at eK
    exact z U D ks ds o11 o12 o13 H5 (same_trans s04 s5) nUp nD (hU4.keep s5) eU hD (by rw [eK, ← hu]; rfl)
end
end
end K13
end
section
set_option Elab.async false
set_option linter.all false
set_option maxRecDepth 100000
set_option maxHeartbeats 8000000
namespace K13
open PySem PySem.Spec PyProof.Rows L2
/-- what stands beside the purse while a pair is judged -/
structure PrK (H : Hp) (CQ CT p W T n q t pr e a b ls lg : Addr) (ts us : List (Addr × S5)) (gs : List Str) (rs : List (Addr × NR)) (x y : Str) (U D : Addr) (ks ds : List (Addr × P2)) : Prop where
  hp : ∃ m, Pu H p m ∧ m ≤ 700000
  i : PrI (del H p) CQ CT W T n q t pr e a b ls lg ts us gs rs x y
  u : PL (del H p) U ks
  eu : prs ks = usedL (nrs rs) (place "town" gs x) (place "town" gs y)
  d : PL (del H p) D ds
  ed : prs ds = needL (nrs rs) (place "town" gs x) (place "town" gs y)
section
variable {H H' : Hp} {CQ CT p W T n q t pr e a b ls lg : Addr} {ts us : List (Addr × S5)} {gs : List Str} {rs : List (Addr × NR)} {x y : Str} {U D : Addr} {ks ds : List (Addr × P2)}
theorem PrK.keep (h : PrK H CQ CT p W T n q t pr e a b ls lg ts us gs rs x y U D ks ds) (s : Same H H') : PrK H' CQ CT p W T n q t pr e a b ls lg ts us gs rs x y U D ks ds := by
  obtain ⟨⟨m, ⟨xs, h1, h2⟩, h3⟩, I, u, eu, d, ed⟩ := h
  have k := del_keep (D := p) s
  exact ⟨⟨m, ⟨xs, s _ _ h1, h2⟩, h3⟩, I.keep k, u.keep k, eu, d.keep k, ed⟩
theorem pl_del {H : Hp} {p U : Addr} {ks : List (Addr × P2)} {xs : List V} (h : PL H U ks) (n : U ≠ p) (hp : H p = some (.lst xs)) : PL (del H p) U ks := ⟨del_of h.at_ n, fun t ht => del_of (h.each t ht) fun e => by
  have h1 : H t.1 = some (.tup [.str t.2.1, .str t.2.2]) := h.each t ht
  rw [e, hp] at h1
  cases h1⟩
end
section
variable {P : Program} {w : World} {K : PySem.W.Frag} {mg : Str → Option Value} {base : Heap}
variable {f : Addr} {cdv : Value} {A : Around} {outer : List Env} {s : Shared} {Hl : Hp} {E : XK} {CQ CT : Addr}
/-- the state between the statements -/
def PrX (CQ CT : Addr) (σ : L2.St) (H : Hp) (W T n q t pr e a b ls lg p U D : Addr) (ts us : List (Addr × S5)) (gs : List Str) (rs : List (Addr × NR)) (x y : Str) (ks ds : List (Addr × P2)) : Prop :=
  (∃ o11 o12 o13 o14 o15 o16 o17 o18 o19 : Option V, σ = σPr p W T n q t pr e [some (oV (dist (nrs rs) (place "town" gs x) (place "town" gs y))), some (.ref U), some (.ref D), o11, o12, o13, o14, o15, o16, o17, o18, o19]) ∧ PrK H CQ CT p W T n q t pr e a b ls lg ts us gs rs x y U D ks ds
def tPrS (CQ CT : Addr) (u : TS) : TS := fun Z σ H => ∃ W T n q t pr e a b ls lg p U D ts us gs rs x y ks ds, PrX CQ CT σ H W T n q t pr e a b ls lg p U D ts us gs rs x y ks ds ∧ ∀ σ' H', Same H H' → PrX CQ CT σ' H' W T n q t pr e a b ls lg p U D ts us gs rs x y ks ds → u Z σ' H'
theorem pr3 (C : PrZ P w K mg base CQ CT) (hr : Room 8 (RPr f cdv A s)) {rest : List Stmt} {u : TS} (hu : PSs (TPr P w K mg base f cdv A outer s Hl E) rest u) :
    PSs (TPr P w K mg base f cdv A outer s Hl E) (prB 3 :: rest) (tPrS CQ CT u) := by
  have r7 : Room 7 (RPr f cdv A s) := hr.mono (by decide)
  have r6 : Room 6 (RPr f cdv A s) := hr.mono (by decide)
  have r5 : Room 5 (RPr f cdv A s) := hr.mono (by decide)
  have gR := C.T.fr "range" (by decide +kernel)
  refine weak (pss_cons (ps_for PassesOwn.never rfl (pi_range1 rfl gR (pa_cons pe_int pa_nil)) (pg_name (i := 14) scPr.nd rfl (Or.inl rfl))
      (pss_cons (ps_set (i := 15) scPr.nd rfl (Or.inl rfl) (pe_lst (pa_cons (pe_fz C.pu r5 (by rfl) (pa_cons (pv 4) (pa_cons (pv 5) (pa_cons (pe_ix ix_tup (pv 6) pe_int (fun _ _ => rfl)) (pa_cons (pe_ix ix_tup (pv 6) pe_int (fun _ _ => rfl)) pa_nil)))))
        (pa_cons (pe_fz C.pn r6 (by rfl) (pa_cons (pv 4) (pa_cons (pv 5) (pa_cons (pe_ix ix_tup (pv 6) pe_int (fun _ _ => rfl)) (pa_cons (pe_ix ix_tup (pv 6) pe_int (fun _ _ => rfl)) pa_nil))))) pa_nil))))
      (pss_cons (ps_if (pt_not (pt_val (pe_fz C.ex r7 (by rfl) (pa_cons (pv 15) (pa_cons (pe_lst (pa_cons (pv 9) (pa_cons (pv 10) pa_nil))) pa_nil))))) (pss_one ps_never) pss_nil)
      (pss_cons (ps_expr (pe_bm PySem.F.plainAttrs_list PySem.F.slot_list_append PySem.F.type_list_append mt_append (pe_ix ix_list (pv 15) pe_int (fun _ _ => rfl)) (pa_cons pe_non pa_nil)))
      (pss_one (ps_expr (pe_bm PySem.F.plainAttrs_list PySem.F.slot_list_append PySem.F.type_list_append mt_append (pe_ix ix_list (pv 15) pe_int (fun _ _ => rfl)) (pa_cons (pe_tup (pa_cons pe_str (pa_cons pe_str pa_nil))) pa_nil))))))))
    hu) ?_
  rintro Z σ H ⟨W, T, n, q, t, pr, e, a, b, ls, lg, p, U, D, ts, us, gs, rs, x, y, ks, ds, ⟨⟨o11, o12, o13, o14, o15, o16, o17, o18, o19, rfl⟩, B⟩, z⟩
  have sl := sizeLine_eq
  have two : 2 ≤ sizeLine := by omega
  obtain ⟨hs, hN, pl⟩ := (B.i.keep del_same).net
  have I0 := B.i.keep del_same
  have hU0 := B.u.keep del_same
  have hD0 := B.d.keep del_same
  have l40 := B.i.len
  have lN : (nrs rs).length = rs.length := by rw [nrs, List.length_map]
  have eu := B.eu
  have ed := B.ed
  have lu := usedL_len (nrs rs) (place "town" gs x) (place "town" gs y)
  have ln := needL_len (nrs rs) (place "town" gs x) (place "town" gs y)
  refine ⟨2, rfl, by decide, by decide, ?_⟩
  refine for_range (n := 2) (fun j σ H' => PrX CQ CT σ H' W T n q t pr e a b ls lg p U D ts us gs rs x y ks ds ∧ Same H H') ⟨⟨⟨_, _, _, _, _, _, _, _, _, rfl⟩, B⟩, .refl _⟩ ?_ ?_
  · rintro j σ H1 hj ⟨⟨⟨o11, o12, o13, o14, o15, o16, o17, o18, o19, rfl⟩, B1⟩, s1⟩
    have I1 := I0.keep s1
    have hpr : H1 pr = some (.tup [.str x, .str y]) := I1.pr
    refine ⟨_, rfl, _, rfl, _, rfl, pr, _, ((0 : Nat) : Int), _, rfl, rfl, SqT.of hpr, atI_nat rfl, _, rfl, pr, _, ((1 : Nat) : Int), _, rfl, rfl, SqT.of hpr, atI_nat rfl, q, t, nrs rs, hs, x, y, rfl, hN.keep s1, fun A1 k1 H2 s2 nA1 hA1 eA1 _ => ?_⟩
    rw [pl, pl, ← eu] at eA1
    have s12 := same_trans s1 s2
    have hpr2 := s2 _ _ hpr
    refine ⟨_, rfl, _, rfl, _, rfl, pr, _, ((0 : Nat) : Int), _, rfl, rfl, SqT.of hpr2, atI_nat rfl, _, rfl, pr, _, ((1 : Nat) : Int), _, rfl, rfl, SqT.of hpr2, atI_nat rfl, q, t, nrs rs, hs, x, y, rfl, hN.keep s12, fun A2 k2 H3 s3 nA2 hA2 eA2 _ => ?_⟩
    rw [pl, pl, ← ed] at eA2
    have hA1' := hA1.keep s3
    refine ⟨two, fun L nL => ?_⟩
    have s4 := same_upd (o := .lst [V.ref A1, V.ref A2]) nL
    have gL : upd H3 L (.lst [V.ref A1, V.ref A2]) L = some (.lst [V.ref A1, V.ref A2]) := upd_same
    generalize upd H3 L (.lst [V.ref A1, V.ref A2]) = H4 at s4 gL ⊢
    have s14 := same_trans s12 (same_trans s3 s4)
    refine ⟨_, rfl, _, rfl, _, rfl, two, fun M nM => ?_⟩
    have s5 := same_upd (o := .lst [V.ref U, V.ref D]) nM
    have gM : upd H4 M (.lst [V.ref U, V.ref D]) M = some (.lst [V.ref U, V.ref D]) := upd_same
    generalize upd H4 M (.lst [V.ref U, V.ref D]) = H5 at s5 gM ⊢
    have s15 := same_trans s14 s5
    have hA15 := (hA1'.keep s4).keep s5
    have hA25 := (hA2.keep s4).keep s5
    have hU5 := hU0.keep s15
    have hD5 := hD0.keep s15
    have d1 : Dt H5 (.ref L) (.list [.list ((prs ks).map prD), .list ((prs ds).map prD)]) := .lst (s5 _ _ gL) (.cons (by rw [← eA1]; exact hA15.dt) (.cons (by rw [← eA2]; exact hA25.dt) .nil))
    have d2 : Dt H5 (.ref M) (.list [.list ((prs ks).map prD), .list ((prs ds).map prD)]) := .lst gM (.cons hU5.dt (.cons hD5.dt .nil))
    refine ⟨.ref L, .ref M, _, rfl, d1, d2, ?_, ?_, fun H6 s6 => ⟨_, rfl, ?_⟩⟩
    · have q1 := prs_depth (prs ks)
      have q2 := prs_depth (prs ds)
      simp only [PyData.depth, PyData.depthAll]
      omega
    · have q1 := wid_prs (xs := prs ks)
      have q2 := wid_prs (xs := prs ds)
      have q3 := congrArg List.length eu
      have q4 := congrArg List.length ed
      simp only [wid, widAll, List.length_cons, List.length_nil, List.length_map] at q1 q2 q3 q4 ⊢
      omega
    refine ifF (by decide) ?_
    have s46 := same_trans s5 s6
    have gL6 := s46 _ _ gL
    have hA16 := hA15.keep s6
    have hA26 := hA25.keep s6
    have nL1 : L ≠ A1 := (ne_of_none hA1'.at_ nL).symm
    have nA21 : A2 ≠ A1 := (ne_of_none hA1.at_ nA2).symm
    have lk1 : k1.length ≤ 60 := by
      have q1 := congrArg List.length eA1
      have q3 := congrArg List.length eu
      simp only [List.length_map] at q1 q3
      omega
    have lk2 : k2.length ≤ 60 := by
      have q1 := congrArg List.length eA2
      have q3 := congrArg List.length ed
      simp only [List.length_map] at q1 q3
      omega
    have s26 := same_trans s3 (same_trans s4 s46)
    have s6' : Same H1 H6 := same_trans s2 s26
    refine ⟨_, rfl, L, _, ((0 : Nat) : Int), _, rfl, rfl, SqL.of gL6, atI_nat rfl, Or.inl ⟨rfl, _, SqL.of hA16.at_⟩, A1, _, _, rfl, rfl, hA16.at_, by rw [List.length_map]; omega, ?_⟩
    have s7 : Same H1 (upd H6 A1 (.lst ((k1.map fun t => V.ref t.1) ++ [V.non]))) := fun c o e => by
      rw [upd_ne (ne_of_none e nA1)]
      exact s6' _ _ e
    have gL7 : upd H6 A1 (.lst ((k1.map fun t => V.ref t.1) ++ [V.non])) L = some (.lst [V.ref A1, V.ref A2]) := by rw [upd_ne nL1]; exact gL6
    have hA27 : upd H6 A1 (.lst ((k1.map fun t => V.ref t.1) ++ [V.non])) A2 = some (.lst (k2.map fun t => V.ref t.1)) := by rw [upd_ne nA21]; exact hA26.at_
    generalize upd H6 A1 (.lst ((k1.map fun t => V.ref t.1) ++ [V.non])) = H7 at s7 gL7 hA27 ⊢
    refine ⟨_, rfl, L, _, ((1 : Nat) : Int), _, rfl, rfl, SqL.of gL7, atI_nat rfl, Or.inl ⟨rfl, _, SqL.of hA27⟩, two, fun m nm => ?_⟩
    have s8 := same_upd (o := .tup [V.str "quarter", V.str "more"]) nm
    refine ⟨A2, _, _, rfl, rfl, s8 _ _ hA27, by rw [List.length_map]; omega, ?_⟩
    have s9 : Same H1 (upd (upd H7 m (.tup [V.str "quarter", V.str "more"])) A2 (.lst ((k2.map fun t => V.ref t.1) ++ [V.ref m]))) := fun c o e => by
      rw [upd_ne (ne_of_none (s2 _ _ e) nA2)]
      exact s8 _ _ (s7 _ _ e)
    exact ⟨⟨⟨_, _, _, _, _, _, _, _, _, rfl⟩, B1.keep s9⟩, same_trans s1 s9⟩
  · rintro σ H1 ⟨X, s1⟩
    exact z σ H1 s1 X
end
end K13
end
section
set_option Elab.async false
set_option linter.all false
set_option maxRecDepth 100000
set_option maxHeartbeats 8000000
namespace K13
open PySem PySem.Spec PyProof.Rows L2
section
variable {P : Program} {w : World} {K : PySem.W.Frag} {mg : Str → Option Value} {base : Heap}
variable {f : Addr} {cdv : Value} {A : Around} {outer : List Env} {s : Shared} {Hl : Hp} {E : XK} {CQ CT : Addr}
theorem all_dec {α : Type} (l : List α) (p : α → Prop) [DecidablePred p] : (l.map fun x => decide (p x)).all id = true ↔ ∀ x ∈ l, p x := by
  simp [List.all_eq_true]
/-- every item of one list of pairs, in another: what the comprehension makes -/
theorem in_all {H : Hp} {D v : Addr} {ps ks : List (Addr × P2)} {zs : List ((Addr × P2) × V)} (e : (zs.map fun z => z.1) = ps.filter fun _ => true) (hR : ∀ z ∈ zs, z.2 = .bl (decide (z.1.2 ∈ prs ks))) (hD : H D = some (.lst (zs.map fun z => z.2))) : H D = some (.lst (((prs ps).map fun k => decide (k ∈ prs ks)).map V.bl)) := by
  rw [hD]
  congr 2
  have e1 : (zs.map fun z => z.1) = ps := by rw [e, List.filter_eq_self.mpr (fun _ _ => rfl)]
  rw [show (zs.map fun z => z.2) = (zs.map fun z => z.1).map fun t => V.bl (decide (t.2 ∈ prs ks)) from by rw [List.map_map]; exact List.map_congr_left fun z hz => hR z hz, e1, prs, List.map_map, List.map_map]
  rfl
theorem pr4 (C : PrZ P w K mg base CQ CT) (hr : Room 8 (RPr f cdv A s)) {rest : List Stmt} {u : TS} (hu : PSs (TPr P w K mg base f cdv A outer s Hl E) rest u) :
    PSs (TPr P w K mg base f cdv A outer s Hl E) (prB 4 :: rest) (tPrS CQ CT u) := by
  have r4 : Room 4 (RPr f cdv A s) := hr.mono (by decide)
  have r1 : Room 1 (RPr f cdv A s) := hr.mono (by decide)
  have gA := C.T.fr "all" (by decide +kernel)
  have hu65 : (RPr f cdv A s).units + 65 < cLine := by
    have := hr.un
    omega
  refine weak (pss_cons (ps_for PassesOwn.never rfl (pi_list (pe_fz C.wy r1 (by rfl) (pa_cons (pv 3) (pa_cons (pe_ix ix_list (pv 7) pe_int (fun _ _ => rfl)) (pa_cons (pe_ix ix_list (pv 7) pe_int (fun _ _ => rfl)) (pa_cons pe_int pa_nil)))))) (pg_name (i := 16) scPr.nd rfl (Or.inr rfl))
      (pss_one (ps_if (PW.pt (pw_and (pt_cmpR op_eq (pe_fz C.wl r4 (by rfl) (pa_cons (pv 3) (pa_cons (pv 16) pa_nil))) (pv 8) (nomark _)) (pw_and1 (pt_not (PW.pt (pw_and
          (pt_val (pe_callB (cr_all rfl) (by rfl) gA (by decide +kernel) (pa_cons (pe_lc (own := [("_law_key", 11)]) (g := gName 11) (tt := tYes) (te := tOp (rInD K) (tVar 11) (tVar 9)) rfl scPr.nd (pi_list (pv 16)) (blkOk_by (own := [("_law_key", 11)]) (N := NPr) (sc := defScope sPairR) (by decide +kernel))
            (fun _ _ _ _ _ => pg_name (i := 11) scPr.nd rfl (Or.inl rfl)) (fun _ _ _ _ _ => pts_nil) (fun _ _ _ _ _ => pe_cmpR (op_inD hu65) (pv 11) (pv 9) rfl)) pa_nil)))
          (pw_and1 (pt_val (pe_callB (cr_all rfl) (by rfl) gA (by decide +kernel) (pa_cons (pe_lc (own := [("_law_key", 11)]) (g := gName 11) (tt := tYes) (te := tOp (rInD K) (tVar 11) (tVar 16)) rfl scPr.nd (pi_list (pv 10)) (blkOk_by (own := [("_law_key", 11)]) (N := NPr) (sc := defScope sPairR) (by decide +kernel))
            (fun _ _ _ _ _ => pg_name (i := 11) scPr.nd rfl (Or.inl rfl)) (fun _ _ _ _ _ => pts_nil) (fun _ _ _ _ _ => pe_cmpR (op_inD hu65) (pv 11) (pv 16) rfl)) pa_nil))))))))))
        (pss_one ps_never) pss_nil)))
    hu) ?_
  rintro Z σ H ⟨W, T, n, q, t, pr, e, a, b, ls, lg, p, U, D, ts, us, gs, rs, x, y, ks, ds, ⟨⟨o11, o12, o13, o14, o15, o16, o17, o18, o19, rfl⟩, B⟩, z⟩
  have sl := sizeLine_eq
  have I0 := B.i.keep del_same
  have hU0 := B.u.keep del_same
  have hD0 := B.d.keep del_same
  have l40 := B.i.len
  have ok := B.i.ok
  have eu := B.eu
  have ed := B.ed
  have lN : (nrs rs).length = rs.length := by rw [nrs, List.length_map]
  have lu := usedL_len (nrs rs) (place "town" gs x) (place "town" gs y)
  have ln := needL_len (nrs rs) (place "town" gs x) (place "town" gs y)
  have lks : ks.length ≤ 60 := by
    have q3 := congrArg List.length eu
    rw [prs, List.length_map] at q3
    omega
  have lds : ds.length ≤ 60 := by
    have q3 := congrArg List.length ed
    rw [prs, List.length_map] at q3
    omega
  have wks : ∀ k ∈ prs ks, WdP k := keys_wd ok (by rw [eu]; exact usedL_key)
  have wds : ∀ k ∈ prs ds, WdP k := keys_wd ok (by rw [ed]; exact needL_key)
  refine ⟨_, rfl, _, rfl, e, _, ((0 : Nat) : Int), _, rfl, rfl, SqL.of I0.e, atI_nat rfl, _, rfl, e, _, ((1 : Nat) : Int), _, rfl, rfl, SqL.of I0.e, atI_nat rfl, n, a, b, rs, _, _, rfl, I0.n, by omega, ok, I0.pa, I0.pb, B.i.wda.1, B.i.wda.2, fun F fs H1 s1 hF l25 => ?_⟩
  refine ⟨F, rfl, ⟨_, SqL.of hF.at_⟩, ?_⟩
  refine for_list (K := K) (a := F) (xs := fs.map fun t => V.ref t.1) (fun j σ H' => PrX CQ CT σ H' W T n q t pr e a b ls lg p U D ts us gs rs x y ks ds ∧ Same H1 H') ⟨⟨⟨_, _, _, _, _, _, _, _, _, rfl⟩, B.keep s1⟩, .refl _⟩ (fun j σ H' _ h => SqL.of (h.2 _ _ hF.at_)) ?_ ?_
  · rintro j v σ H2 hj ⟨⟨⟨o11, o12, o13, o14, o15, o16, o17, o18, o19, rfl⟩, B2⟩, s2⟩
    obtain ⟨g, hg, rfl⟩ := at_map hj
    obtain ⟨⟨ps, hp, ep⟩, wk, lw⟩ := hF.each g (List.mem_of_getElem? hg)
    have s12 := same_trans s1 s2
    have I2 := I0.keep s12
    have hp2 := hp.keep s2
    have done : ∀ {H3 : Hp}, Same H2 H3 → PrX CQ CT (σPr p W T n q t pr e [some (oV (dist (nrs rs) (place "town" gs x) (place "town" gs y))), some (.ref U), some (.ref D), o11, o12, o13, o14, o15, some (.ref g.1), o17, o18, o19]) H3 W T n q t pr e a b ls lg p U D ts us gs rs x y ks ds ∧ Same H1 H3 := fun {H3} s3 => ⟨⟨⟨_, _, _, _, _, _, _, _, _, rfl⟩, B2.keep s3⟩, same_trans s2 s3⟩
    have inN : ∀ e ∈ g.2, e ∈ nrs rs := fun e he => (wk.in_ e he).1
    have wps : ∀ k ∈ prs ps, WdP k := keys_wd ok (by
      rw [ep]
      intro k hk
      obtain ⟨e, he, q⟩ := List.mem_map.mp hk
      exact ⟨e, inN e he, q⟩)
    have lps : ps.length ≤ 70 := by
      have q3 := congrArg List.length ep
      rw [prs, List.length_map, List.length_map] at q3
      omega
    refine ⟨_, rfl, _, rfl, n, g.1, rs, ps, g.2, rfl, ⟨I2.n, by omega, B.i.nd, hp2, ep, inN, by omega⟩, fun H3 s3 => ?_⟩
    refine ⟨_, rfl, scal_oV (some (lenS g.2)) _, _, rfl, ?_⟩
    have eo : decide (V.int (lenS g.2) = oV (dist (nrs rs) (place "town" gs x) (place "town" gs y))) = decide (some (lenS g.2) = dist (nrs rs) (place "town" gs x) (place "town" gs y)) := oV_eq (some (lenS g.2)) _
    rw [eo]
    refine ite2 (fun hc => ?_) (fun hc => ?_)
    · have hd := (of_decide_eq_true hc).symm
      have a1 : ∀ k ∈ prs ps, k ∈ prs ks := fun k hk => by
        rw [ep] at hk
        obtain ⟨e, he, rfl⟩ := List.mem_map.mp hk
        rw [eu]
        exact least_used ok.ln wk hd rfl e he
      have a2 : ∀ k ∈ prs ds, k ∈ prs ps := fun k hk => by
        rw [ed] at hk
        rw [ep]
        exact least_needs ok.ln wk hd rfl k hk
      have hp3 := hp2.keep s3
      have s13 := same_trans s12 s3
      refine ⟨_, rfl, g.1, rfl, ⟨_, SqL.of hp3.at_⟩, fun M nM => ?_⟩
      refine _root_.H3.lc_gen (us := ps) (vf := fun t => V.ref t.1) (p := fun _ => true) (R := fun t y _ => y = .bl (decide (t.2 ∈ prs ks))) nM hp3.at_ (by omega) (fun u y H H' h k => h) (fun r hr H6 s6 hM Nx N0 n1 n0 => ?_) (fun H6 zs s6 hM eZ hR => ?_)
      · refine ⟨rfl, _, rfl, _, rfl, prD r.2, _, dp_pr (s6 _ _ (hp3.each r hr)), (hU0.keep (same_trans s13 s6)).dp, prD_shaped (wps r.2 (List.mem_map.mpr ⟨r, hr, rfl⟩)), prs_shaped wks, ?_⟩
        rw [any_pr]
        exact n1 rfl _ _ (Same.refl _) rfl
      · have hM := in_all (v := M) eZ hR hM
        refine ⟨M, _, rfl, SqL.of hM, _, rfl, ?_⟩
        refine ifT ((all_dec _ _).mpr a1) ?_
        have hD6 := hD0.keep (same_trans s13 s6)
        have hp6 := hp3.keep s6
        refine ⟨_, rfl, D, rfl, ⟨_, SqL.of hD6.at_⟩, fun M2 nM2 => ?_⟩
        refine _root_.H3.lc_gen (us := ds) (vf := fun t => V.ref t.1) (p := fun _ => true) (R := fun t y _ => y = .bl (decide (t.2 ∈ prs ps))) nM2 hD6.at_ (by omega) (fun u y H H' h k => h) (fun r hr H7 s7 hM2 Nx N0 n1 n0 => ?_) (fun H7 zs s7 hM2 eZ hR => ?_)
        · refine ⟨rfl, _, rfl, _, rfl, prD r.2, _, dp_pr (s7 _ _ (hD6.each r hr)), (hp6.keep s7).dp, prD_shaped (wds r.2 (List.mem_map.mpr ⟨r, hr, rfl⟩)), prs_shaped wps, ?_⟩
          rw [any_pr]
          exact n1 rfl _ _ (Same.refl _) rfl
        · have hM2 := in_all (v := M2) eZ hR hM2
          refine ⟨M2, _, rfl, SqL.of hM2, _, rfl, ?_⟩
          rw [(all_dec _ _).mpr a2]
          refine ifF (by decide) (done (same_trans s3 (same_trans s6 s7)))
    · refine ifF (by decide) (done s3)
  · rintro σ H2 ⟨X, s2⟩
    exact z σ H2 (same_trans s1 s2) X
end
end K13
end
section
set_option Elab.async false
set_option linter.all false
set_option maxRecDepth 100000
set_option maxHeartbeats 8000000
namespace K13
open PySem PySem.Spec PyProof.Rows L2
section
variable {P : Program} {w : World} {K : PySem.W.Frag} {mg : Str → Option Value} {base : Heap}
section
variable {f : Addr} {cdv : Value} {A : Around} {outer : List Env} {s : Shared} {Hl : Hp} {E : XK} {CQ CT : Addr}
def tPr5 (CQ CT : Addr) : TS := fun Z σ H => ∃ W T n q t pr e a b ls lg p U D ts us gs rs x y ks ds m, PrX CQ CT σ H W T n q t pr e a b ls lg p U D ts us gs rs x y ks ds ∧ Pu H p m ∧ m ≤ 700000 ∧ ∀ H', But p H H' → Pu H' p (m + 100) → Z.rt (.bl true) H'
theorem shut_side {k : P2} {gs : List Str} {ts us : List (Addr × S5)} (h : ∃ r ∈ netOf gs (snds ts) (snds us), r.key = k) : k.1 = "quarter" ∨ k.1 = "town" := by
  obtain ⟨r, hr, rfl⟩ := h
  rcases List.mem_append.mp hr with h | h
  · obtain ⟨s, _, rfl⟩ := List.mem_map.mp h
    exact Or.inl rfl
  · obtain ⟨s, _, rfl⟩ := List.mem_map.mp h
    exact Or.inr rfl
theorem pr5 (C : PrZ P w K mg base CQ CT) (hr : Room 8 (RPr f cdv A s)) : PSs (TPr P w K mg base f cdv A outer s Hl E) [prB 5, prB 6] (tPr5 CQ CT) := by
  have r5 : Room 5 (RPr f cdv A s) := hr.mono (by decide)
  have r3 : Room 3 (RPr f cdv A s) := hr.mono (by decide)
  have r2 : Room 2 (RPr f cdv A s) := hr.mono (by decide)
  have hu65 : (RPr f cdv A s).units + 65 < cLine := by
    have := hr.un
    omega
  refine weak (pss_cons (ps_for PassesOwn.never rfl (pi_list (pe_slice sl_list (pe_fz C.sh r3 (by rfl) (pa_cons (pv 0) (pa_cons (pv 3) pa_nil))) po_none (po_some pe_int))) (pg_name (i := 12) scPr.nd rfl (Or.inl rfl))
      (pss_cons (ps_asg (pe_fz C.s1 r2 (by rfl) (pa_cons (pv 1) (pa_cons (pv 2) (pa_cons (pe_ix ix_tup (pv 12) pe_int (fun _ _ => rfl)) pa_nil)))) (pg_lst rfl (pgs_cons (pg_name (i := 17) scPr.nd rfl (Or.inl rfl)) (pgs_cons (pg_name (i := 18) scPr.nd rfl (Or.inl rfl)) pgs_nil))))
      (pss_cons (ps_set (i := 19) scPr.nd rfl (Or.inl rfl) (pe_fz C.wa r5 (by rfl) (pa_cons (pe_fz C.lq hr (by rfl) (pa_cons (pv 17) pa_nil)) (pa_cons (pe_fz C.lt hr (by rfl) (pa_cons (pv 18) pa_nil)) (pa_cons (pe_ix ix_tup (pv 6) pe_int (fun _ _ => rfl)) (pa_cons (pe_ix ix_tup (pv 6) pe_int (fun _ _ => rfl)) pa_nil))))))
      (pss_one (ps_if (PW.pt (pw_and (pt_cmp (pc_notN (pv 8))) (pw_and (pt_cmpR op_gt (pe_ix ix_tup (pv 12) pe_int (fun _ _ => rfl)) pe_int (nomark _)) (pw_and1 (pt_cmpR op_ne (pe_cmpR op_ne (pv 19) (pv 8) (nomark _)) (pe_cmpR (op_inD hu65) (pe_ix ix_tup (pv 12) pe_int (fun _ _ => rfl)) (pv 10) rfl) (nomark _))))))
        (pss_one ps_never) pss_nil)))))
    (pss_one (ps_ret pe_bl))) ?_
  rintro Z σ H ⟨W, T, n, q, t, pr, e, a, b, ls, lg, p, U, D, ts, us, gs, rs, x, y, ks, ds, m, ⟨⟨o11, o12, o13, o14, o15, o16, o17, o18, o19, rfl⟩, B⟩, hm, m7, z⟩
  have sl := sizeLine_eq
  have I0 := B.i.keep del_same
  have ok := B.i.ok
  have ed := B.ed
  have l40 := B.i.len
  have lN : (nrs rs).length = rs.length := by rw [nrs, List.length_map]
  have ln := needL_len (nrs rs) (place "town" gs x) (place "town" gs y)
  have lds : ds.length ≤ 60 := by
    have q3 := congrArg List.length ed
    rw [prs, List.length_map] at q3
    omega
  have wds : ∀ k ∈ prs ds, WdP k := keys_wd ok (by rw [ed]; exact needL_key)
  have np : n ≠ p := fun h => by
    have h1 := B.i.n.at_
    rw [h] at h1
    unfold del at h1
    rw [if_pos rfl] at h1
    cases h1
  obtain ⟨xs, hx, hxu⟩ := hm
  refine ⟨_, rfl, _, rfl, p, n, m, _, rfl, ⟨xs, hx, hxu⟩, by omega, I0.n.at_, np, by rw [List.length_map]; omega, fun S zs H1 pm hm1 b1 nS hS => ?_⟩
  have k1 : Same (del H p) (del H1 p) := dp_same b1
  have Sp : S ≠ p := (ne_of_none hx nS).symm
  refine ⟨_, rfl, S, _, rfl, SqL.of hS, fun S3 nS3 => ?_⟩
  have s2 := same_upd (o := .lst (cutV zs none (some 3))) nS3
  have gS3 : upd H1 S3 (.lst (cutV zs none (some 3))) S3 = some (.lst (cutV zs none (some 3))) := upd_same
  generalize upd H1 S3 (.lst (cutV zs none (some 3))) = H2 at s2 gS3 ⊢
  have I2 : PrI H2 CQ CT W T n q t pr e a b ls lg ts us gs rs x y := ((B.i.keep k1).keep del_same).keep s2
  have hD2 : PL H2 D ds := ((B.d.keep k1).keep del_same).keep s2
  have b2 : But p H H2 := b1.trans (Same.but s2)
  have hm2 : Pu H2 p (m + 100) := by
    obtain ⟨ys, h1, h2⟩ := hm1
    rw [List.length_map] at h2
    exact ⟨ys, s2 _ _ h1, h2.mono (by omega)⟩
  have sub : ∀ v ∈ cutV zs none (some 3), ∃ r ∈ rs, v = V.ref r.1 := fun v hv => by
    have h1 : v ∈ zs := List.mem_of_mem_drop (List.mem_of_mem_take hv)
    obtain ⟨r, hr, q⟩ := List.mem_map.mp (pm.mem_iff.mp h1)
    exact ⟨r, hr, q.symm⟩
  refine ⟨S3, rfl, ⟨_, SqL.of gS3⟩, ?_⟩
  refine for_list (K := K) (a := S3) (xs := cutV zs none (some 3)) (fun j σ H' => (∃ o11 o12 o13 o14 o15 o16 o17 o18 o19 : Option V, σ = σPr p W T n q t pr e [some (oV (dist (nrs rs) (place "town" gs x) (place "town" gs y))), some (.ref U), some (.ref D), o11, o12, o13, o14, o15, o16, o17, o18, o19]) ∧ Same H2 H') ⟨⟨_, _, _, _, _, _, _, _, _, rfl⟩, .refl _⟩ (fun j σ H' _ h => SqL.of (h.2 _ _ gS3)) ?_ ?_
  · rintro j v σ H3 hj ⟨⟨o11, o12, o13, o14, o15, o16, o17, o18, o19, rfl⟩, s3⟩
    obtain ⟨r, rm, rfl⟩ := sub v (List.mem_of_getElem? hj)
    have I3 := I2.keep s3
    obtain ⟨ak, ab, ae, q0, q1, q2, q3⟩ := I3.n.each r rm
    have rN : r.2 ∈ nrs rs := List.mem_map.mpr ⟨r, rm, rfl⟩
    have wr := (ok.w r.2 rN).2.2
    refine ⟨_, rfl, _, rfl, _, rfl, r.1, _, ((0 : Nat) : Int), _, rfl, rfl, SqT.of q0, atI_nat rfl, W, ls, lg, T, ak, ts, us, gs, r.2.key, rfl, I3.w, by have := I3.l1; omega, I3.tw, I3.so, by have := I3.l2; omega, q1, shut_side (gs := gs) (ts := ts) (us := us) ⟨r.2, I3.pm.mem_iff.mp rN, rfl⟩, fun L W' ls' T' ts' us' H4 s4 hL hW' hT' so' et eu' => ?_⟩
    refine ⟨L, _, rfl, SqL.of hL, rfl, _, _, rfl, _, _, rfl, rfl, ?_⟩
    refine ⟨_, rfl, W', ls', lg, ts', gs, rfl, hW', fun q' H5 s5 nq' hq' => ?_⟩
    refine ⟨_, rfl, T', us', rfl, hT'.keep s5, so', fun t' H6 s6 nt' ht' => ?_⟩
    have s46 := same_trans s4 (same_trans s5 s6)
    have I6 := I3.keep s46
    have hpr : H6 pr = some (.tup [.str x, .str y]) := I6.pr
    have lts : (snds ts').length = ts.length := by rw [et, List.length_map, List.length_map]
    have lus : (snds us').length = us.length := by rw [eu', List.length_map, List.length_map]
    have en : ends (snds us') = ends (snds us) := by rw [eu', ends_side]
    obtain ⟨N', hs, hN, pmN, asN, pl⟩ := netA_of (x := x) (y := y) (hq'.keep s6) ht' (by rw [lts]; exact I3.l1) (by rw [lus]; exact I3.l2) I3.l3 (by rw [en]; exact I3.hx) (by rw [en]; exact I3.hy) I3.ne
    have pmS : N'.Perm ((nrs rs).map (shutK r.2.key)) := by
      rw [et, eu', netOf_shut] at pmN
      exact pmN.trans (I3.pm.map _).symm
    have dN : dist N' (place "town" gs x) = dist (butK (nrs rs) r.2.key) (place "town" gs x) := by
      rw [dist_perm hN.ok.ln pmS, dist_shut ok.ln]
    refine ⟨_, rfl, pr, _, ((0 : Nat) : Int), _, rfl, rfl, SqT.of hpr, atI_nat rfl, _, rfl, pr, _, ((1 : Nat) : Int), _, rfl, rfl, SqT.of hpr, atI_nat rfl, q', t', N', hs, x, y, rfl, hN, fun H7 s7 => ?_⟩
    rw [pl, pl, dN]
    have s37 := same_trans s46 s7
    have q07 := s37 _ _ q0
    have q17 : PaAt H7 ak r.2.key := s37 _ _ q1
    have hD7 := (hD2.keep s3).keep s37
    have fin : (∃ o11' o12' o13' o14' o15' o16' o17' o18' o19' : Option V, σPr p W T n q t pr e [some (oV (dist (nrs rs) (place "town" gs x) (place "town" gs y))), some (.ref U), some (.ref D), o11, some (.ref r.1), o13, o14, o15, o16, some (.ref W'), some (.ref T'), some (oV (dist (butK (nrs rs) r.2.key) (place "town" gs x) (place "town" gs y)))] = σPr p W T n q t pr e [some (oV (dist (nrs rs) (place "town" gs x) (place "town" gs y))), some (.ref U), some (.ref D), o11', o12', o13', o14', o15', o16', o17', o18', o19']) ∧ Same H2 H7 := ⟨⟨_, _, _, _, _, _, _, _, _, rfl⟩, same_trans s3 s37⟩
    refine ⟨_, rfl, _, rfl, ?_⟩
    cases hd : dist (nrs rs) (place "town" gs x) (place "town" gs y) with
    | none =>
      rw [hd] at fin
      refine ifF (by decide) (ifF (by decide) fin)
    | some dd =>
      rw [hd] at fin
      refine ifT (by rfl) ?_
      refine ⟨_, rfl, r.1, _, ((3 : Nat) : Int), _, rfl, rfl, SqT.of q07, atI_nat rfl, _, _, rfl, rfl, _, rfl, ?_⟩
      by_cases hw : 0 < r.2.wd
      · refine ifT (decide_eq_true hw) ?_
        refine ⟨_, rfl, _, rfl, scal_oV _ (some dd), _, rfl, r.1, _, ((0 : Nat) : Int), _, rfl, rfl, SqT.of q07, atI_nat rfl, _, rfl, prD r.2.key, _, dp_pr q17, hD7.dp, prD_shaped wr, prs_shaped wds, rfl, _, rfl, ?_⟩
        rw [any_pr]
        have e1 : decide (oV (dist (butK (nrs rs) r.2.key) (place "town" gs x) (place "town" gs y)) = oV (some dd)) = decide (dist (butK (nrs rs) r.2.key) (place "town" gs x) (place "town" gs y) = some dd) := oV_eq _ _
        have e2 : decide (r.2.key ∈ prs ds) = !decide (dist (butK (nrs rs) r.2.key) (place "town" gs x) (place "town" gs y) = some dd) := by
          have h1 := need_iff ok.ln hd r.2.key
          rw [← ed, hd] at h1
          by_cases h2 : r.2.key ∈ prs ds
          · rw [decide_eq_true h2, decide_eq_false (h1.mp h2)]
            rfl
          · rw [decide_eq_false h2]
            have : dist (butK (nrs rs) r.2.key) (place "town" gs x) (place "town" gs y) = some dd := Decidable.byContradiction fun h => h2 (h1.mpr h)
            rw [decide_eq_true this]
            rfl
        rw [e1, e2]
        refine ifF (by simp) fin
      · refine ifF (by simpa using hw) (ifF (by decide) fin)
  · rintro σ H3 ⟨⟨o11, o12, o13, o14, o15, o16, o17, o18, o19, rfl⟩, s3⟩
    exact z H3 (b2.trans (Same.but s3)) (by
      obtain ⟨ys, h1, h2⟩ := hm2
      exact ⟨ys, s3 _ _ h1, h2⟩)
end
def spPairR (CQ CT : Addr) : Sp := fun vs H Q _ => ∃ (p W T n q t pr e a b ls lg : Addr) (ts us : List (Addr × S5)) (gs : List Str) (rs : List (Addr × NR)) (x y : Str) (m : Int), vs = [.ref p, .ref W, .ref T, .ref n, .ref q, .ref t, .ref pr, .ref e] ∧ Pu H p m ∧ m ≤ 700000 ∧ PrI (del H p) CQ CT W T n q t pr e a b ls lg ts us gs rs x y ∧
  ∀ H', But p H H' → Pu H' p (m + 100) → Q (.bl true) H'
theorem ok_pairR {CQ CT : Addr} {f : Addr} {fd : FuncData} (F : FnP K "_law_pair_right" sPairR f fd) (C : PrZ P w K mg base CQ CT) : FnOk P w K mg base CX0 9 f fd ["_law_purse_here", "_law_world_here", "_law_town_here", "_law_net_here", "_law_quarter_here", "_law_town_of", "_law_pair_here", "_law_ends"] (spPairR CQ CT) := by
  refine F.ok scPr (fun vs H Q E h => ?_) (fun cdv A outer s H vs Q E hr h => ?_)
  · obtain ⟨_, _, _, _, _, _, _, _, _, _, _, _, _, _, _, _, _, _, _, rfl, _⟩ := h
    rfl
  · obtain ⟨p, W, T, n, q, t, pr, e, a, b, ls, lg, ts, us, gs, rs, x, y, m, rfl, ⟨xs, hx, hxu⟩, m7, I, z⟩ := h
    refine ⟨_, PSs.nox (pr0 C hr (pr3 C hr (pr4 C hr (pr5 C hr)))), ?_⟩
    refine ⟨p, W, T, n, q, t, pr, e, a, b, ls, lg, ts, us, gs, rs, x, y, xs, rfl, hx, I, fun U D ks ds o11 o12 o13 H1 s1 nU nD hU eU hD eD => ?_⟩
    have k1 : Same (del H p) (del H1 p) := del_keep s1
    have hx1 := s1 _ _ hx
    have B : PrK H1 CQ CT p W T n q t pr e a b ls lg ts us gs rs x y U D ks ds := ⟨⟨m, ⟨xs, hx1, hxu⟩, m7⟩, I.keep k1, pl_del hU nU hx1, eU, pl_del hD nD hx1, eD⟩
    refine ⟨W, T, n, q, t, pr, e, a, b, ls, lg, p, U, D, ts, us, gs, rs, x, y, ks, ds, ⟨⟨_, _, _, _, _, _, _, _, _, rfl⟩, B⟩, fun σ2 H2 s2 X2 => ?_⟩
    refine ⟨W, T, n, q, t, pr, e, a, b, ls, lg, p, U, D, ts, us, gs, rs, x, y, ks, ds, X2, fun σ3 H3 s3 X3 => ?_⟩
    refine ⟨W, T, n, q, t, pr, e, a, b, ls, lg, p, U, D, ts, us, gs, rs, x, y, ks, ds, m, X3, ⟨xs, s3 _ _ (s2 _ _ hx1), hxu⟩, m7, fun H4 b4 hm4 => ?_⟩
    exact z H4 ((Same.but (same_trans s1 (same_trans s2 s3))).trans b4) hm4
end
end K13
end
section
set_option Elab.async false
set_option linter.all false
set_option maxRecDepth 100000
set_option maxHeartbeats 8000000
namespace K13
open PySem PySem.Spec PyProof.Rows L2
theorem sts_del {H : Hp} {p l : Addr} {n : Int} {ts : List (Addr × S5)} (hp : Pu H p n) (h : Sts H l ts) : Sts (del H p) l ts := ⟨del_of h.1 (pu_ne_sts hp h.1), fun t ht => del_of (h.2 t ht) fun e => by
  obtain ⟨xs, hx, _⟩ := hp
  have h1 := h.2 t ht
  rw [e, hx] at h1
  cases h1⟩
theorem ws_del {H : Hp} {p l : Addr} {n : Int} {gs : List Str} (hp : Pu H p n) (h : Ws H l gs) : Ws (del H p) l gs := del_of h (pu_ne_ws hp h)
theorem isQ_del {H : Hp} {p q CQ : Addr} {n : Int} {ss : List S5} {gs : List Str} (hp : Pu H p n) (h : IsQ H CQ q ss gs) : IsQ (del H p) CQ q ss gs := by
  obtain ⟨⟨dx, l, g, ts, hs, ⟨a1, a2, a3⟩, r⟩, so, go⟩ := h
  refine ⟨⟨dx, l, g, ts, hs, ⟨del_of a1 fun e => ?_, sts_del hp a2, ws_del hp a3⟩, r⟩, so, go⟩
  obtain ⟨xs, hx, _⟩ := hp
  rw [e, hx] at a1
  cases a1
theorem isT_del {H : Hp} {p q CQ : Addr} {n : Int} {ss : List S5} (hp : Pu H p n) (h : IsT H CQ q ss) : IsT (del H p) CQ q ss := by
  obtain ⟨⟨dx, l, ts, ⟨a1, a2⟩, r⟩, so⟩ := h
  refine ⟨⟨dx, l, ts, ⟨del_of a1 fun e => ?_, sts_del hp a2⟩, r⟩, so⟩
  obtain ⟨xs, hx, _⟩ := hp
  rw [e, hx] at a1
  cases a1
theorem nl_del {H : Hp} {p l : Addr} {n : Int} {rs : List (Addr × NR)} (hp : Pu H p n) (h : NL H l rs) : NL (del H p) l rs := by
  obtain ⟨xs, hx, a, s, t, k, rfl, _⟩ := hp
  have nt : ∀ {c ys}, H c = some (.tup ys) → c ≠ p := fun {c ys} e z => by rw [z, hx] at e; cases e
  refine ⟨del_of h.at_ fun e => ?_, fun t ht => ?_⟩
  · have h1 := h.at_
    rw [e, hx] at h1
    cases rs with
    | nil => cases h1
    | cons t ts => cases h1
  · obtain ⟨ak, as, ae, h1, h2, h3, h4⟩ := h.each t ht
    exact ⟨ak, as, ae, del_of h1 (nt h1), del_of h2 (nt h2), del_of h3 (nt h3), del_of h4 (nt h4)⟩
section
variable {P : Program} {w : World} {K : PySem.W.Frag} {mg : Str → Option Value} {base : Heap}
/-- all that _law_right asks -/
structure RiZ (P : Program) (w : World) (K : PySem.W.Frag) (mg : Str → Option Value) (base : Heap) (CQ CT : Addr) : Prop where
  dn : Fz P w K mg base "_law_drawn_net" 7 ["_law_purse_here"] spDrawn
  lq : Fz P w K mg base "_law_quarter" 8 ["_law_world_here"] (spLQuarter CQ)
  lt : Fz P w K mg base "_law_town" 8 ["_law_town_here"] (spLTown CT)
  ln : Fz P w K mg base "_law_net" 2 ["_law_world_here", "_law_town_here"] spLNet
  ps : Fz P w K mg base "_law_pairs" 5 ["_law_purse_here", "_law_world_here", "_law_town_here", "_law_many"] spPairs
  pl : Fz P w K mg base "_law_place" 1 ["_law_world_here", "_law_word_here"] (spLPl "town")
  pr : Fz P w K mg base "_law_pair_right" 9 ["_law_purse_here", "_law_world_here", "_law_town_here", "_law_net_here", "_law_quarter_here", "_law_town_of", "_law_pair_here", "_law_ends"] (spPairR CQ CT)
  un : Fz P w K mg base "_law_unspoilt" 9 ["_law_quarter_here", "_law_town_of", "_law_world_here", "_law_town_here"] (spUnsp CQ CT)
def spRight : Sp := fun vs H Q _ => ∃ (p : Addr) (n : Int), vs = [.ref p] ∧ Pu H p n ∧ n ≤ 1000 ∧ ∀ H', But p H H' → Q (.bl true) H'
abbrev NRi : List Str := ["_law_purse_here", "_law_world_here", "_law_town_here", "_law_quarter_here", "_law_town_of", "_law_net_here", "_law_pair_here", "_law_ends", "_law_word_here"]
theorem scRi : FnScope NRi ["_law_purse_here"] (defScope sRight) := ⟨rfl, rfl, rfl, by decide +kernel, rfl, by decide +kernel, by decide +kernel⟩
theorem ok_right {CQ CT : Addr} {f : Addr} {fd : FuncData} (F : FnP K "_law_right" sRight f fd) (C : RiZ P w K mg base CQ CT) : FnOk P w K mg base CX0 10 f fd ["_law_purse_here"] spRight := by
  refine F.ok scRi (fun vs H Q E h => ?_) (fun cdv A outer s H vs Q E hr h => ?_)
  · obtain ⟨_, _, rfl, _⟩ := h
    rfl
  · obtain ⟨p, n, rfl, hp, hn, z⟩ := h
    have sl := sizeLine_eq
    have r8 : Room 8 (A.deeper (envOfC "_law_right" (defScope sRight) s.heap.objs.size f cdv)) := hr.mono (by decide)
    have r7 : Room 7 (A.deeper (envOfC "_law_right" (defScope sRight) s.heap.objs.size f cdv)) := hr.mono (by decide)
    have r5 : Room 5 (A.deeper (envOfC "_law_right" (defScope sRight) s.heap.objs.size f cdv)) := hr.mono (by decide)
    have r2 : Room 2 (A.deeper (envOfC "_law_right" (defScope sRight) s.heap.objs.size f cdv)) := hr.mono (by decide)
    have r1 : Room 1 (A.deeper (envOfC "_law_right" (defScope sRight) s.heap.objs.size f cdv)) := hr.mono (by decide)
    refine ⟨_, PSs.nox (pss_cons (ps_asg (pe_fz C.dn r7 (by rfl) (pa_cons (pv 0) pa_nil)) (pg_lst rfl (pgs_cons (pg_name (i := 1) scRi.nd rfl (Or.inr rfl)) (pgs_cons (pg_name (i := 2) scRi.nd rfl (Or.inl rfl)) pgs_nil))))
      (pss_cons (ps_par3 (i := 3) (j := 4) (l := 5) rfl scRi.nd rfl rfl rfl (by decide) (by decide) (by decide) rfl rfl rfl (pa_cons (pe_fz C.lq r8 (by rfl) (pa_cons (pv 1) pa_nil)) (pa_cons (pe_fz C.lt r8 (by rfl) (pa_cons (pv 2) pa_nil)) (pa_cons (pe_fz C.ln r2 (by rfl) (pa_cons (pv 1) (pa_cons (pv 2) pa_nil))) pa_nil))) (by rfl))
      (pss_cons (ps_for PassesOwn.never rfl (pi_list (pe_fz C.ps r5 (by rfl) (pa_cons (pv 0) (pa_cons (pv 1) (pa_cons (pv 2) (pa_cons pe_int pa_nil)))))) (pg_name (i := 6) scRi.nd rfl (Or.inl rfl))
        (pss_cons (ps_setLc (i := 7) (own := [("_law_word_here", 8)]) (g := gName 8) (tt := tYes) (te := tCall (spLPl "town") [] E0 (tCons (tVar 1) (tCons (tVar 8) tNil))) rfl scRi.nd rfl rfl rfl (pi_tup (pv 6)) (blkOk_by (own := [("_law_word_here", 8)]) (N := NRi) (sc := defScope sRight) (by decide +kernel))
            (fun _ _ _ _ _ => pg_name (i := 8) scRi.nd rfl (Or.inl rfl)) (fun _ _ _ _ _ => pts_nil) (fun _ _ _ _ _ => pe_fz C.pl r1 (by rfl) (pa_cons (pv 1) (pa_cons (pv 8) pa_nil))))
        (pss_one (ps_if (pt_not (pt_val (pe_fz C.pr hr (by rfl) (pa_cons (pv 0) (pa_cons (pv 1) (pa_cons (pv 2) (pa_cons (pv 5) (pa_cons (pv 3) (pa_cons (pv 4) (pa_cons (pv 6) (pa_cons (pv 7) pa_nil))))))))))) (pss_one ps_never) pss_nil))))
      (pss_one (ps_ret (pe_fz C.un hr (by rfl) (pa_cons (pv 3) (pa_cons (pv 4) (pa_cons (pv 1) (pa_cons (pv 2) pa_nil)))))))))), ?_⟩
    refine ⟨_, rfl, p, n, rfl, hp, by omega, fun D W ls lg lc ln t ts us gs cs ns H1 b1 hp1 hD hw ht ntp so l10 few g4 => ?_⟩
    refine ⟨D, _, rfl, SqL.of hD, rfl, _, _, rfl, _, _, rfl, rfl, ?_⟩
    have ok := hw.wo
    have lts : ts.length ≤ 14 := Nat.le_trans ok.l3 ok.l2
    have lgs : gs.length ≤ 20 := by omega
    refine ⟨_, rfl, W, ls, lg, ts, gs, rfl, hw.wq, fun q H2 s2 nq hq => ?_⟩
    refine ⟨_, rfl, t, us, rfl, ht.keep s2, so, fun tw H3 s3 nt htw => ?_⟩
    have s13 := same_trans s2 s3
    refine ⟨_, rfl, _, rfl, W, ls, lg, t, ts, us, gs, rfl, hw.wn.keep s13, ht.keep s13, by omega, by omega, ok.sok.nd, so.nd, fun N rs H4 s4 nN hN pm as => ?_⟩
    have s14 := same_trans s13 s4
    refine ⟨_, _, _, rfl, ?_⟩
    have hp4 : Pu H4 p (n + 3000) := by
      obtain ⟨ys, h1, h2⟩ := hp1
      exact ⟨ys, s14 _ _ h1, h2⟩
    -- all of it beside the purse
    have W4 : Ws4 (del H4 p) W ls lg ts gs := by
      have h := hw.keep s14
      exact ⟨⟨_, _, del_of h.at_ h.nW⟩, sts_del hp4 h.wo.s, ws_del hp4 h.wo.g, h.wo.sok, h.wo.gok⟩
    have T4 : Sts (del H4 p) t us := sts_del hp4 (ht.keep s14)
    have N4 := nl_del hp4 hN
    have Q4 := isQ_del hp4 ((hq.keep s3).keep s4)
    have P4 := isT_del hp4 (htw.keep s4)
    have wt4 : Wt (del H4 p) W ls lg t ts us gs := by
      obtain ⟨⟨a1, a2, a3⟩, a4, a5, a6, a7⟩ := W4
      exact ⟨⟨⟨_, a3⟩, a4, a5⟩, T4, by omega, by omega, lgs, a6, so, a7⟩
    refine ⟨_, rfl, _, rfl, _, rfl, p, W, ls, lg, t, ts, us, gs, 6, n + 3000, rfl, wt4, hp4, by omega, few, g4, fun D2 ps H5 b5 hp5 hPL mem l1 l2 => ?_⟩
    have k5 : Same (del H4 p) (del H5 p) := dp_same b5
    have b05 : But p H H5 := (b1.trans (Same.but s14)).trans b5
    refine ⟨D2, rfl, ⟨_, SqL.of (hPL.keep del_same).at_⟩, ?_⟩
    refine for_list (K := K) (a := D2) (xs := ps.map fun t => V.ref t.1) (fun j σ H' => (∃ o6 o7 o8 : Option V, σ = [some (.ref p), some (.ref W), some (.ref t), some (.ref q), some (.ref tw), some (.ref N), o6, o7, o8]) ∧ But p H5 H' ∧ Pu H' p (n + 3100 + 100 * j))
      ⟨⟨_, _, _, rfl⟩, fun b o _ e => e, hp5.mono (by omega)⟩ (fun j σ H' _ h => SqL.of (del_same _ _ ((dp_same h.2.1) _ _ hPL.at_))) ?_ ?_
    · rintro j v σ H6 hj ⟨⟨o6, o7, o8, rfl⟩, b6, hp6⟩
      obtain ⟨r, hr, rfl⟩ := at_map hj
      have jl := (List.getElem?_eq_some_iff.mp hj).1
      rw [List.length_map] at jl
      have rm := List.mem_of_getElem? hr
      have k6 : Same (del H5 p) (del H6 p) := dp_same b6
      have k46 := same_trans k5 k6
      obtain ⟨mx, my, ne⟩ := mem r.2 (List.mem_map.mpr ⟨r, rm, rfl⟩)
      have hr6 : PaAt (del H6 p) r.1 r.2 := k6 _ _ (hPL.each r rm)
      have hrt : H6 r.1 = some (.tup [.str r.2.1, .str r.2.2]) := del_same _ _ hr6
      have hW6 : Wn H6 W ls lg ts gs := (wt4.keep k46).w.keep del_same
      refine ⟨_, rfl, r.1, rfl, ⟨_, SqT.of hrt⟩, fun E0 nE => ?_⟩
      refine lc_it (walk_tup (K := K) (a := r.1) (xs := [.str r.2.1, .str r.2.2])) (fun j H' => Same H6 H' ∧ ((j = 0 ∧ H' E0 = some (.lst [])) ∨ (j = 1 ∧ ∃ a, H' E0 = some (.lst [.ref a]) ∧ PaAt H' a (place "town" gs r.2.1)) ∨ (j = 2 ∧ ∃ a b, H' E0 = some (.lst [.ref a, .ref b]) ∧ PaAt H' a (place "town" gs r.2.1) ∧ PaAt H' b (place "town" gs r.2.2)))) ⟨same_upd nE, Or.inl ⟨rfl, upd_same⟩⟩ (fun j H' _ h => SqT.of (h.1 _ _ hrt)) ?_ ?_
      · rintro i v H7 H8 hi ⟨s7, hE⟩ ⟨rfl, hv⟩
        have nt : ∀ {H : Hp} {l : List V} {c x}, H E0 = some (.lst l) → PaAt H c x → c ≠ E0 := fun {H l c x} h e z => by
          have e : H c = some (.tup [.str x.1, .str x.2]) := e
          rw [z, h] at e
          cases e
        rcases hE with ⟨rfl, hE⟩ | ⟨rfl, a, hE, ha⟩ | ⟨rfl, _⟩
        · cases hv
          refine ⟨rfl, _, rfl, _, rfl, r.2.1, W, ls, lg, ts, gs, rfl, hW6.keep s7, fun a H9 s9 na ha => ?_⟩
          have hE9 := s9 _ _ hE
          refine ⟨_, hE9, by show 0 < sizeLine; omega, fun b o eb => ?_, Or.inr (Or.inl ⟨rfl, a, upd_same, ?_⟩)⟩
          · rw [upd_ne (ne_of_none eb nE)]
            exact s9 _ _ (s7 _ _ eb)
          · show upd _ _ _ _ = _
            rw [upd_ne (nt hE9 ha)]
            exact ha
        · cases hv
          refine ⟨rfl, _, rfl, _, rfl, r.2.2, W, ls, lg, ts, gs, rfl, hW6.keep s7, fun b H9 s9 nb hb => ?_⟩
          have hE9 := s9 _ _ hE
          have ha9 := s9 _ _ ha
          refine ⟨_, hE9, by show 1 < sizeLine; omega, fun b o eb => ?_, Or.inr (Or.inr ⟨rfl, a, b, upd_same, ?_, ?_⟩)⟩
          · rw [upd_ne (ne_of_none eb nE)]
            exact s9 _ _ (s7 _ _ eb)
          · show upd _ _ _ _ = _
            rw [upd_ne (nt hE9 ha9)]
            exact ha9
          · show upd _ _ _ _ = _
            rw [upd_ne (nt hE9 hb)]
            exact hb
        · cases hi with
          | step h => cases h with
            | step h => cases h
      · rintro H7 ⟨s7, hE⟩
        rcases hE with ⟨e, _⟩ | ⟨e, _⟩ | ⟨_, a, b, hE, ha, hb⟩
        · cases e
        · cases e
        have k7 : Same (del H6 p) (del H7 p) := del_keep s7
        have k47 := same_trans k46 k7
        obtain ⟨ys, hy, hyu⟩ := hp6
        have hy7 := s7 _ _ hy
        have tp : ∀ {c x}, PaAt H7 c x → PaAt (del H7 p) c x := fun {c x} e => del_of e fun z => by
          have e : H7 c = some (.tup [.str x.1, .str x.2]) := e
          rw [z, hy7] at e
          cases e
        have nEp : E0 ≠ p := (ne_of_none hy nE).symm
        have I : PrI (del H7 p) CQ CT W t N q tw r.1 E0 a b ls lg ts us gs rs r.2.1 r.2.2 := ⟨W4.keep k47, T4.keep k47, so, by omega, by omega, lgs, N4.keep k47, pm, as, Q4.keep k47, P4.keep k47, k7 _ _ hr6, del_of hE nEp, tp ha, tp hb, mx, my, ne⟩
        refine ⟨_, rfl, _, rfl, _, rfl, _, rfl, _, rfl, _, rfl, _, rfl, _, rfl, p, W, t, N, q, tw, r.1, E0, a, b, ls, lg, ts, us, gs, rs, r.2.1, r.2.2, n + 3100 + 100 * j, rfl, ⟨ys, hy7, hyu⟩, by omega, I, fun H8 b8 hp8 => ⟨_, rfl, ifF (by decide) ?_⟩⟩
        exact ⟨⟨_, _, _, rfl⟩, (b6.trans (Same.but s7)).trans b8, hp8.mono (by omega)⟩
    · rintro σ H6 ⟨⟨o6, o7, o8, rfl⟩, b6, hp6⟩
      have k6 : Same (del H5 p) (del H6 p) := dp_same b6
      have k46 := same_trans k5 k6
      have un : UnT H6 CQ CT q tw W ls lg t ts us gs := ⟨(Q4.keep k46).keep del_same, (P4.keep k46).keep del_same, (wt4.keep k46).keep del_same⟩
      refine ⟨_, rfl, _, rfl, _, rfl, _, rfl, q, tw, W, ls, lg, t, ts, us, gs, rfl, un, fun H7 s7 => ?_⟩
      exact z H7 ((b05.trans b6).trans (Same.but s7))
end
end K13
end
section
set_option Elab.async false
set_option linter.all false
set_option maxRecDepth 100000
set_option maxHeartbeats 8000000
namespace K13
open PySem PySem.Spec PyProof.Rows L2
abbrev NLaw : List Str := ["_law_script", "_law_purse_here"]
theorem scLaw : FnScope NLaw ["_law_script"] (defScope sLaw) := ⟨rfl, rfl, rfl, by decide +kernel, rfl, by decide +kernel, by decide +kernel⟩
section
variable {P : Program} {w : World} {K : PySem.W.Frag} {mg : Str → Option Value} {base : Heap} {CQ : Addr}
def spLaw (K : PySem.W.Frag) : Sp := fun vs H Q _ => ∃ (a : Addr) (ns : List Int), vs = [.ref a] ∧ SqL K H a (ns.map V.int) ∧ ∀ H', Q (.bl true) H'
/-- at the head of the turn i -/
def Pv (D : Addr) (ps : List Addr) (i : Nat) : L2.St → Hp → Prop := fun σ H => (∃ (o0 o1 : Option V), σ = [o0, o1]) ∧ H D = some (.lst (ps.map V.ref)) ∧
  ∀ j p, i ≤ j → ps[j]? = some p → Pu H p 0
theorem ok_law {f : Addr} {fd : FuncData} (F : FnP K "law" sLaw f fd) (T : Tx K mg) (pu : Fz P w K mg base "_law_purses" 2 ["_law_script", "_law_few"] (spPurses K)) (ri : Fz P w K mg base "_law_right" 10 ["_law_purse_here"] spRight) : FnOk P w K mg base CX0 11 f fd ["_law_script"] (spLaw K) := by
  refine F.ok scLaw (fun vs H Q E h => ?_) (fun cdv A outer s H vs Q E hr h => ?_)
  · obtain ⟨_, _, rfl, _⟩ := h
    rfl
  · obtain ⟨a, ns, rfl, hS, q⟩ := h
    have r2 : Room 2 (A.deeper (envOfC "law" (defScope sLaw) s.heap.objs.size f cdv)) := hr.mono (by decide)
    refine ⟨_, PSs.nox (pss_cons (ps_for PassesOwn.never rfl (pi_list (pe_fz pu r2 (by rfl) (pa_cons (pv 0) (pa_cons pe_int pa_nil)))) (pg_name (i := 1) scLaw.nd rfl (Or.inl rfl)) (pss_one (ps_if (pt_not (pt_val (pe_fz ri hr (by rfl) (pa_cons (pv 1) pa_nil)))) (pss_one (ps_ret pe_bl)) pss_nil)))
      (pss_one (ps_ret pe_bl))), ?_⟩
    refine ⟨_, rfl, a, ns, rfl, hS, fun D ps H1 hl nD hP => ⟨D, rfl, ⟨_, SqL.of hP.2.1⟩, ?_⟩⟩
    refine for_list (K := K) (a := D) (xs := ps.map V.ref) (Pv D ps) ⟨⟨_, _, rfl⟩, hP.2.1, fun j p _ e => ?_⟩ (fun i σ H' _ h => SqL.of h.2.1) (fun i x σ H' hx h => ?_) ?_
    · obtain ⟨_, _, xs, e2, e3⟩ := hP.2.2.2 p (List.mem_of_getElem? e)
      exact ⟨xs, e2, e3⟩
    · obtain ⟨p, hi, rfl⟩ := at_map hx
      obtain ⟨⟨o0, o1, rfl⟩, hD, hp⟩ := h
      have npD : p ≠ D := (hP.2.2.2 p (List.mem_of_getElem? hi)).2.1
      refine ⟨_, rfl, p, 0, rfl, hp i p (Nat.le_refl _) hi, by decide, fun H2 b => ⟨_, rfl, ifF (by decide) ?_⟩⟩
      refine ⟨⟨_, _, rfl⟩, b _ _ (Ne.symm npD) hD, fun j r hj hr' => ?_⟩
      obtain ⟨ys, hy, hv⟩ := hp j r (by omega) hr'
      refine ⟨ys, b _ _ (fun y => ?_) hy, hv⟩
      rw [y] at hr'
      have lt := (List.getElem?_eq_some_iff.mp hi).1
      have := (List.getElem?_inj lt hP.2.2.1).mp (hi.trans hr'.symm)
      omega
    · rintro σ H2 ⟨⟨o0, o1, rfl⟩, _, _⟩
      exact q H2
end
end K13
end
section
set_option Elab.async false
set_option linter.all false
set_option maxRecDepth 100000
set_option maxHeartbeats 4000000
namespace K13
open PySem PySem.Spec PyProof.Rows L2
section
variable {P : Program} {w : World} {K : PySem.W.Frag} {mg : Str → Option Value} {base : Heap}
theorem fz_of {x : Str} {st : Stmt} {ps : List Str} {k : Nat} {sp : Sp} {fd : FuncData} (F : FnP K x st (He.ga K x) fd) (ok : FnOk P w K mg base CX0 k (He.ga K x) fd ps sp) (hm : mg x = some (.ref (He.ga K x)))
    (h : ∀ (kV doc pm : Value) (an : Option Addr) (cdv ct : Value) (us : List Value), us.length = ps.length → bindArgs (PySem.W.fnOf x x (defArgs st) (defBody st) (defScope st) .none kV doc pm an cdv ct) ⟨us, []⟩ = pure (ps.zip us)) : Fz P w K mg base x k ps sp :=
  ⟨_, _, ok, hm, F.kp, F.bindsN h⟩
theorem mz_of {C : Addr} {m q : Str} {st : Stmt} {k : Nat} {sp : Sp} {fd : FuncData} (c : Cls K C) (M : Meth K C m (He.ma K C m)) (F : FnM K m q st (He.ma K C m) fd) (ok : FnOk P w K mg base CX0 k (He.ma K C m) fd ["self"] sp)
    (h : ∀ (kV doc pm : Value) (an : Option Addr) (cdv ct : Value) (us : List Value), us.length = 1 → bindArgs (PySem.W.fnOf m q (defArgs st) (defBody st) (defScope st) .none kV doc pm an cdv ct) ⟨us, []⟩ = pure ((["self"] : List Str).zip us)) : Mz P w K mg base C m k sp :=
  ⟨c, _, _, M, ok, F.bindsN h⟩
/-- what the law asks -/
structure LawE (P : Program) (w : World) (K : PySem.W.Frag) (mg : Str → Option Value) (base : Heap) : Prop where
  T : Tx K mg
  pu : Fz P w K mg base "_law_purses" 2 ["_law_script", "_law_few"] (spPurses K)
  ri : Fz P w K mg base "_law_right" 10 ["_law_purse_here"] spRight
theorem env_of (c : Says K) {h : Heap} (X : K.In h) (G : h.Ns mainGlobals mg) : LawE P w K mg base := by
  obtain ⟨T, gl, Z, nw1, nw2⟩ := tx_of X G c.chk
  have g : ∀ {x : Str}, x ∈ defs → mg x = some (.ref (He.ga K x)) := fun h => gl _ h
  obtain ⟨f0, F0⟩ := c.def_ 0 (d := dF "is_whole" sWhole)
  obtain ⟨f1, F1⟩ := c.def_ 1 (d := dF "is_count" sCount)
  obtain ⟨f2, F2⟩ := c.def_ 2 (d := dF "turned" sTurned)
  obtain ⟨f3, F3⟩ := c.def_ 3 (d := dF "shortest_rows" sShortest)
  obtain ⟨f4, F4⟩ := c.def_ 4 (d := dF "_is_better" sBetter)
  obtain ⟨f5, F5⟩ := c.def_ 5 (d := dF "is_word" sIsWord)
  obtain ⟨f6, F6⟩ := c.def_ 6 (d := dF "is_street" sIsStreet)
  obtain ⟨f7, F7⟩ := c.def_ 7 (d := dF "are_streets" sAreStreets)
  obtain ⟨f8, F8⟩ := c.def_ 8 (d := dF "check_streets" sChkStreets)
  obtain ⟨f9, F9⟩ := c.def_ 9 (d := dF "are_gates" sAreGates)
  obtain ⟨f10, F10⟩ := c.def_ 10 (d := dF "check_gates" sChkGates)
  obtain ⟨f11, F11⟩ := c.def_ 11 (d := dF "check_quarter" sChkQuarter)
  obtain ⟨f12, F12⟩ := c.def_ 12 (d := dF "check_town" sChkTown)
  obtain ⟨f13, F13⟩ := c.def_ 13 (d := dF "ends_of" sEndsOf)
  obtain ⟨f14, F14⟩ := c.def_ 14 (d := dF "crossings_of" sCrossings)
  obtain ⟨f15, F15⟩ := c.def_ 15 (d := dF "street_of" sStreetOf)
  obtain ⟨f16, F16⟩ := c.def_ 16 (d := dF "places_of" sPlacesOf)
  obtain ⟨f17, F17⟩ := c.def_ 17 (d := dF "asked_of" sAskedOf)
  obtain ⟨f18, F18⟩ := c.def_ 18 (d := dF "_place" sPlace_)
  obtain ⟨f19, F19⟩ := c.def_ 19 (d := dF "_side_streets" sSide)
  obtain ⟨f20, F20⟩ := c.def_ 20 (d := dF "streets_of_net" sNetStreets)
  obtain ⟨f21, F21⟩ := c.def_ 21 (d := dF "check_places" sChkPlaces)
  obtain ⟨f22, F22⟩ := c.def_ 22 (d := dF "asked_net" sAskedNet)
  obtain ⟨f23, F23⟩ := c.def_ 23 (d := dF "_best_way" sBestWay)
  obtain ⟨f24, F24⟩ := c.def_ 24 (d := dF "way_length" sWayLength)
  obtain ⟨f25, F25⟩ := c.def_ 25 (d := dF "used_streets" sUsed_)
  obtain ⟨f26, F26⟩ := c.def_ 26 (d := dF "needed_streets" sNeeded_)
  obtain ⟨f27, F27⟩ := c.def_ 27 (d := dF "_law_purse" sPurse)
  obtain ⟨f28, F28⟩ := c.def_ 28 (d := dF "_law_mixed" sMixed)
  obtain ⟨f29, F29⟩ := c.def_ 29 (d := dF "_law_draw" sDraw)
  obtain ⟨f30, F30⟩ := c.def_ 30 (d := dF "_law_purses" sPurses)
  obtain ⟨f31, F31⟩ := c.def_ 31 (d := dF "_law_one_of" sOneOf)
  obtain ⟨f32, F32⟩ := c.def_ 32 (d := dF "_law_shuffled" sShuffled)
  obtain ⟨f33, F33⟩ := c.def_ 33 (d := dF "_law_exact" sExact)
  obtain ⟨f34, F34⟩ := c.def_ 34 (d := dF "_law_word" sWord)
  obtain ⟨f35, F35⟩ := c.def_ 35 (d := dF "_law_words" sWords)
  obtain ⟨f36, F36⟩ := c.def_ 36 (d := dF "_law_width" sWidth)
  obtain ⟨f37, F37⟩ := c.def_ 37 (d := dF "_law_length" sLength)
  obtain ⟨f38, F38⟩ := c.def_ 38 (d := dF "_law_pair" sPair)
  obtain ⟨f39, F39⟩ := c.def_ 39 (d := dF "_law_shape" sShape)
  obtain ⟨f40, F40⟩ := c.def_ 40 (d := dF "_law_streets_of" sStreetsOf)
  obtain ⟨f41, F41⟩ := c.def_ 41 (d := dF "_law_world" sWorld)
  obtain ⟨f42, F42⟩ := c.def_ 42 (d := dF "_law_quarter" sQuarter)
  obtain ⟨f43, F43⟩ := c.def_ 43 (d := dF "_law_town_world" sTownWorld)
  obtain ⟨f44, F44⟩ := c.def_ 44 (d := dF "_law_place" sPlace)
  obtain ⟨f45, F45⟩ := c.def_ 45 (d := dF "_law_inner" sInner)
  obtain ⟨f46, F46⟩ := c.def_ 46 (d := dF "_law_net" sNet)
  obtain ⟨f47, F47⟩ := c.def_ 47 (d := dF "_law_places" sPlaces)
  obtain ⟨f48, F48⟩ := c.def_ 48 (d := dF "_law_asked" sAsked)
  obtain ⟨f49, F49⟩ := c.def_ 49 (d := dF "_law_shut" sShutW)
  obtain ⟨f50, F50⟩ := c.def_ 50 (d := dF "_law_far" sFar)
  obtain ⟨f51, F51⟩ := c.def_ 51 (d := dF "_law_ways" sWays)
  obtain ⟨f52, F52⟩ := c.def_ 52 (d := dF "_law_drawn_net" sDrawnNet)
  obtain ⟨f53, F53⟩ := c.def_ 53 (d := dF "_law_town" sTown)
  obtain ⟨f54, F54⟩ := c.def_ 54 (d := dF "_law_pairs" sPairs)
  obtain ⟨f55, F55⟩ := c.def_ 55 (d := dF "_law_ends_of" sEndsL)
  obtain ⟨f56, F56⟩ := c.def_ 56 (d := dF "_law_unspoilt" sUnspoilt)
  obtain ⟨f57, F57⟩ := c.def_ 57 (d := dF "_law_rows_of" sRowsOf)
  obtain ⟨f58, F58⟩ := c.def_ 58 (d := dF "_law_way_length" sWayLen)
  obtain ⟨f59, F59⟩ := c.def_ 59 (d := dF "_law_used" sUsed)
  obtain ⟨f60, F60⟩ := c.def_ 60 (d := dF "_law_shut_one" sShutOne)
  obtain ⟨f61, F61⟩ := c.def_ 61 (d := dF "_law_pair_right" sPairR)
  obtain ⟨f62, F62⟩ := c.def_ 62 (d := dF "_law_right" sRight)
  obtain ⟨m0, M0⟩ := c.def_ 64 (d := dM "Quarter" "__init__" "Quarter.__init__" sQInit)
  obtain ⟨m1, M1⟩ := c.def_ 65 (d := dM "Quarter" "streets" "Quarter.streets" sQStreets)
  obtain ⟨m2, M2⟩ := c.def_ 66 (d := dM "Quarter" "gates" "Quarter.gates" sQGates)
  obtain ⟨m3, M3⟩ := c.def_ 67 (d := dM "Quarter" "__eq__" "Quarter.__eq__" sQEq)
  obtain ⟨m4, M4⟩ := c.def_ 68 (d := dM "Town" "__init__" "Town.__init__" sTInit)
  obtain ⟨m5, M5⟩ := c.def_ 69 (d := dM "Town" "streets" "Town.streets" sTStreets)
  obtain ⟨m6, M6⟩ := c.def_ 70 (d := dM "Town" "__eq__" "Town.__eq__" sTEq)
  have F0 : FnP K "is_whole" sWhole (He.ga K "is_whole") f0 := F0
  have F1 : FnP K "is_count" sCount (He.ga K "is_count") f1 := F1
  have F2 : FnP K "turned" sTurned (He.ga K "turned") f2 := F2
  have F3 : FnP K "shortest_rows" sShortest (He.ga K "shortest_rows") f3 := F3
  have F4 : FnP K "_is_better" sBetter (He.ga K "_is_better") f4 := F4
  have F5 : FnP K "is_word" sIsWord (He.ga K "is_word") f5 := F5
  have F6 : FnP K "is_street" sIsStreet (He.ga K "is_street") f6 := F6
  have F7 : FnP K "are_streets" sAreStreets (He.ga K "are_streets") f7 := F7
  have F8 : FnP K "check_streets" sChkStreets (He.ga K "check_streets") f8 := F8
  have F9 : FnP K "are_gates" sAreGates (He.ga K "are_gates") f9 := F9
  have F10 : FnP K "check_gates" sChkGates (He.ga K "check_gates") f10 := F10
  have F11 : FnP K "check_quarter" sChkQuarter (He.ga K "check_quarter") f11 := F11
  have F12 : FnP K "check_town" sChkTown (He.ga K "check_town") f12 := F12
  have F13 : FnP K "ends_of" sEndsOf (He.ga K "ends_of") f13 := F13
  have F14 : FnP K "crossings_of" sCrossings (He.ga K "crossings_of") f14 := F14
  have F15 : FnP K "street_of" sStreetOf (He.ga K "street_of") f15 := F15
  have F16 : FnP K "places_of" sPlacesOf (He.ga K "places_of") f16 := F16
  have F17 : FnP K "asked_of" sAskedOf (He.ga K "asked_of") f17 := F17
  have F18 : FnP K "_place" sPlace_ (He.ga K "_place") f18 := F18
  have F19 : FnP K "_side_streets" sSide (He.ga K "_side_streets") f19 := F19
  have F20 : FnP K "streets_of_net" sNetStreets (He.ga K "streets_of_net") f20 := F20
  have F21 : FnP K "check_places" sChkPlaces (He.ga K "check_places") f21 := F21
  have F22 : FnP K "asked_net" sAskedNet (He.ga K "asked_net") f22 := F22
  have F23 : FnP K "_best_way" sBestWay (He.ga K "_best_way") f23 := F23
  have F24 : FnP K "way_length" sWayLength (He.ga K "way_length") f24 := F24
  have F25 : FnP K "used_streets" sUsed_ (He.ga K "used_streets") f25 := F25
  have F26 : FnP K "needed_streets" sNeeded_ (He.ga K "needed_streets") f26 := F26
  have F27 : FnP K "_law_purse" sPurse (He.ga K "_law_purse") f27 := F27
  have F28 : FnP K "_law_mixed" sMixed (He.ga K "_law_mixed") f28 := F28
  have F29 : FnP K "_law_draw" sDraw (He.ga K "_law_draw") f29 := F29
  have F30 : FnP K "_law_purses" sPurses (He.ga K "_law_purses") f30 := F30
  have F31 : FnP K "_law_one_of" sOneOf (He.ga K "_law_one_of") f31 := F31
  have F32 : FnP K "_law_shuffled" sShuffled (He.ga K "_law_shuffled") f32 := F32
  have F33 : FnP K "_law_exact" sExact (He.ga K "_law_exact") f33 := F33
  have F34 : FnP K "_law_word" sWord (He.ga K "_law_word") f34 := F34
  have F35 : FnP K "_law_words" sWords (He.ga K "_law_words") f35 := F35
  have F36 : FnP K "_law_width" sWidth (He.ga K "_law_width") f36 := F36
  have F37 : FnP K "_law_length" sLength (He.ga K "_law_length") f37 := F37
  have F38 : FnP K "_law_pair" sPair (He.ga K "_law_pair") f38 := F38
  have F39 : FnP K "_law_shape" sShape (He.ga K "_law_shape") f39 := F39
  have F40 : FnP K "_law_streets_of" sStreetsOf (He.ga K "_law_streets_of") f40 := F40
  have F41 : FnP K "_law_world" sWorld (He.ga K "_law_world") f41 := F41
  have F42 : FnP K "_law_quarter" sQuarter (He.ga K "_law_quarter") f42 := F42
  have F43 : FnP K "_law_town_world" sTownWorld (He.ga K "_law_town_world") f43 := F43
  have F44 : FnP K "_law_place" sPlace (He.ga K "_law_place") f44 := F44
  have F45 : FnP K "_law_inner" sInner (He.ga K "_law_inner") f45 := F45
  have F46 : FnP K "_law_net" sNet (He.ga K "_law_net") f46 := F46
  have F47 : FnP K "_law_places" sPlaces (He.ga K "_law_places") f47 := F47
  have F48 : FnP K "_law_asked" sAsked (He.ga K "_law_asked") f48 := F48
  have F49 : FnP K "_law_shut" sShutW (He.ga K "_law_shut") f49 := F49
  have F50 : FnP K "_law_far" sFar (He.ga K "_law_far") f50 := F50
  have F51 : FnP K "_law_ways" sWays (He.ga K "_law_ways") f51 := F51
  have F52 : FnP K "_law_drawn_net" sDrawnNet (He.ga K "_law_drawn_net") f52 := F52
  have F53 : FnP K "_law_town" sTown (He.ga K "_law_town") f53 := F53
  have F54 : FnP K "_law_pairs" sPairs (He.ga K "_law_pairs") f54 := F54
  have F55 : FnP K "_law_ends_of" sEndsL (He.ga K "_law_ends_of") f55 := F55
  have F56 : FnP K "_law_unspoilt" sUnspoilt (He.ga K "_law_unspoilt") f56 := F56
  have F57 : FnP K "_law_rows_of" sRowsOf (He.ga K "_law_rows_of") f57 := F57
  have F58 : FnP K "_law_way_length" sWayLen (He.ga K "_law_way_length") f58 := F58
  have F59 : FnP K "_law_used" sUsed (He.ga K "_law_used") f59 := F59
  have F60 : FnP K "_law_shut_one" sShutOne (He.ga K "_law_shut_one") f60 := F60
  have F61 : FnP K "_law_pair_right" sPairR (He.ga K "_law_pair_right") f61 := F61
  have F62 : FnP K "_law_right" sRight (He.ga K "_law_right") f62 := F62
  have M0 : FnM K "__init__" "Quarter.__init__" sQInit (He.ma K (qA K) "__init__") m0 := M0
  have M1 : FnM K "streets" "Quarter.streets" sQStreets (He.ma K (qA K) "streets") m1 := M1
  have M2 : FnM K "gates" "Quarter.gates" sQGates (He.ma K (qA K) "gates") m2 := M2
  have M3 : FnM K "__eq__" "Quarter.__eq__" sQEq (He.ma K (qA K) "__eq__") m3 := M3
  have M4 : FnM K "__init__" "Town.__init__" sTInit (He.ma K (tA K) "__init__") m4 := M4
  have M5 : FnM K "streets" "Town.streets" sTStreets (He.ma K (tA K) "streets") m5 := M5
  have M6 : FnM K "__eq__" "Town.__eq__" sTEq (He.ma K (tA K) "__eq__") m6 := M6
  have GD : FnOk P w K mg base CX0 2 (He.ga K "_law_draw") f29 ["_law_purse_here", "_law_many"] spDraw := ok_draw F29 F28 (g (by decide +kernel)) T
  have ZD : DrawZ P w K mg base := fz_of F29 GD (g (by decide +kernel)) fun _ _ _ _ _ _ us hl => match us, hl with | [_, _], _ => rfl
  have ZPu : Fz P w K mg base "_law_purses" 2 ["_law_script", "_law_few"] (spPurses K) := fz_of F30 (ok_purses F30 F27 (g (by decide +kernel)) T) (g (by decide +kernel)) fun _ _ _ _ _ _ us hl => match us, hl with | [_, _], _ => rfl
  have ZO : OneZ P w K mg base := fz_of F31 (ok_oneOf F31 GD F29 (g (by decide +kernel)) T) (g (by decide +kernel)) fun _ _ _ _ _ _ us hl => match us, hl with | [_, _], _ => rfl
  have ZSh : Fz P w K mg base "_law_shuffled" 3 ["_law_purse_here", "_law_some"] spShuffled := fz_of F32 (ok_shuffled F32 ZD T) (g (by decide +kernel)) fun _ _ _ _ _ _ us hl => match us, hl with | [_, _], _ => rfl
  have bE : Binds K f33 ["_law_one", "_law_other"] [] := F33.bindsN fun _ _ _ _ _ _ us hl => match us, hl with | [_, _], _ => rfl
  have ZE : Fz P w K mg base "_law_exact" 7 ["_law_one", "_law_other"] (spExact 6) := ⟨_, _, ok_exact F33 (g (by decide +kernel)) F33.kp bE T 6, g (by decide +kernel), F33.kp, bE⟩
  have ZXP : ExPZ P w K mg base := ⟨_, _, ok_exP F33 (g (by decide +kernel)) F33.kp bE T, g (by decide +kernel), F33.kp, bE⟩
  have ZW : WordZ P w K mg base := fz_of F34 (ok_word F34 GD F29 (g (by decide +kernel)) T) (g (by decide +kernel)) fun _ _ _ _ _ _ us hl => match us, hl with | [_], _ => rfl
  have ZWs : Fz P w K mg base "_law_words" 4 ["_law_purse_here", "_law_many"] spWords := fz_of F35 (ok_words F35 ZD ZW T) (g (by decide +kernel)) fun _ _ _ _ _ _ us hl => match us, hl with | [_, _], _ => rfl
  have ZWi : WidthZ P w K mg base := fz_of F36 (ok_width F36 ZO) (g (by decide +kernel)) fun _ _ _ _ _ _ us hl => match us, hl with | [_], _ => rfl
  have ZLe : LengthZ P w K mg base := fz_of F37 (ok_length F37 ZO) (g (by decide +kernel)) fun _ _ _ _ _ _ us hl => match us, hl with | [_], _ => rfl
  have ZPa : PairZ P w K mg base := fz_of F38 (ok_pair F38 ZO) (g (by decide +kernel)) fun _ _ _ _ _ _ us hl => match us, hl with | [_, _], _ => rfl
  have ZSp : Fz P w K mg base "_law_shape" 3 ["_law_purse_here", "_law_gates", "_law_inner_here"] spShape := fz_of F39 (ok_shape F39 ZD T) (g (by decide +kernel)) fun _ _ _ _ _ _ us hl => match us, hl with | [_, _, _], _ => rfl
  have ZSt : Fz P w K mg base "_law_streets_of" 5 ["_law_purse_here", "_law_crossings", "_law_names", "_law_pairs_here", "_law_many"] spStreetsOf := fz_of F40 (ok_streetsOf F40 ZD ZO ZPa ZWi ZLe T) (g (by decide +kernel)) fun _ _ _ _ _ _ us hl => match us, hl with | [_, _, _, _, _], _ => rfl
  have ZWo : Fz P w K mg base "_law_world" 6 ["_law_purse_here", "_law_gates", "_law_inner_here", "_law_top"] spWorld := fz_of F41 (ok_world F41 ZD ZWs ZSh ZSp ZSt T) (g (by decide +kernel)) fun _ _ _ _ _ _ us hl => match us, hl with | [_, _, _, _], _ => rfl
  have ZTw : Fz P w K mg base "_law_town_world" 6 ["_law_purse_here", "_law_world_here", "_law_own", "_law_top"] spTownWorld := fz_of F43 (ok_townWorld F43 ZD ZWs ZSh ZSt T) (g (by decide +kernel)) fun _ _ _ _ _ _ us hl => match us, hl with | [_, _, _, _], _ => rfl
  -- the program
  have ZWh : Fz P w K mg base "is_whole" 1 ["value"] spIsWhole := fz_of F0 (ok_isWhole F0 T) (g (by decide +kernel)) fun _ _ _ _ _ _ us hl => match us, hl with | [_], _ => rfl
  have ZC : Fz P w K mg base "is_count" 2 ["value"] spIsCount := fz_of F1 (ok_isCount F1 ZWh T) (g (by decide +kernel)) fun _ _ _ _ _ _ us hl => match us, hl with | [_], _ => rfl
  have ZIw : Fz P w K mg base "is_word" 1 ["value"] spIsWord := fz_of F5 (ok_isWord F5 T) (g (by decide +kernel)) fun _ _ _ _ _ _ us hl => match us, hl with | [_], _ => rfl
  have ZIs : Fz P w K mg base "is_street" 3 ["value"] spIsStreet := fz_of F6 (ok_isStreet F6 ZC ZIw T) (g (by decide +kernel)) fun _ _ _ _ _ _ us hl => match us, hl with | [_], _ => rfl
  have ZAs : Fz P w K mg base "are_streets" 4 ["value"] (spAreStreets K) := fz_of F7 (ok_areStreets F7 ZIs T) (g (by decide +kernel)) fun _ _ _ _ _ _ us hl => match us, hl with | [_], _ => rfl
  have ZCs : Fz P w K mg base "check_streets" 5 ["value"] (spChkStreets K) := fz_of F8 (ok_chkStreets F8 ZAs T) (g (by decide +kernel)) fun _ _ _ _ _ _ us hl => match us, hl with | [_], _ => rfl
  have ZAg : Fz P w K mg base "are_gates" 2 ["value"] spAreGates := fz_of F9 (ok_areGates F9 ZIw T) (g (by decide +kernel)) fun _ _ _ _ _ _ us hl => match us, hl with | [_], _ => rfl
  have ZCg : Fz P w K mg base "check_gates" 3 ["value"] spChkGates := fz_of F10 (ok_chkGates F10 ZAg T) (g (by decide +kernel)) fun _ _ _ _ _ _ us hl => match us, hl with | [_], _ => rfl
  have MQ : MkQ P w K mg base (qA K) := mkQ_of M0 Z.q.mkr Z.mQ (ok_qInit M0 Z.q ZCs ZCg T)
  have MT : MkT P w K mg base (tA K) := mkT_of M4 Z.t.mkr Z.mT (ok_tInit M4 Z.t ZCs T)
  have QS : Mz P w K mg base (qA K) "streets" 1 (spFld (qA K) "_streets") := mz_of Z.q.cl Z.qs M1 (ok_qStreets M1 Z.q T) fun _ _ _ _ _ _ us hl => match us, hl with | [_], _ => rfl
  have QG : Mz P w K mg base (qA K) "gates" 1 (spFld (qA K) "_gates") := mz_of Z.q.cl Z.qg M2 (ok_qGates M2 Z.q T) fun _ _ _ _ _ _ us hl => match us, hl with | [_], _ => rfl
  have TS : Mz P w K mg base (tA K) "streets" 1 (spFld (tA K) "_streets") := mz_of Z.t.cl Z.ts M5 (ok_tStreets M5 Z.t T) fun _ _ _ _ _ _ us hl => match us, hl with | [_], _ => rfl
  have EZ : EqZ P w K mg base (qA K) (tA K) := ⟨_, _, _, _, _, _, _, _, _, Z, ok_qEq M3 Z T, FunD.bindsN M3 fun _ _ _ _ _ _ us hl => match us, hl with | [_, _], _ => rfl, ok_tEq M6 Z T, FunD.bindsN M6 fun _ _ _ _ _ _ us hl => match us, hl with | [_, _], _ => rfl⟩
  have ms : Ms P w K mg base (qA K) (tA K) := ⟨QS, QG, TS, fz_of F11 (ok_chkQ F11 Z.q Z.mQ T) (g (by decide +kernel)) fun _ _ _ _ _ _ us hl => match us, hl with | [_], _ => rfl, fz_of F12 (ok_chkT F12 Z.t Z.mT T) (g (by decide +kernel)) fun _ _ _ _ _ _ us hl => match us, hl with | [_], _ => rfl, fz_of F13 (ok_endsOf F13 T) (g (by decide +kernel)) fun _ _ _ _ _ _ us hl => match us, hl with | [_], _ => rfl⟩
  have ZPl : Fz P w K mg base "places_of" 2 ["town"] (spPlaces (tA K)) := fz_of F16 (ok_places F16 ms T) (g (by decide +kernel)) fun _ _ _ _ _ _ us hl => match us, hl with | [_], _ => rfl
  have ZCr : Fz P w K mg base "crossings_of" 2 ["quarter"] (spCross (qA K)) := fz_of F14 (ok_cross F14 ms T) (g (by decide +kernel)) fun _ _ _ _ _ _ us hl => match us, hl with | [_], _ => rfl
  have ZAk : Fz P w K mg base "asked_of" 3 ["quarter", "town"] (spAsked (qA K) (tA K)) := fz_of F17 (ok_asked F17 ms ZPl T) (g (by decide +kernel)) fun _ _ _ _ _ _ us hl => match us, hl with | [_, _], _ => rfl
  have ZSo : Fz P w K mg base "street_of" 2 ["quarter", "name"] (spStreetOf (qA K)) := fz_of F15 (ok_streetOf F15 ms T) (g (by decide +kernel)) fun _ _ _ _ _ _ us hl => match us, hl with | [_, _], _ => rfl
  have ak : AkZ P w K mg base (qA K) (tA K) := ⟨ms, ZPl, ZCr, ZAk, ZSo, T⟩
  have ZPp : Fz P w K mg base "_place" 1 ["side", "word", "gates"] spPl := fz_of F18 (ok_pl F18) (g (by decide +kernel)) fun _ _ _ _ _ _ us hl => match us, hl with | [_, _, _], _ => rfl
  have ZSd : Fz P w K mg base "_side_streets" 2 ["side", "streets", "gates"] spSide := fz_of F19 (ok_side F19 ZPp) (g (by decide +kernel)) fun _ _ _ _ _ _ us hl => match us, hl with | [_, _, _], _ => rfl
  have ZNs : Fz P w K mg base "streets_of_net" 3 ["quarter", "town"] (spNetS (qA K) (tA K)) := fz_of F20 (ok_netS F20 ms ZSd) (g (by decide +kernel)) fun _ _ _ _ _ _ us hl => match us, hl with | [_, _], _ => rfl
  have ZCp : Fz P w K mg base "check_places" 1 ["words", "start", "goal"] spChkP := fz_of F21 (ok_chkP F21) (g (by decide +kernel)) fun _ _ _ _ _ _ us hl => match us, hl with | [_, _, _], _ => rfl
  have ZAn : ANZ P w K mg base (qA K) (tA K) := fz_of F22 (ok_aNet2 (ok_aNet F22 ms ZAk ZCp ZNs ZPp)) (g (by decide +kernel)) fun _ _ _ _ _ _ us hl => match us, hl with | [_, _, _, _], _ => rfl
  have ZTd : Fz P w K mg base "turned" 1 ["streets"] spTurned := fz_of F2 (ok_turned F2) (g (by decide +kernel)) fun _ _ _ _ _ _ us hl => match us, hl with | [_], _ => rfl
  have ZBt : Fz P w K mg base "_is_better" 1 ["row", "other"] spBetter := fz_of F4 (ok_better F4 T) (g (by decide +kernel)) fun _ _ _ _ _ _ us hl => match us, hl with | [_, _], _ => rfl
  have ZRw : Fz P w K mg base "shortest_rows" 2 ["streets", "origins"] spRows := fz_of F3 (ok_rows F3 T ZBt) (g (by decide +kernel)) fun _ _ _ _ _ _ us hl => match us, hl with | [_, _], _ => rfl
  have ZBw : Fz P w K mg base "_best_way" 3 ["streets", "start", "goal"] (spBest K) := fz_of F23 (ok_best F23 ⟨nw1, nw2⟩ ZRw) (g (by decide +kernel)) fun _ _ _ _ _ _ us hl => match us, hl with | [_, _, _], _ => rfl
  have ZWl : Fz P w K mg base "way_length" 5 ["quarter", "town", "start", "goal"] (spWay (qA K) (tA K)) := fz_of F24 (ok_way F24 ZAn ZBw) (g (by decide +kernel)) fun _ _ _ _ _ _ us hl => match us, hl with | [_, _, _, _], _ => rfl
  have ZUs : Fz P w K mg base "used_streets" 5 ["quarter", "town", "start", "goal"] (spUse (qA K) (tA K)) := fz_of F25 (ok_used F25 ZAn ZRw ZTd) (g (by decide +kernel)) fun _ _ _ _ _ _ us hl => match us, hl with | [_, _, _, _], _ => rfl
  have ZNd : Fz P w K mg base "needed_streets" 6 ["quarter", "town", "start", "goal"] (spNeed (qA K) (tA K)) := fz_of F26 (ok_needed F26 ZAn ZBw ZUs) (g (by decide +kernel)) fun _ _ _ _ _ _ us hl => match us, hl with | [_, _, _, _], _ => rfl
  -- the law
  have ZLp : Fz P w K mg base "_law_place" 1 ["_law_world_here", "_law_word_here"] (spLPl "town") := fz_of F44 (ok_lpl F44) (g (by decide +kernel)) fun _ _ _ _ _ _ us hl => match us, hl with | [_, _], _ => rfl
  have ZLi : Fz P w K mg base "_law_inner" 1 ["_law_world_here", "_law_word_here"] (spLPl "quarter") := fz_of F45 (ok_lin F45) (g (by decide +kernel)) fun _ _ _ _ _ _ us hl => match us, hl with | [_, _], _ => rfl
  have ZLn : Fz P w K mg base "_law_net" 2 ["_law_world_here", "_law_town_here"] spLNet := fz_of F46 (ok_lnet F46 ZLi ZLp T) (g (by decide +kernel)) fun _ _ _ _ _ _ us hl => match us, hl with | [_, _], _ => rfl
  have ZLps : Fz P w K mg base "_law_places" 3 ["_law_world_here", "_law_town_here"] spLPls := fz_of F47 (ok_lpls F47 ZLn T) (g (by decide +kernel)) fun _ _ _ _ _ _ us hl => match us, hl with | [_, _], _ => rfl
  have ZLak : Fz P w K mg base "_law_asked" 4 ["_law_world_here", "_law_town_here"] spLAsk := fz_of F48 (ok_lask F48 ZLps T) (g (by decide +kernel)) fun _ _ _ _ _ _ us hl => match us, hl with | [_, _], _ => rfl
  have ZDn : Fz P w K mg base "_law_drawn_net" 7 ["_law_purse_here"] spDrawn := fz_of F52 (ok_drawnNet F52 ZD ZO ZWo ZTw) (g (by decide +kernel)) fun _ _ _ _ _ _ us hl => match us, hl with | [_], _ => rfl
  have ZLq : Fz P w K mg base "_law_quarter" 8 ["_law_world_here"] (spLQuarter (qA K)) := fz_of F42 (ok_lQuarter F42 MQ T) (g (by decide +kernel)) fun _ _ _ _ _ _ us hl => match us, hl with | [_], _ => rfl
  have ZLt : Fz P w K mg base "_law_town" 8 ["_law_town_here"] (spLTown (tA K)) := fz_of F53 (ok_lTown F53 MT T) (g (by decide +kernel)) fun _ _ _ _ _ _ us hl => match us, hl with | [_], _ => rfl
  have ZPs : Fz P w K mg base "_law_pairs" 5 ["_law_purse_here", "_law_world_here", "_law_town_here", "_law_many"] spPairs := fz_of F54 (ok_pairs F54 ZLak ZSh) (g (by decide +kernel)) fun _ _ _ _ _ _ us hl => match us, hl with | [_, _, _, _], _ => rfl
  have ZEo : Fz P w K mg base "_law_ends_of" 1 ["_law_streets"] spEndsL := fz_of F55 (ok_endsOfL F55 T) (g (by decide +kernel)) fun _ _ _ _ _ _ us hl => match us, hl with | [_], _ => rfl
  have ZUn : Fz P w K mg base "_law_unspoilt" 9 ["_law_quarter_here", "_law_town_of", "_law_world_here", "_law_town_here"] (spUnsp (qA K) (tA K)) := fz_of F56 (ok_unspoilt F56 ak ZEo ZLak ZE ZLq ZLt EZ) (g (by decide +kernel)) fun _ _ _ _ _ _ us hl => match us, hl with | [_, _, _, _], _ => rfl
  have ZFa : FarZ P w K mg base := fz_of F50 (ok_far F50 T) (g (by decide +kernel)) fun _ _ _ _ _ _ us hl => match us, hl with | [_, _], _ => rfl
  have ZLu : Fz P w K mg base "_law_used" 2 ["_law_net_here", "_law_ends"] spLUsed := fz_of F59 (ok_lused F59 ZFa) (g (by decide +kernel)) fun _ _ _ _ _ _ us hl => match us, hl with | [_, _], _ => rfl
  have ZWy : Fz P w K mg base "_law_ways" 1 ["_law_net_here", "_law_start", "_law_goal", "_law_top"] spWays := fz_of F51 (ok_ways F51 T) (g (by decide +kernel)) fun _ _ _ _ _ _ us hl => match us, hl with | [_, _, _, _], _ => rfl
  have ZRo : Fz P w K mg base "_law_rows_of" 3 ["_law_net_here", "_law_value"] spRowsOf := fz_of F57 (ok_rowsOf F57 ZXP T) (g (by decide +kernel)) fun _ _ _ _ _ _ us hl => match us, hl with | [_, _], _ => rfl
  have ZWL : Fz P w K mg base "_law_way_length" 4 ["_law_net_here", "_law_way"] spWlL := fz_of F58 (ok_wlL F58 ZRo T) (g (by decide +kernel)) fun _ _ _ _ _ _ us hl => match us, hl with | [_, _], _ => rfl
  have ZS : Fz P w K mg base "_law_shut" 1 ["_law_world_here", "_law_names"] spShut := fz_of F49 (ok_shut F49) (g (by decide +kernel)) fun _ _ _ _ _ _ us hl => match us, hl with | [_, _], _ => rfl
  have ZS1 : Fz P w K mg base "_law_shut_one" 2 ["_law_world_here", "_law_town_here", "_law_key"] spShut1 := fz_of F60 (ok_shut1 F60 ZS) (g (by decide +kernel)) fun _ _ _ _ _ _ us hl => match us, hl with | [_, _, _], _ => rfl
  have CP : PrZ P w K mg base (qA K) (tA K) := ⟨ZFa, ZLu, ZUs, ZNd, ZE, ZWy, ZWL, ZSh, ZS1, ZWl, ZLq, ZLt, T⟩
  have ZPr : Fz P w K mg base "_law_pair_right" 9 ["_law_purse_here", "_law_world_here", "_law_town_here", "_law_net_here", "_law_quarter_here", "_law_town_of", "_law_pair_here", "_law_ends"] (spPairR (qA K) (tA K)) := fz_of F61 (ok_pairR F61 CP) (g (by decide +kernel)) fun _ _ _ _ _ _ us hl => match us, hl with | [_, _, _, _, _, _, _, _], _ => rfl
  have CR : RiZ P w K mg base (qA K) (tA K) := ⟨ZDn, ZLq, ZLt, ZLn, ZPs, ZLp, ZPr, ZUn⟩
  exact ⟨T, ZPu, fz_of F62 (ok_right F62 CR) (g (by decide +kernel)) fun _ _ _ _ _ _ us hl => match us, hl with | [_], _ => rfl⟩
theorem facts {h : Heap} {f : Addr} (X : K.In h) (G : h.Ns mainGlobals mg) (hfa : mg ("law" : Str) = some (.ref f)) (c : Says K) :
    ∃ fd : FuncData, (∀ (s : Shared) (v : Value), BindsTo s fd ⟨[v], []⟩ [("_law_script", v)]) ∧ ∀ base : Heap, FnOk P w K mg base CX0 11 f fd ["_law_script"] (spLaw K) := by
  obtain ⟨T, gl, Z, _⟩ := tx_of X G c.chk
  obtain ⟨fd, F⟩ := c.def_ 63 (d := dF "law" sLaw)
  have F : FnP K "law" sLaw (He.ga K "law") fd := F
  have e := hfa.symm.trans (gl "law" (by decide +kernel))
  cases e
  have b := FunD.bindsA (ps := ["_law_script"]) F fun _ _ _ _ _ _ us hl => match us, hl with | [_], _ => rfl
  exact ⟨fd, fun s v => b s [v] rfl, fun base => let E := env_of (P := P) (w := w) (base := base) c X G; ok_law F E.T E.pu E.ri⟩
end
end K13
end
section
open PySem PySem.W PySem.Calls PyProof.Rows
set_option Elab.async false
set_option linter.all false
set_option maxRecDepth 100000
set_option maxHeartbeats 0
theorem PySem.Challenge.cw_gatequarters_k13_whole_used_and_needed_s_holds : PySem.Challenge.rw_gatequarters_k13_whole_used_and_needed_s.Holds := by
  w_on; o_law
  refine HandSHeadRun.head_any (r := OpenLaw.row PySem.Challenge.rw_gatequarters_k13_whole_used_and_needed_s) (q := view (OpenLaw.row PySem.Challenge.rw_gatequarters_k13_whole_used_and_needed_s).prog [80]) (H := K13.hk) (ob := K13.ob) (M := 12000) (loose := K13.names) (d := HandSHeadRun.topDef (OpenLaw.row PySem.Challenge.rw_gatequarters_k13_whole_used_and_needed_s).prog 80) (kwd := []) K13.ob_eq
    (by kernel_rfl) (fun s => by kernel_rfl) K13.run (by kernel_rfl) (by kernel_rfl) (by kernel_rfl) (by rfl) (by first | assumption | decide +kernel) (by decide +kernel) ⟨rfl, rfl, rfl, rfl, rfl, by decide +kernel⟩ ?hw ?hc
  case hw => w_witness2
  case hc =>
    refine L2.walk_ofE (l := PySem.Challenge.rw_gatequarters_k13_whole_used_and_needed_s) (n := 63) (k := 11) (CX := L2.CX0) (x := "_law_script") rfl (by decide) (by kernel_rfl) ⟨rfl, by decide, by decide⟩ ?F (fun _ _ _ _ h => h)
    intro w mg fa h Y G hmg0
    obtain ⟨K, KX, c⟩ := Y
    have hmg : mg ("law" : PySem.Str) = some (.ref fa) := by
      have e : (HandSHeadRun.topDef (OpenLaw.row PySem.Challenge.rw_gatequarters_k13_whole_used_and_needed_s).prog 80).name = ("law" : PySem.Str) := by kernel_rfl
      rw [← e]
      exact hmg0
    obtain ⟨fd, hb, hF⟩ := K13.facts (P := (PySem.Challenge.rw_gatequarters_k13_whole_used_and_needed_s).prog) (w := w) KX G hmg c
    exact ⟨K, fd, K13.spLaw K, KX, hb, fun H a ns hl _ hS => ⟨a, ns, rfl, hS, fun _ => rfl⟩, fun base _ _ => hF base⟩
end
