import PyProof.Rows.All
import Wide.All
import OpenK.AllK
import Wide.FinOn
import HandS.ForMost
import HandS.Set
import HandS.SetBool
import HandS.SortRule
import HandS.SetFor
import HandS.SortInts
import HandS.Flow
import HandS.Style
import HandS.More
import HandS.MakeKw
import HandS.MakeKwOnly
import HandS.WideBits
import HandS.Defaults
import HandS.TupAny
import HandS.Codes
import HandS.IsInst
import PyProof.ListStr
import HandS.Conv
import HandS.Walk
import HandS.Zip
import PyProof.InstNe
import HandS.OwnEq
import HandS.Dict
import HandS.Deep
import HandS.RevTup
import HandS.Rev
import KE.KStateDown
import HandS.Head0
import HandS.Head1
import HandS.Head2
import HandS.HeadEnd
import HandS.HeadHook1
import HandS.HeadHook2
import PySem.Challenge.RW_gatequarters_k81_whole_stages
section
set_option Elab.async false
set_option linter.all false
set_option maxRecDepth 100000
set_option maxHeartbeats 4000000
/-! sorted(l) of tuples whose first item is a text, no text twice. -/
namespace SrtX
open PySem PyProof.Rows Srt
open SrtO hiding Str
abbrev ltS (x y : Str) : Bool := decide (x.cps.toList < y.cps.toList)
theorem swo_str : Swo ltS := by
  refine ⟨fun x y h => ?_, fun x y z h1 h2 => ?_⟩
  · have a := of_decide_eq_true h
    exact decide_eq_false (fun b => List.lt_irrefl _ (List.lt_trans a b))
  · have a := List.not_lt.mp (of_decide_eq_false h1)
    have b := List.not_lt.mp (of_decide_eq_false h2)
    exact decide_eq_false (List.not_lt.mpr (List.le_trans a b))
theorem swo_by {α : Type} (k : α → Str) : Swo fun v u => ltS (k v) (k u) := ⟨fun x y => swo_str.asym (k x) (k y), fun x y z => swo_str.tr (k x) (k y) (k z)⟩
section
variable {prog : Program} {w : World} {A : Around} {E : Value → Shared → Prop} {s : Shared}
/-- v is a tuple whose first item is the text x -/
def IsTx (h : Heap) (v : Value) (x : Str) : Prop := ∃ a o t r n, v = .ref a ∧ h.get? a = some o ∧ o.cls = .type "tuple" ∧ o.data = .seq (.str x t :: r).toArray n
theorem IsTx.keeps {h h' : Heap} {v : Value} {x : Str} (p : IsTx h v x) (k : ∀ b o, h.get? b = some o → o.cls = .type "tuple" → h'.get? b = some o) : IsTx h' v x := by
  obtain ⟨a, o, t, r, n, e, ho, hc, hd⟩ := p
  exact ⟨a, o, t, r, n, e, k _ _ ho hc, hc, hd⟩
theorem kat_self {b fin : Bool} {Q : Bool → Shared → Prop} (h : Q fin s) : ∀ (l : List Value) (i : Nat), PySem.W.KatLex prog w A b fin Q (l.zip l) i s
  | [], _ => PySem.W.kat_nil h
  | v :: l, i => PySem.W.kat_cons (SeqAt.EqAt.same v prog w _ _ (PySem.W.kat_yes (kat_self h l (i + 1))))
theorem tx_cmp {vs : List Value} {k : Value → Str} (hp : ∀ v ∈ vs, IsTx s.heap v (k v)) (hu : ∀ v ∈ vs, ∀ u ∈ vs, k v = k u → v = u) : Cmp prog w A s (tuples' true) (fun p => p.1 ∈ vs) (lt2 fun v u => ltS (k v) (k u)) := by
  intro p q hm hm'
  show wpAny (model prog w) A (keyLt' (tuples' true) p.1 q.1) (fun r s' => s' = s ∧ r = ltS (k p.1) (k q.1)) (fun _ _ => False) s
  have h1 := hp _ hm
  have h2 := hp _ hm'
  by_cases e : k p.1 = k q.1
  · have ev := hu _ hm _ hm' e
    rw [← ev]
    obtain ⟨a, o, t, r, n, e1, ho, hc, hd⟩ := h1
    rw [e1]
    refine PySem.W.kat_lt ho hd ho hd (kat_self ⟨rfl, ?_⟩ _ 0)
    rw [decide_eq_false (Nat.lt_irrefl _)]
    exact (decide_eq_false (List.lt_irrefl _)).symm
  · generalize k p.1 = x at h1 e ⊢
    generalize k q.1 = y at h2 e ⊢
    obtain ⟨a, o, t, r, n, e1, ho, hc, hd⟩ := h1
    obtain ⟨a', o', t', r', n', e2, ho', hc', hd'⟩ := h2
    rw [e1, e2]
    refine PySem.W.kat_lt ho hd ho' hd' ?_
    show PySem.W.KatLex prog w A true _ _ ((Value.str x t, Value.str y t') :: r.zip r') 0 s
    refine PySem.W.kat_cons (SeqAt.EqAt.str_str x t y t' prog w _ _ ?_)
    refine PySem.W.kat_go (fun e3 => absurd (by simpa using e3) e) (fun e3 => ?_)
    exact PySem.W.kat_no (oneLt_str ⟨rfl, rfl⟩)
theorem firstsX_of {h : Heap} : ∀ {vs : List Value}, (∀ v ∈ vs, ∃ x, IsTx h v x) → ∃ fs : List Value, PySem.W.KatTups h vs fs ∧ fs.length = vs.length ∧ ∀ f ∈ fs, ∃ x t, f = Value.str x t
  | [], _ => ⟨[], PySem.W.KatTups.nil, rfl, fun _ hm => by simp at hm⟩
  | v :: vs, hp => by
    obtain ⟨fs, h1, h2, h3⟩ := firstsX_of (vs := vs) fun v' hm => hp v' (List.mem_cons_of_mem _ hm)
    obtain ⟨x, a, o, t, r, n, e, ho, hc, hd⟩ := hp v (List.mem_cons_self ..)
    subst e
    refine ⟨.str x t :: fs, PySem.W.KatTups.cons ho hc hd rfl h1, by rw [List.length_cons, List.length_cons, h2], fun f hm => ?_⟩
    rcases List.mem_cons.mp hm with rfl | hm
    · exact ⟨x, t, rfl⟩
    · exact h3 f hm
theorem tx_sortableO {a : Addr} {vs : List Value} {k : Value → Str} (h0 : 0 < vs.length) (hp : ∀ v ∈ vs, IsTx s.heap v (k v)) (hu : ∀ v ∈ vs, ∀ u ∈ vs, k v = k u → v = u) (ha : ∀ o, s.heap.get? a = some o → o.cls ≠ .type "tuple") : SortableO prog w A s a vs fun v u => ltS (k v) (k u) := by
  intro h' keep
  have hp' : ∀ v ∈ vs, IsTx h' v (k v) := fun v hm => (hp v hm).keeps fun b o e c => keep b o (fun z => by subst z; exact ha o e c) e
  obtain ⟨fs, h1, h2, h3⟩ := firstsX_of fun v hm => ⟨_, hp' v hm⟩
  refine ⟨tuples' true, fun Q E hq => ?_, tx_cmp hp' hu⟩
  refine PySem.W.kat_kind (T := .type "str") h1 (by omega) (fun f hm => ?_) (by rfl) ?_
  · obtain ⟨x, t, rfl⟩ := h3 f hm
    exact PySem.W.Looks.now
  · have e : (Value.type "str" != Value.type "tuple") = true := by first | decide +kernel | rfl | decide
    rw [e]
    exact hq
theorem sorted_txO {l : Addr} {vs : List Value} {k : Value → Str} {Q : Value → Shared → Prop} (hl : s.heap.IsList l vs.toArray) (hz : vs.length ≤ sizeLine) (hp : ∀ v ∈ vs, IsTx s.heap v (k v)) (hu : ∀ v ∈ vs, ∀ u ∈ vs, k v = k u → v = u)
    (h : ∀ (h' : Heap) (d : Addr) (out : List Value), Srtd (fun v u => ltS (k v) (k u)) out → Stb (fun v u => ltS (k v) (k u)) out vs → (∀ b o, s.heap.get? b = some o → h'.get? b = some o) → s.heap.objs.size ≤ d → (∃ n, h'.get? d = some (seqObj "list" out.toArray n)) → Q (.ref d) { s with heap := h' }) :
    wpAny (model prog w) A (call (.builtin "sorted") [.ref l]) Q E s := by
  refine sorted_ord (swo_by k) hl hz (fun h2 h₁ a ha kk => ?_) fun out hs hb => ?_
  · refine tx_sortableO (s := { s with heap := h₁ }) (by omega) (fun v hm => (hp v hm).keeps fun b o e _ => (kk b o e).2) hu fun o e => ?_
    have e' : some o = some (seqObj "list" vs.toArray 0) := e.symm.trans ha
    cases e'
    intro c
    exact absurd (Value.type.inj c) (by decide)
  · exact h _ _ out hs hb (fun b o e => sortedAll_old e) (Nat.le_succ _) (sortedAll_at s.heap vs out.toArray)
end
end SrtX
namespace L2
open PySem PySem.Spec PyProof.Rows
/-- sorted(xs), xs a list of tuples with a text first, no such text twice: a new list, ascending by these texts -/
def rSortedTx (K : PySem.W.Frag) : List V → Hp → VK → Prop := fun vs H Q => ∃ (a : Addr) (xs : List V) (k : V → Str), vs = [V.ref a] ∧ SqL K H a xs ∧ (∀ x ∈ xs, ∃ t r, x = V.ref t ∧ SqT K H t (V.str (k x) :: r)) ∧ (∀ x ∈ xs, ∀ y ∈ xs, k x = k y → x = y) ∧
  ∀ ys p, ys.Perm xs → ys.Pairwise (fun x y => SrtX.ltS (k y) (k x) = false) → H p = none → Q (.ref p) (upd H p (.lst ys))
section
variable {X : Cx}
theorem cr_sortedTx : CallR X (.builtin "sorted") (rSortedTx X.K) := by
  intro pins s σ H vs us Q I r h
  obtain ⟨a, xs, k, rfl, hs, hx, hu, q⟩ := h
  obtain ⟨its, rv, hl, hz⟩ := I.list hs
  obtain ⟨u, rfl, ru⟩ := vals1 r
  obtain rfl : u = Value.ref a := ru
  obtain ⟨e1, e2⟩ := refs_back rv fun x m => by
    obtain ⟨t, _, e, _⟩ := hx x m
    exact ⟨t, e⟩
  refine SrtX.sorted_txO (k := fun u => k (backV u)) hl.isList (by rw [← rv.length]; exact hz) (fun v hv => ?_) (fun v hv u hu2 e => ?_) fun h' d out h1 h2 kp hd hn => ?_
  · obtain ⟨t, rfl⟩ := e2 v hv
    have hm : V.ref t ∈ xs := by rw [e1]; exact List.mem_map.mpr ⟨_, hv, rfl⟩
    obtain ⟨t', r', e, ht⟩ := hx _ hm
    cases e
    obtain ⟨its2, r2, ⟨o, ho, hc, n, hd⟩, _⟩ := I.tuple ht
    cases r2 with
    | cons h1 h2 =>
      obtain ⟨tk, rfl⟩ := h1
      exact ⟨t, o, tk, _, n, rfl, ho, hc, hd⟩
  · obtain ⟨t, rfl⟩ := e2 v hv
    obtain ⟨t', rfl⟩ := e2 u hu2
    have hm : V.ref t ∈ xs := by rw [e1]; exact List.mem_map.mpr ⟨_, hv, rfl⟩
    have hm' : V.ref t' ∈ xs := by rw [e1]; exact List.mem_map.mpr ⟨_, hu2, rfl⟩
    cases hu _ hm _ hm' e
    rfl
  · have h3 : ∀ u ∈ out, ∃ a, u = Value.ref a := fun u hu => e2 u (h2.perm.mem_iff.mp hu)
    obtain ⟨n, hn⟩ := hn
    have hb : SrtO.Stb (fun x y => SrtX.ltS (k x) (k y)) (out.map backV) xs := by
      rw [e1]
      exact SrtO.Stb.map (SrtX.swo_by k) backV h2
    refine ⟨.ref d, upd H d (.lst (out.map backV)), I.laid (t' := s.toks) kp hd ⟨?_, out, n, vals_back h3, hn⟩, rfl, q _ d hb.perm (SrtO.srtd_map h1) (I.hok.fresh hd)⟩
    rw [hb.len]
    exact hz
end
end L2
end
section
set_option Elab.async false
set_option linter.all false
set_option maxRecDepth 100000
set_option maxHeartbeats 4000000
/-! Sets of texts, told by the list of their members (up to order). -/
namespace TxSet
open PySem PySem.Spec PyProof.Rows L2
def keyT (e : Int × Value) : Str := match e.2 with
  | .str k _ => k
  | _ => ⟨#[]⟩
def GoodT (w : World) (e : Int × Value) : Prop := ∃ k t, e = (hashStr w k, Value.str k t)
/-- at a stands a set whose members are L, none twice, in some order -/
def SetT (w : World) (h : Heap) (a : Addr) (L : List Str) : Prop := ∃ o es ep t, h.get? a = some o ∧ o.ExactSet ∧ o.data = .set es ep t ∧ (∀ e ∈ es.toList, GoodT w e) ∧ (es.toList.map keyT).Perm L ∧ L.Nodup ∧
  es.size < scanBound ∧ t.fits es.size = true ∧ Ris t.place.toList ∧ (w.params.followText "set-order" = true ∨ t.led = true)
section
variable {P : Program} {w : World} {h h' : Heap} {a : Addr} {L L' : List Str}
theorem SetT.at (R : SetT w h a L) (k : ∀ o, h.get? a = some o → h'.get? a = some o) : SetT w h' a L := by
  obtain ⟨o, es, ep, t, ho, r⟩ := R
  exact ⟨o, es, ep, t, k o ho, r⟩
theorem SetT.perm (R : SetT w h a L) (p : L.Perm L') : SetT w h a L' := by
  obtain ⟨o, es, ep, t, ho, hx, hd, g, m, nd, r⟩ := R
  exact ⟨o, es, ep, t, ho, hx, hd, g, m.trans p, p.nodup_iff.mp nd, r⟩
theorem elems_good {l : List (Int × Value)} (g : ∀ e ∈ l, GoodT w e) : ElemsOf (strKind P w) l := fun e he => by
  obtain ⟨k, t, rfl⟩ := g e he
  exact ⟨⟨k, strKind_is P w k t, rfl⟩, rfl⟩
theorem is_key {e : Int × Value} (g : GoodT w e) (k : Str) : (strKind P w).is k e.2 = true ↔ keyT e = k := by
  obtain ⟨c, t, rfl⟩ := g
  refine ⟨fun q => ?_, fun q => by rw [← q]; exact strKind_is P w c t⟩
  have q' : Value.isStrOf k (Value.str c t) = true := q
  obtain ⟨u, e⟩ := Value.isStrOf_shape q'
  exact (Value.str.inj e).1
theorem found_iff {l : List (Int × Value)} (g : ∀ e ∈ l, GoodT w e) (k : Str) : (∃ e ∈ l, (strKind P w).is k e.2 = true) ↔ k ∈ l.map keyT := by
  rw [List.mem_map]
  exact ⟨fun ⟨e, he, q⟩ => ⟨e, he, (is_key (g e he) k).1 q⟩, fun ⟨e, he, q⟩ => ⟨e, he, (is_key (g e he) k).2 q⟩⟩
theorem SetT.size_eq (R : SetT w h a L) : ∃ o es ep t, h.get? a = some o ∧ o.ExactSet ∧ o.data = .set es ep t ∧ es.size = L.length ∧ t.fits es.size = true := by
  obtain ⟨o, es, ep, t, ho, hx, hd, g, m, nd, hb, hf, _⟩ := R
  exact ⟨o, es, ep, t, ho, hx, hd, by rw [← Array.length_toList, ← m.length_eq, List.length_map], hf⟩
end
section
variable {P : Program} {w : World} {A : Around} {E : Value → Shared → Prop} {s : Shared} {a : Addr} {L : List Str}
theorem put_at {h : Heap} {o : Obj} {es es' : Array (Int × Value)} {ep : Nat} {t t' : SetTable} (ho : h.get? a = some o) (hd : o.data = .set es ep t) : (h.update a (Obj.putSet es' t')).get? a = some { o with data := .set es' (ep + 1) t' } := by
  have e := putSet_of es' t' hd
  have q := Heap.get?_update_self (Obj.putSet es' t') ho (by rw [e]; rfl)
  rw [e] at q
  exact q
/-- what a set's add does behind the search: the table is stored, laid anew where it is too full -/
theorem store_then {g : Bool → Sem Unit} (hg : ∀ (b : Bool) (s₁ : Shared) (Q' : Unit → Shared → Prop), Q' () s₁ → wpAny (model P w) A (g b) Q' E s₁) {o : Obj} {es es1 : Array (Int × Value)} {ep : Nat} {t t2 : SetTable} {wd : Bool} {L' : List Str} {R : Option Bool → Shared → Prop}
    (ho : s.heap.get? a = some o) (hex : o.ExactSet) (hd : o.data = .set es ep t) (hs : (∀ e ∈ es1.toList, GoodT w e) ∧ (es1.toList.map keyT).Perm L' ∧ L'.Nodup ∧ es1.size < scanBound)
    (ht : t2.fits es1.size = true ∧ Ris t2.place.toList ∧ (w.params.followText "set-order" = true ∨ t2.led = true)) (hR : ∀ h', Heap.SameBut a s.heap h' → SetT w h' a L' → R (some true) { s with heap := h' }) :
    wpAny (model P w) A (do
        storeSet a es1 t2
        if (!wd && t2.tooFull) = true then do
            g (relayAll t2 es1 (SetTable.grown es1.size)).2.2
            storeSet a (relayAll t2 es1 (SetTable.grown es1.size)).1 (relayAll t2 es1 (SetTable.grown es1.size)).2.1
            pure (some true)
          else pure (some true)) R E s := by
  obtain ⟨g1, m1, nd, b1⟩ := hs
  obtain ⟨f1, r1, l1⟩ := ht
  refine wpAny_bind (wpAny_storeSet_of ho hd ?_ (fits_of_scanBound b1))
  have o1 := put_at (es' := es1) (t' := t2) ho hd
  have k1 := Heap.SameBut.update s.heap a (Obj.putSet es1 t2)
  split
  · have p3 := relayAll_perm t2 es1 (SetTable.grown es1.size)
    have f3 := relayAll_fits t2 es1 (SetTable.grown es1.size)
    have r3 := relayAll_ris t2 es1 (SetTable.grown es1.size)
    have l3 := relayAll_led t2 es1 (SetTable.grown es1.size)
    generalize relayAll t2 es1 (SetTable.grown es1.size) = Z at p3 f3 r3 l3 ⊢
    have b3 : Z.1.size < scanBound := by rw [← Array.length_toList, p3.length_eq, Array.length_toList]; exact b1
    refine wpAny_bind (hg _ _ _ (wpAny_bind (wpAny_storeSet_of o1 rfl ?_ (fits_of_scanBound b3))))
    exact wpAny_pure (hR _ (k1.trans (Heap.SameBut.update _ a _)) ⟨_, Z.1, _, Z.2.1, put_at (es' := Z.1) (t' := Z.2.1) o1 rfl, hex, rfl, fun e he => g1 e (p3.mem_iff.mp he), (p3.map keyT).trans m1, nd, b3, f3, r3, l1.imp id fun z => l3.trans z⟩)
  · exact wpAny_pure (hR _ k1 ⟨_, es1, _, t2, o1, hex, rfl, g1, m1, nd, b1, f1, r1, l1⟩)
theorem add_hashed {k : Str} {tk : Tok} {Q : Bool → Shared → Prop} (R : SetT w s.heap a L) (room : L.length + 1 < scanBound)
    (hQ : ∀ h' b, Heap.SameBut a s.heap h' → SetT w h' a (if k ∈ L then L else k :: L) → Q b { s with heap := h' }) : wpAny (model P w) A (setAddHashed a (.str k tk) ((strKind P w).hash k)) Q E s := by
  have R0 := R
  obtain ⟨o, es, ep, t, ho, hex, hd, g, m, nd, hb, hf, hr, hl⟩ := R
  have hel : ElemsOf (strKind P w) es.toList := elems_good g
  have hsc : (Value.str k tk).scannable = true := rfl
  unfold setAddHashed setAddHashedIn
  refine wpAny_holding (wpAny_bind (wpAny_setState_of ho hd hf ?_))
  dsimp only
  rw [byScan_of hsc hb hel]
  simp only [↓reduceIte]
  unfold setAddByScan
  refine wpAny_bind ?_
  refine wpAny_bind (wpAny_rule ?_)
  refine wpAny_bind (wpAny_setScan_of (strKind_is P w k tk) ho hd hf hel ?_)
  cases hfi : List.findIdx? (fun e => (strKind P w).is k e.2) es.toList with
  | some j =>
    dsimp only
    obtain ⟨hj, pj, _⟩ := List.findIdx?_eq_some_iff_getElem.mp hfi
    have hk : k ∈ L := m.mem_iff.mp ((found_iff g k).1 ⟨_, List.getElem_mem hj, pj⟩)
    refine wpAny_pure (wpAny_pure (hQ s.heap _ (Heap.SameBut.refl a s.heap) ?_))
    rw [if_pos hk]
    exact R0
  | none =>
    dsimp only
    have hk : k ∉ L := fun z => by
      obtain ⟨e, he, q⟩ := (found_iff (P := P) g k).2 (m.mem_iff.mpr z)
      exact absurd q (by rw [List.findIdx?_eq_none_iff.mp hfi e he]; exact Bool.false_ne_true)
    rw [if_neg hk] at hQ
    have give : ∀ (b : Bool) {s₁ : Shared} {Q' : Unit → Shared → Prop}, Q' () s₁ → wpAny (model P w) A (match b with | true => rule "set.scan.the-table-gave-way" | false => pure ()) Q' E s₁ := fun b s₁ Q' q => match b with
      | true => wpAny_rule q
      | false => wpAny_pure q
    have p1 := layNew_perm t es ((strKind P w).hash k) (.str k tk)
    have f1 := layNew_fits t es ((strKind P w).hash k) (.str k tk)
    have r1 := layNew_ris t es ((strKind P w).hash k) (.str k tk) hr
    have l1 := layNew_led t es ((strKind P w).hash k) (.str k tk)
    generalize layNew t es ((strKind P w).hash k) (.str k tk) = Z at p1 f1 r1 l1 ⊢
    obtain ⟨es1, t1, wd, gv⟩ := Z
    dsimp only at p1 f1 r1 l1 ⊢
    rw [Array.toList_push] at p1
    have hs : (∀ e ∈ es1.toList, GoodT w e) ∧ (es1.toList.map keyT).Perm (k :: L) ∧ (k :: L).Nodup ∧ es1.size < scanBound := by
      refine ⟨fun e he => ?_, ?_, List.nodup_cons.mpr ⟨hk, nd⟩, ?_⟩
      · rcases List.mem_append.mp (p1.mem_iff.mp he) with z | z
        · exact g e z
        · exact ⟨k, tk, List.mem_singleton.mp z⟩
      · refine (p1.map keyT).trans ?_
        rw [List.map_append]
        exact (List.perm_append_singleton _ _).trans (m.cons _)
      · rw [← Array.length_toList, p1.length_eq, List.length_append, ← List.length_map (f := keyT), m.length_eq]
        exact room
    have ld : w.params.followText "set-order" = true ∨ t1.led = true := hl.imp id fun z => by rw [l1]; exact z
    refine wpAny_bind (give _ ?_)
    split
    · refine wpAny_bind ?_
      rw [hashByValue_scannable 8 hsc]
      refine wpAny_pure (store_then (fun b s₁ Q' q => give b q) ho hex hd hs ⟨?_, ?_, ?_⟩ fun h' sb r => ?_)
      · first | (split <;> first | exact f1 | exact SetTable.fits_plain_off f1) | exact f1
      · first | (split <;> exact r1) | exact r1
      · first | (split <;> exact ld) | exact ld
      · dsimp only
        exact wpAny_pure (hQ h' _ sb r)
    · refine wpAny_bind (wpAny_pure ?_)
      simp only [↓reduceIte]
      refine store_then (fun b s₁ Q' q => give b q) ho hex hd hs ⟨f1, r1, ld⟩ fun h' sb r => ?_
      dsimp only
      exact wpAny_pure (hQ h' _ sb r)
/-- a.add(k) -/
theorem add_ok {k : Str} {tk : Tok} {Q : Value → Shared → Prop} (R : SetT w s.heap a L) (room : L.length + 1 < scanBound)
    (hQ : ∀ h', Heap.SameBut a s.heap h' → SetT w h' a (if k ∈ L then L else k :: L) → Q .none { s with heap := h', toks := s.toks + 1 }) : wpAny (model P w) A (call (.builtin "set.add") [.ref a, .str k tk]) Q E s := by
  have hT : s.TypeIs (.ref a) "set" := by
    obtain ⟨o, es, ep, t, ho, hex, _⟩ := R
    exact ⟨o, ho, hex.1⟩
  refine wpAny_call_entry F.slot_set_add hT F.entry_set_add ?_ (F.args_set_add_2 _ _)
  unfold Builtin.«set.add» Builtin.Frozenset.oneOther
  simp only [List.isEmpty_nil, bind_assoc]
  unfold Builtin.Frozenset.addrOf setAdd
  refine wpAny_bind (wpAny_pure ?_)
  try dsimp only
  refine wpAny_bind (wpAny_pure ?_)
  try dsimp only
  refine wpAny_bind (wpAny_holding (wpAny_bind ((strKind P w).pyHash (strKind_is P w k tk) ?_)))
  refine add_hashed (s := { s with toks := s.toks + 1 }) R room fun h' b sb r => ?_
  show wpAny _ _ (ret Value.none) _ _ _
  exact wpAny_pure ⟨_, rfl, hQ h' sb r⟩
theorem fresh_set {h : Heap} (w : World) : SetT w (h.push { cls := .type "set", dict := none, data := .set #[] 0 (.fresh 0 0 (!w.params.followText "set-order")) }) h.objs.size [] := by
  refine ⟨_, #[], 0, _, Heap.get?_push_size _ rfl, ⟨rfl, rfl, rfl⟩, rfl, fun e he => by simp at he, List.Perm.refl _, List.nodup_nil, by decide, by rfl, List.Pairwise.nil, ?_⟩
  cases e : w.params.followText "set-order" with
  | true => exact Or.inl rfl
  | false => exact Or.inr rfl
end
end TxSet
end
section
set_option Elab.async false
set_option linter.all false
set_option maxRecDepth 100000
set_option maxHeartbeats 4000000
namespace TxSet
open PySem PySem.Spec PyProof.Rows L2
/-- one member more -/
def addL (L : List Str) (k : Str) : List Str := if k ∈ L then L else k :: L
theorem addL_mem {L : List Str} {k j : Str} : j ∈ addL L k ↔ j ∈ L ∨ j = k := by
  unfold addL
  split
  · rename_i h
    exact ⟨Or.inl, fun z => z.elim id fun e => by rw [e]; exact h⟩
  · rw [List.mem_cons]
    exact Or.comm
theorem addL_len (L : List Str) (k : Str) : (addL L k).length ≤ L.length + 1 := by
  unfold addL
  split <;> simp
theorem fold_mem {j : Str} : ∀ {ks L : List Str}, j ∈ ks.foldl addL L ↔ j ∈ L ∨ j ∈ ks
  | [], L => by simp
  | k :: ks, L => by
    rw [List.foldl_cons, fold_mem, addL_mem, List.mem_cons, or_assoc]
theorem fold_fresh : ∀ {ks L : List Str}, (ks ++ L).Nodup → (ks.foldl addL L).length = ks.length + L.length
  | [], L, _ => by simp
  | k :: ks, L, h => by
    rw [List.cons_append, List.nodup_cons] at h
    have hk : k ∉ L := fun z => h.1 (List.mem_append_right _ z)
    have e : addL L k = k :: L := if_neg hk
    rw [List.foldl_cons, e, fold_fresh]
    · simp only [List.length_cons]
      omega
    · refine (List.perm_middle.nodup_iff).mpr ?_
      exact List.nodup_cons.mpr h
section
variable {P : Program} {w : World} {A : Around} {E : Value → Shared → Prop} {s : Shared} {a : Addr} {L : List Str}
/-- set.update's own loop over texts -/
theorem update_txt {I S : Addr} {fp wr : List Addr} {G : Array GenState → Array GenState → Prop} {n : Nat} {Pv : Nat → Value → Prop} {St : Nat → Shared → Prop} {R : Result → Shared → Prop} {ks : List Str}
    (W : WalksS P w A.in1 I fp wr G n Pv St) (hSf : S ∉ fp) (hn : n = ks.length) (hb : n + 1 < scanBound) (hval : ∀ i v, Pv i v → ∃ k t, ks[i]? = some k ∧ v = .str k t) :
    ∀ (m i : Nat) (L : List Str) (s : Shared), n - i = m → i ≤ n → L.length ≤ i → St i s → SetT w s.heap S L → (∀ s', Moved (S :: wr) G s s' → SetT w s'.heap S ((ks.drop i).foldl addL L) → R (.ok (.ret .none)) s') →
      codeAny (model P w) A (.builtin "set.update.loop" ⟨[.ref S, .ref I], []⟩) R s := by
  have nw : S ∉ wr := fun h => hSf (W.sub _ h)
  have up : ∀ b ∈ wr, b ∈ S :: wr := fun b hb => List.mem_cons_of_mem _ hb
  intro m
  induction m with
  | zero =>
    intro i L s hm hi hl hst hS hR
    have ei : i = n := by omega
    refine codeAny_builtin F.entry_set_update_loop ?_
    rw [Around.under_plainId F.plain_set_update_loop _]
    show wpAny _ A.in1 (pyNext (.ref I) >>= _) _ _ s
    rw [ei] at hst hR
    refine wpAny_bind (W.done s _ _ hst fun s' mv => ?_)
    show wpAny _ A.in1 (ret Value.none) _ _ s'
    refine wpAny_pure (hR s' (mv.mono up) ?_)
    rw [List.drop_of_length_le (by omega)]
    exact hS.at fun o e => mv.heap S o nw e
  | succ m ih =>
    intro i L s hm hi hl hst hS hR
    have lt : i < n := by omega
    refine codeAny_builtin F.entry_set_update_loop ?_
    rw [Around.under_plainId F.plain_set_update_loop _]
    show wpAny _ A.in1 (pyNext (.ref I) >>= _) _ _ s
    refine wpAny_bind (W.item i s _ _ lt hst fun v s' hP hst' mv => ?_)
    obtain ⟨k, t, hk, rfl⟩ := hval i v hP
    have hS' : SetT w s'.heap S L := hS.at fun o e => mv.heap S o nw e
    show wpAny _ A.in1 (holding [Value.str k t] (setAdd S (.str k t)) >>= _) _ _ s'
    unfold setAdd
    refine wpAny_bind (wpAny_holding (wpAny_holding (wpAny_bind ((strKind P w).pyHash (strKind_is P w k t) ?_))))
    refine add_hashed (s := { s' with toks := s'.toks + 1 }) hS' (by omega) fun h' b sb h2 => ?_
    have e : ks.drop i = k :: ks.drop (i + 1) := by
      obtain ⟨h1, h3⟩ := List.getElem?_eq_some_iff.mp hk
      rw [← h3]
      exact List.drop_eq_getElem_cons h1
    rw [e, List.foldl_cons] at hR
    have oth : ∀ b o, b ≠ S → s'.heap.get? b = some o → h'.get? b = some o := fun b o hb e => (sb.2 b hb).trans e
    refine wpAny_pure ⟨plainId_quiet F.plain_set_update_loop _, ih (i + 1) (addL L k) _ (by omega) lt (by have := addL_len L k; omega) (W.frame _ s' _ _ hst' (Nat.le_succ _) fun b hb o e => oth b o (fun z => hSf (by rw [← z]; exact hb)) e) h2 fun s2 m2 z => hR s2 ?_ z⟩
    exact Moved.trans W.gtrans ((mv.mono up).then_heap (Nat.le_succ _) fun b o hb e => oth b o (fun z => hb (by rw [z]; exact List.mem_cons_self)) e) m2
abbrev freshO (w : World) : Obj := { cls := .type "set", dict := none, data := .set #[] 0 (.fresh 0 0 (!w.params.followText "set-order")) }
/-- set(xs), a list of texts -/
theorem call_set_txt {l : Addr} {items : Array Value} {ks : List Str} {Q : Value → Shared → Prop} (hh : A.handled = none) (hl : s.heap.IsList l items) (hz : items.size = ks.length) (hit : ∀ (i : Nat) (v : Value), items[i]? = some v → ∃ k t, ks[i]? = some k ∧ v = Value.str k t) (hb : ks.length + 1 < scanBound)
    (h : ∀ (h' : Heap) (tk : Nat), SetT w h' s.heap.objs.size (ks.foldl addL []) → (∀ b o, s.heap.get? b = some o → h'.get? b = some o) → Q (.ref s.heap.objs.size) { s with heap := h', toks := tk }) : wpAny (model P w) A (call (.type "set") [.ref l]) Q E s := by
  obtain ⟨c, tl, hmro⟩ := F.called_set.mro
  have hmade := F.called_set.made
  have hsub := F.called_set.sub
  refine wpAny_call (codeAny_of_tree ?_)
  show wpAny _ _ (callAny (.type "set") _) _ _ _
  refine wpAny_pure ⟨Code.quiet_builtin _ (by decide +kernel), codeAny_builtin F.entry_type_call ?_⟩
  rw [Around.under_plain (weight_type_call_type "set" [.ref l] []) rfl]
  have h1 := F.called_set.notType
  have h2 := F.called_set.canCreate
  have hct := F.typeCall_set_1 (.ref l)
  repeat (any_goals (first | assumption | wp_step))
  refine codeAny_mono (code_set_led1 (.ref l) (E := E) (Q₁ := fun obj s₁ => obj = .ref s.heap.objs.size ∧ s₁ = { s with heap := s.heap.push (freshO w) }) ⟨rfl, rfl⟩) fun r s₁ hr => ?_
  rcases r with e | (obj | _ | _ | _) <;> first | exact hr | exact hr.elim | skip
  obtain ⟨rfl, rfl⟩ := hr
  have hS : (s.heap.push (freshO w)).get? s.heap.objs.size = some (freshO w) := Heap.get?_push_size _ rfl
  have hT : Shared.TypeIs { s with heap := s.heap.push (freshO w) } (.ref s.heap.objs.size) "set" := ⟨_, hS, rfl⟩
  have hli := F.called_set.init.lookup
  have hbi := F.called_set.init.bind (.ref s.heap.objs.size)
  repeat (any_goals (first | assumption | wp_step))
  refine codeAny_mono (codeAny_call_builtin (R := wants (fun r s₂ => r = .none ∧ ∃ h' tk, s₂ = { s with heap := h', toks := tk } ∧ SetT w h' s.heap.objs.size (ks.foldl addL []) ∧ (∀ b o, s.heap.get? b = some o → h'.get? b = some o)) E) F.called_set.init.plain F.entry_set_init (check_set_init_1 hT ?_)) fun r₂ s₂ hr₂ => ?_
  · obtain ⟨ol, hol, hcl, nl, hdl⟩ := hl
    obtain ⟨ocls, odict, odata, oslots⟩ := ol
    simp only at hcl hdl
    subst hcl hdl
    have hol' : (s.heap.push (freshO w)).get? l = some { cls := .type "list", dict := odict, data := .seq items nl, slots := oslots } := Heap.get?_push_of_some _ hol
    have hsls := F.sub_list_set
    have hslf := F.sub_list_frozenset
    have hne : (Value.type "list" == Value.type "dict") = false := by decide
    have hl1 : (s.heap.push (freshO w)).IsList l items := ⟨_, hol', rfl, nl, rfl⟩
    unfold Builtin.«set.__init__» noKeywords Builtin.Frozenset.updateFrom
    generalize hPI : pyIter = PI
    wp_walk
    subst hPI
    refine wpAny_pyIter_list hl1 (wpAny_bind (wpAny_runValue ?_))
    have hh3 : A.in1.in1.in1.handled = none := by simp [hh]
    have hz1 : (s.heap.push (freshO w)).objs.size = s.heap.objs.size + 1 := Heap.size_push ..
    have ll : l < s.heap.objs.size := Heap.lt_size hol
    have hneI : l ≠ (s.heap.push (freshO w)).objs.size := fun z => Nat.ne_of_lt (Nat.lt_succ_of_lt ll) (z.trans hz1)
    have hSf : s.heap.objs.size ∉ [(s.heap.push (freshO w)).objs.size, l] := fun z => by
      rcases List.mem_cons.mp z with z | z
      · exact Nat.ne_of_lt (Nat.lt_succ_self _) (z.trans hz1)
      · exact Nat.ne_of_gt ll (List.mem_singleton.mp z)
    refine update_txt ((Walks.list hh3 _ l hneI items).toS) hSf hz (by omega) hit (items.size - 0) 0 [] _ (by omega) (Nat.zero_le _) (Nat.le_refl _) ⟨⟨_, Heap.get?_push_size _ rfl, rfl, rfl⟩, (hl1.push _)⟩ ?hS0 ?hR
    case hS0 => exact (fresh_set w).at fun o e => Heap.get?_push_of_some _ e
    case hR =>
      intro s' mv z
      obtain ⟨h', g2, d', tk', os'⟩ := s'
      obtain rfl : g2 = s.gens := mv.gens
      obtain rfl : d' = s.drawn := mv.drawn
      obtain rfl : os' = s.os := mv.os
      show wpAny _ _ _ _ _ _
      refine wpAny_pure ?_
      show wpAny _ _ (ret Value.none) _ _ _
      refine wpAny_pure ⟨rfl, h', tk', rfl, z, fun b o e => ?_⟩
      have lb := Heap.lt_size e
      refine mv.heap b o (fun z => ?_) (Heap.get?_push_of_some _ (Heap.get?_push_of_some _ e))
      rcases List.mem_cons.mp z with z | z
      · exact Nat.ne_of_lt lb z
      · exact Nat.ne_of_lt (Nat.lt_succ_of_lt lb) ((List.mem_singleton.mp z).trans hz1)
  · rcases r₂ with e | (r | _ | _ | _) <;> first | exact hr₂ | exact hr₂.elim | skip
    obtain ⟨rfl, h', tk, rfl, z, k⟩ := hr₂
    repeat (any_goals (first | assumption | wp_step))
    exact h _ _ z k
end
end TxSet
namespace SrtX
open PySem PyProof.Rows Srt
open SrtO hiding Str
section
variable {prog : Program} {w : World} {A : Around} {E : Value → Shared → Prop} {s : Shared}
abbrev tx (v : Value) : Str := TxSet.keyT (0, v)
theorem txt_cmp {vs : List Value} (hI : ∀ v ∈ vs, ∃ k t, v = Value.str k t) : Cmp prog w A s oneType' (fun p => p.1 ∈ vs) (lt2 fun v u => ltS (tx v) (tx u)) := by
  intro p q hm hm'
  obtain ⟨a, t, e⟩ := hI _ hm
  obtain ⟨b, u, e'⟩ := hI _ hm'
  show wpAny (model prog w) A (keyLt' oneType' p.1 q.1) (fun r s' => s' = s ∧ r = ltS (tx p.1) (tx q.1)) (fun _ _ => False) s
  rw [e, e', keyLt'_oneType]
  exact oneLt_str ⟨rfl, rfl⟩
theorem strs_of : ∀ {vs : List Value}, (∀ v ∈ vs, ∃ k t, v = Value.str k t) → StrsAre vs (vs.map tx)
  | [], _ => .nil
  | v :: vs, h => by
    obtain ⟨k, t, e⟩ := h v List.mem_cons_self
    subst e
    exact .cons k t (strs_of fun u hu => h u (List.mem_cons_of_mem _ hu))
theorem txt_sortable {a : Addr} {vs : List Value} (hI : ∀ v ∈ vs, ∃ k t, v = Value.str k t) (h2 : 2 ≤ vs.length) : SortableO prog w A s a vs fun v u => ltS (tx v) (tx u) := by
  intro h' _
  refine ⟨oneType', fun Q E hq => ?_, txt_cmp hI⟩
  match vs, hI, h2 with
  | v1 :: v2 :: rest, hI, _ =>
    rw [keyKind_strs (strs_of hI)]
    exact wpAny_pure hq
  | [], _, h => exact absurd h (by decide)
  | [v], _, h => exact absurd h (by simp)
end
end SrtX
end
section
set_option Elab.async false
set_option linter.all false
set_option maxRecDepth 100000
set_option maxHeartbeats 4000000
namespace TxSet
open PySem PySem.Spec PyProof.Rows L2
theorem fits_scan {n : Nat} (h : n < scanBound) : n ≤ sizeLine := fits_of_scanBound h
end TxSet
namespace SrtX
open PySem PyProof.Rows Srt
open SrtO hiding Str
/-- ascending texts -/
abbrev Asc (l : List Str) : Prop := l.Pairwise fun x y => ltS y x = false
section
variable {P : Program} {w : World} {A : Around} {E : Value → Shared → Prop} {s : Shared} {a : Addr} {L : List Str}
/-- sorted(s) of a set of texts -/
theorem sorted_set_txt {Q : Value → Shared → Prop} (R : TxSet.SetT w s.heap a L) (hh : A.handled = none)
    (hQ : ∀ s' p (out : List Value) (c : Nat), (∀ b o, s.heap.get? b = some o → s'.heap.get? b = some o) → s'.gens = s.gens → s'.os = s.os → s.heap.objs.size ≤ p → s'.heap.get? p = some (seqObj "list" out.toArray c) →
      (∀ v ∈ out, ∃ k t, v = Value.str k t) → (out.map tx).Perm L → Asc (out.map tx) → Q (.ref p) s') : wpAny (model P w) A (call (.builtin "sorted") [.ref a]) Q E s := by
  obtain ⟨o, es, ep, t, ho, hex, hd, g, m, nd, hb, hf, hr, hl⟩ := R
  refine Calls.call_function_entry kind_sorted plain_sorted entry_sorted (args_sorted1 _) ?_
  unfold Builtin.«sorted»
  refine wpAny_bind (m := checkCount "sorted" 1 1 _) (wpAny_pure (wpAny_bind (L2.collect_set (A := A.in1) hh ⟨o, ho, hex.1, hd⟩ hf hb hr hl fun s1 vs k1 hz g1 o1 pm => ?_)))
  have hlen : vs.length ≤ sizeLine := by
    rw [pm.length_eq, List.length_map, Array.length_toList]
    exact TxSet.fits_scan hb
  have hI : ∀ v ∈ vs, ∃ k t, v = Value.str k t := fun v hv => by
    obtain ⟨e, he, q⟩ := List.mem_map.mp (pm.mem_iff.mp hv)
    obtain ⟨k, t, rfl⟩ := g e he
    exact ⟨k, t, q.symm⟩
  have pk : (vs.map tx).Perm L := by
    have q := pm.map tx
    rw [List.map_map] at q
    exact q.trans m
  refine wpAny_bind (wpAny_newList ?_ hlen)
  have hoL : (s1.heap.push (seqObj "list" vs.toArray 0)).get? s1.heap.objs.size = some (seqObj "list" vs.toArray 0) := Heap.get?_push_size _ rfl
  refine wpAny_bind (wpAny_holding (wpAny_call_entry slot_list_sort ⟨_, hoL, rfl⟩ entry_list_sort (list_sort_ord (swo_by tx) hoL hlen (fun h2 => txt_sortable hI h2) fun out hs hbt => ⟨_, rfl, ?_⟩) (args_list_sort _)))
  obtain ⟨c, hc⟩ := sortedHeap_at (vs := vs) (out := out.toArray) hoL
  refine wpAny_pure ⟨_, rfl, hQ _ s1.heap.objs.size out c (fun b u e => ?_) g1 o1 hz hc (fun v hv => hI v (hbt.perm.mem_iff.mp hv)) ((hbt.perm.map tx).trans pk) (SrtO.srtd_map hs)⟩
  have q := k1 b u e
  have lt := Heap.lt_size q
  show (sortedHeap (s1.heap.push (seqObj "list" vs.toArray 0)) s1.heap.objs.size vs out.toArray).get? b = some u
  rw [sortedHeap_old (Nat.ne_of_lt lt) (by rw [size_push']; exact Nat.lt_succ_of_lt lt)]
  exact Heap.get?_push_of_some _ q
end
end SrtX
namespace L2
open PySem PySem.Spec PyProof.Rows
/-- the set at a has the members L -/
def SetX (w : World) (a : Addr) (L : List Str) : HO := .ext fun h => TxSet.SetT w h a L
theorem setX_new {w : World} {P : Program} {H : Hp} {h : Heap} {a : Addr} {L : List Str} (R : TxSet.SetT w h a L) : ObjOk P w H h a (SetX w a L) := by
  have ⟨o, _, _, _, ho, _⟩ := R
  exact ⟨R, ⟨o, ho⟩, fun h1 h2 p k => TxSet.SetT.at p k⟩
section
variable {X : Cx}
theorem setX_get {pins : List (Addr × Obj)} {σ : St} {H : Hp} {s : Shared} {a : Addr} {L : List Str} (I : Inv X pins σ H s) (ha : H a = some (SetX X.w a L)) : TxSet.SetT X.w s.heap a L := (I.hok a _ ha).1
/-- set(xs), a list of texts -/
def rSetX (K : PySem.W.Frag) (w : World) : List V → Hp → VK → Prop := fun vs H Q => ∃ (a : Addr) (ks : List Str), vs = [.ref a] ∧ SqL K H a (ks.map V.str) ∧ ks.length + 1 < scanBound ∧ ∀ p, H p = none → Q (.ref p) (upd H p (SetX w p (ks.foldl TxSet.addL [])))
theorem cr_setX (hc : X.calm = true) : CallR X (.type "set") (rSetX X.K X.w) := by
  intro pins s σ H vs us Q I r h
  obtain ⟨a, ks, rfl, hs, hb, q⟩ := h
  obtain ⟨its, rv, hl, hz⟩ := I.list hs
  rw [Vals.ref1 r]
  refine TxSet.call_set_txt (ks := ks) (I.ok.hd hc) hl.isList (by rw [List.size_toArray, ← rv.length, List.length_map]) (fun i v e => ?_) hb fun h' tk z k => ?_
  · rw [List.getElem?_toArray] at e
    cases e2 : ks[i]? with
    | none =>
      have e3 := rv.none_of (i := i) (by rw [List.getElem?_map, e2]; rfl)
      rw [e] at e3
      cases e3
    | some k =>
      obtain ⟨u, hu, ru⟩ := rv.get (i := i) (x := V.str k) (by rw [List.getElem?_map, e2]; rfl)
      rw [e] at hu
      cases hu
      obtain ⟨t, e⟩ := ru
      exact ⟨k, t, rfl, e⟩
  · exact ⟨.ref _, upd H s.heap.objs.size (SetX X.w s.heap.objs.size (ks.foldl TxSet.addL [])), I.laid (t' := tk) k (Nat.le_refl _) (setX_new z), rfl, q _ (I.hok.fresh (Nat.le_refl _))⟩
/-- len(s) -/
def rLenX (w : World) : List V → Hp → VK → Prop := fun vs H Q => ∃ a L, vs = [.ref a] ∧ H a = some (SetX w a L) ∧ L.length < scanBound ∧ Q (.int (L.length : Nat)) H
theorem cr_lenX : CallR X (.builtin "len") (rLenX X.w) := by
  intro pins s σ H vs us Q I r h
  obtain ⟨a, L, rfl, ha, hb, q⟩ := h
  rw [Vals.ref1 r]
  obtain ⟨o, es, ep, t, ho, hex, hd, hn, hf⟩ := (setX_get I ha).size_eq
  refine call_len_set ho hex hd hf (by rw [hn]; unfold scanBound at hb; omega) ⟨.int (L.length : Nat), H, I.tok _, ⟨_, by rw [hn]⟩, q⟩
/-- sorted(s) -/
def rSortedX (w : World) : List V → Hp → VK → Prop := fun vs H Q => ∃ (a : Addr) (L : List Str), vs = [.ref a] ∧ H a = some (SetX w a L) ∧ L.length ≤ sizeLine ∧ ∀ (ys : List Str) (p : Addr), ys.Perm L → SrtX.Asc ys → H p = none → Q (.ref p) (upd H p (.lst (ys.map V.str)))
theorem cr_sortedX (hc : X.calm = true) : CallR X (.builtin "sorted") (rSortedX X.w) := by
  intro pins s σ H vs us Q I r h
  obtain ⟨a, L, rfl, ha, hb, q⟩ := h
  rw [Vals.ref1 r]
  refine SrtX.sorted_set_txt (setX_get I ha) (I.ok.hd hc) fun s' p out c k g o hp hg hI hm hs => ?_
  have hn : H p = none := I.hok.fresh hp
  have vals : ∀ l : List Value, (∀ v ∈ l, ∃ k t, v = Value.str k t) → Vals ((l.map SrtX.tx).map V.str) l := fun l => by
    induction l with
    | nil => exact fun _ => .nil
    | cons v l ih =>
      intro h
      obtain ⟨k, t, e⟩ := h v List.mem_cons_self
      subst e
      exact .cons ⟨t, rfl⟩ (ih fun u hu => h u (List.mem_cons_of_mem _ hu))
  have hlen : ((out.map SrtX.tx).map V.str).length ≤ sizeLine := by
    rw [List.length_map, hm.length_eq]
    exact hb
  have J : Inv X pins σ (upd H p (.lst ((out.map SrtX.tx).map V.str))) { s with heap := s'.heap, gens := s'.gens, drawn := s'.drawn, toks := s'.toks } :=
    I.call (ch := []) (Un.laid k hp hn) (I.hok.laid k hp ⟨hlen, out, c, vals out hI, hg⟩) (by rw [g]; exact I.bare) (fun _ z => nomatch z)
  have e : s' = { s with heap := s'.heap, gens := s'.gens, drawn := s'.drawn, toks := s'.toks } := by
    cases s'
    cases s
    cases o
    rfl
  rw [e]
  exact ⟨.ref p, _, J, rfl, q _ p hm hs hn⟩
end
end L2
end
section
set_option Elab.async false
set_option linter.all false
set_option maxRecDepth 100000
set_option maxHeartbeats 4000000
namespace L2
open PySem PySem.Spec PyProof.Rows PpSet
section
variable {X : Cx} {pins : List (Addr × Obj)} {σ : St} {H : Hp} {s : Shared}
theorem setX_add {E : Value → Shared → Prop} {D : Addr} {L : List Str} {y : Str} {tk : Tok} {Q : Value → Shared → Prop} (I : Inv X pins σ H s) (hD : H D = some (SetX X.w D L)) (room : L.length + 1 < scanBound)
    (h : ∀ s', Inv X pins σ (upd H D (SetX X.w D (TxSet.addL L y))) s' → Q .none s') : wpAny (model X.prog X.w) X.A (call (.builtin "set.add") [.ref D, .str y tk]) Q E s := by
  refine TxSet.add_ok (setX_get I hD) room fun h' sb new => ?_
  have he : ∃ u, h'.get? D = some u := by
    obtain ⟨o, _, _, _, ho, _⟩ := new
    exact ⟨o, ho⟩
  exact h _ (I.write (e := D) (t' := s.toks + 1) (by rw [hD]; trivial) (.inl rfl) (fun b u hb hu => (sb.2 b hb).trans hu) he (setX_new new))
/-- one turn of {elt for tg in ..}: the item is taken, the element put in -/
def tPut (w : World) (te : TE) (D : Addr) (N : Hp → Prop) : St → Hp → Prop := fun σ H => te σ H fun y H4 => ∃ (k : Str) (L : List Str), y = .str k ∧ H4 D = some (SetX w D L) ∧ L.length + 1 < scanBound ∧ N (upd H4 D (SetX w D (TxSet.addL L k)))
/-- {elt for tg in iter if ..}, elt a text -/
def tScX (w : World) (wi : TI) (g : TG) (tt : TT) (te : TE) (vs : List Nat) : TE := fun σ H Q => wi σ H fun J H1 => ∀ D, H1 D = none → ∃ W : Nat → Nat → Hp → Prop, (∃ m, W 0 m (upd H1 D (SetX w D []))) ∧ ∀ i m H, W i m H →
  (J.stop i H ∧ Q (.ref D) H) ∨ (J.go i H ∧ ∃ N : Hp → Prop, (∀ H', N H' → ∃ m', m' < m ∧ W (i + 1) m' H') ∧ ∀ x H', J.yld i H x H' → g x (wipe σ vs) H' fun σ2 H2 => wipe σ2 vs = wipe σ vs ∧ tt σ2 H2 fun b H3 => if b = true then tPut w te D N σ2 H3 else N H3)
variable {elt tg iter : Expr} {ifs : List Expr} {scope : Scope} {own : List (PySem.Str × Nat)} {pos pos' : Pos} {wi : TI} {g : TG} {tt : TT} {te : TE}
theorem scX_core {Q : VK} {use : Option (Value → Sem Unit)} {Qf : Value → Shared → Prop} (hc : X.calm = true) (hN : X.N.Nodup) (I : Inv X pins σ H s) (hi : PI X tg iter wi) (ok : BlkOk X.N X.env.scope scope own)
    (hg : ∀ (s : Shared) (H : Hp) (C : Addr) (cl : List (PySem.Str × Addr)) (fp : List Addr), PG (X.blk s H scope (compEnvC scope cl C X.env) fp) tg g) (ht : ∀ (s : Shared) (H : Hp) (C : Addr) (cl : List (PySem.Str × Addr)) (fp : List Addr), PTs (X.blk s H scope (compEnvC scope cl C X.env) fp) ifs tt)
    (he : ∀ (s : Shared) (H : Hp) (C : Addr) (cl : List (PySem.Str × Addr)) (fp : List Addr), PE (X.blk s H scope (compEnvC scope cl C X.env) fp) elt te) (hs : ∀ x, foldedSetIterable iter X.env x = pure x) (h : tScX X.w wi g tt te (own.map (·.2)) σ H Q)
    (hR : ∀ D C s' m H', Inv X pins σ H' s' → Q (.ref D) H' → s'.heap.Ns C m → FpOk X pins H' C → compPost (model X.prog X.w) X.A X.xe use Qf (.ref D) C (.ok .next) s') :
    wpAny (model X.prog X.w) X.A (comprehension (.SetComp elt [⟨tg, iter, ifs, 0⟩] scope pos) scope X.env pos' (newSet (.type "set")) false (eval iter X.env) use) Qf X.xe s := by
  refine wpAny_comprehension_free (use := use) rfl hs (closure_ok fun y hy e => ?_) ok.kind (fun y hy e => by rw [ok.uniq y hy, e]) (thn (hi.run pins s σ H _ I h) fun xv s1 hx => thn hx fun itv s2 h2 => ?_)
  · rcases ok.free y hy e with k | k
    · exact I.ok.has _ (.inl k)
    · exact I.ok.has _ (.inr k)
  obtain ⟨it, fp, tn, J, H2, e, I2, T, st2, f2, q⟩ := h2
  subst e
  refine newSet_ok (newEnv_comp ?_)
  generalize hD : s2.heap.objs.size = D
  have nD : H2 D = none := I2.hok.fresh (Nat.le_of_eq hD)
  obtain ⟨W, ⟨m0, w0⟩, turn⟩ := q D nD
  generalize hs3 : ({ s2 with heap := s2.heap.push (TxSet.freshO X.w) } : Shared) = s3
  have h3 : s3.heap = s2.heap.push (TxSet.freshO X.w) := by rw [← hs3]
  have I3 : Inv X pins σ (upd H2 D (SetX X.w D [])) s3 := by
    rw [← hs3]
    refine I2.laid (t' := s2.toks) (fun b o e => Heap.get?_push_of_some _ e) (Nat.le_of_eq hD) ?_
    rw [← hD]
    exact setX_new (TxSet.fresh_set X.w)
  have f3 : ∀ b ∈ fp, FpOk X pins (upd H2 D (SetX X.w D [])) b ∧ b < s3.heap.objs.size := fun b hb => by
    obtain ⟨o, e, _⟩ := T.obj _ _ st2 b hb
    have lt := Heap.lt_size e
    have ne : b ≠ D := by rw [← hD]; exact Nat.ne_of_lt lt
    exact ⟨⟨by rw [upd_ne ne]; exact (f2 b hb).1, (f2 b hb).2⟩, by rw [h3, Heap.size_push]; exact Nat.lt_succ_of_lt lt⟩
  have n3 : ∀ b ∈ fp, (upd H2 D (SetX X.w D [])) b = none := fun b hb => (f3 b hb).1.1
  have st3 : tn 0 s3.heap := T.keep _ _ _ st2 fun b _ o e => by rw [h3]; exact Heap.get?_push_of_some _ e
  have I4 := block_start I3 ok hN f3
  show codeAny _ _ (.compStart (.SetComp elt [⟨tg, iter, ifs, 0⟩] scope pos) 0 (.ref it) (.ref D) (compEnvC scope (cellsFrom (s3.heap.objs.size + 1) scope.names (cloFrom X.env.cells scope.names [])) s3.heap.objs.size X.env)) (compPost (model X.prog X.w) X.A X.xe use Qf (.ref D) s3.heap.objs.size) { s3 with heap := pushCells (s3.heap.push { cls := .type "dict", data := .dict #[] }) scope.names }
  have pg := hg s3 (upd H2 D (SetX X.w D [])) s3.heap.objs.size (cellsFrom (s3.heap.objs.size + 1) scope.names (cloFrom X.env.cells scope.names [])) fp
  have pt := ht s3 (upd H2 D (SetX X.w D [])) s3.heap.objs.size (cellsFrom (s3.heap.objs.size + 1) scope.names (cloFrom X.env.cells scope.names [])) fp
  have pe := he s3 (upd H2 D (SetX X.w D [])) s3.heap.objs.size (cellsFrom (s3.heap.objs.size + 1) scope.names (cloFrom X.env.cells scope.names [])) fp
  generalize hce : compEnvC scope (cellsFrom (s3.heap.objs.size + 1) scope.names (cloFrom X.env.cells scope.names [])) s3.heap.objs.size X.env = ce at I4 pg pt pe ⊢
  have cL : ce.locals = s3.heap.objs.size := by subst hce; rfl
  generalize hH3 : upd H2 D (SetX X.w D []) = H3 at I3 I4 pg pt pe w0 n3 f3
  generalize hs4 : ({ s3 with heap := pushCells (s3.heap.push { cls := .type "dict", data := .dict #[] }) scope.names } : Shared) = s4 at I4 ⊢
  have st4 : tn 0 s4.heap := T.keep _ _ _ st3 fun b _ o e => by rw [← hs4]; exact pushCells_keeps _ _ _ _ (Heap.get?_push_of_some _ e)
  have own_fp : ∀ {σ' : St} {H' : Hp} {s' : Shared}, Inv (X.blk s3 H3 scope ce fp) [] σ' H' s' → (∀ b ∈ fp, H' b = none) → ∀ b ∈ fp, FpOk (X.blk s3 H3 scope ce fp) [] H' b := fun {σ' H' s'} J' hn b hb =>
    ⟨hn b hb, (J'.ok.exf b hb).1, J'.ok.exfs b hb, .inl hb, fun x c e => (J'.ok.exf b hb).2 x c e, fun p hp => absurd (show p ∈ ([] : List (Addr × Obj)) ++ [] from hp) (by simp)⟩
  refine codeAny_compStart_set ?loop (T.self X.A 0 _ _ _ st4 ?loop)
  refine compLoopS_any (fun n s' => ∃ i H', Inv (X.blk s3 H3 scope ce fp) [] (wipe σ (own.map (·.2))) H' s' ∧ tn i s'.heap ∧ (∀ b ∈ fp, H' b = none) ∧ W i n H') ?_ m0 ⟨0, H3, I4, st4, n3, w0⟩
  rintro n s5 ⟨i, H5, I5, st5, n5, w5⟩
  rcases turn i n H5 w5 with ⟨stop, qq⟩ | ⟨go, N, hN', step⟩
  · refine thnF (T.done (X.blk s3 H3 scope ce fp) rfl rfl rfl hc i [] s5 _ H5 (fun _ _ => False) I5 (own_fp I5 n5) st5 stop) fun r s6 ⟨hr, I6⟩ => ?_
    subst hr
    have I7 : Inv X pins σ H5 s6 := I3.call' (ch := fp) I6.os I6.base I6.hok I6.bare fun b hb => ⟨(f3 b hb).1.2.2.2.1, (f3 b hb).1.2.1, (f3 b hb).1.2.2.2.2.1, (f3 b hb).1.2.2.2.2.2⟩
    have nC : H5 s3.heap.objs.size = none := by
      have z : H5 ce.locals = none := I6.free
      rw [cL] at z
      exact z
    obtain ⟨m, hn, _⟩ := I6.loc
    have hn : s6.heap.Ns ce.locals m := hn
    rw [cL] at hn
    exact hR D s3.heap.objs.size s6 m H5 I7 qq hn (I3.fpOk (Nat.le_refl _) nC)
  · refine thnF (T.item (X.blk s3 H3 scope ce fp) rfl rfl rfl hc i [] s5 _ H5 (fun _ _ => False) I5 (own_fp I5 n5) st5 go) fun r s6 ⟨u, hr, h6⟩ => ?_
    subst hr
    refine thnF h6 fun _ s7 ⟨x, H7, I7, r7, y7, st7, n7⟩ => ?_
    refine thnF (pg.run _ s7 _ H7 x u _ (I7.pinned (own_fp I7 n7) (T.obj _ _ st7)) r7 (step x H7 y7)) fun _ s8 ⟨σ8, H8, I8, hw8, q8⟩ => ?_
    refine thnF (pt.run _ s8 σ8 H8 _ I8 q8) fun b s9 ⟨H9, I9, q9⟩ => ?_
    have fin : ∀ {s' : Shared} {H' : Hp}, Inv (X.blk s3 H3 scope ce fp) ([] ++ pinsAt fp s7.heap) σ8 H' s' → N H' → ∃ m, m < n ∧ ∃ i H', Inv (X.blk s3 H3 scope ce fp) [] (wipe σ (own.map (·.2))) H' s' ∧ tn i s'.heap ∧ (∀ b ∈ fp, H' b = none) ∧ W i m H' := fun {s' H'} J' nx => by
      obtain ⟨m', hm, w'⟩ := hN' H' nx
      have pin : ∀ b ∈ fp, ∀ o, s7.heap.get? b = some o → s'.heap.get? b = some o ∧ H' b = none := fun b hb o e =>
        let z := J'.pin (b, o) (List.mem_append_right _ (List.mem_append_right _ (mem_pinsAt hb e)))
        ⟨z.1, z.2.1⟩
      refine ⟨m', hm, i + 1, H', (J'.unpinned (pins := [])).weak (by rw [← hw8, wipe_length]) (fun j v e => ?_), T.keep _ _ _ st7 fun b hb o e => (pin b hb o e).1, fun b hb => ?_, w'⟩
      · rw [← hw8] at e
        exact (wipe_some e).1
      · obtain ⟨o, e, _⟩ := T.obj _ _ st7 b hb
        exact (pin b hb o e).2
    cases b with
    | false =>
      simp only [Bool.false_eq_true, if_false] at q9 ⊢
      exact fin I9 q9
    | true =>
      simp only [if_true] at q9 ⊢
      refine thnF (pe.run _ s9 σ8 H9 _ I9 q9) fun z s10 ⟨yv, H10, I10, r10, kb, L0, ey, hD10, hz10, nx⟩ => ?_
      subst ey
      obtain ⟨tk, e⟩ := (show ∃ t, z = Value.str kb t from r10)
      subst e
      exact setX_add (X := X.blk s3 H3 scope ce fp) I10 hD10 hz10 fun s11 I11 => fin I11 nx
theorem pe_scX (hc : X.calm = true) (hN : X.N.Nodup) (hi : PI X tg iter wi) (ok : BlkOk X.N X.env.scope scope own)
    (hg : ∀ (s : Shared) (H : Hp) (C : Addr) (cl : List (PySem.Str × Addr)) (fp : List Addr), PG (X.blk s H scope (compEnvC scope cl C X.env) fp) tg g) (ht : ∀ (s : Shared) (H : Hp) (C : Addr) (cl : List (PySem.Str × Addr)) (fp : List Addr), PTs (X.blk s H scope (compEnvC scope cl C X.env) fp) ifs tt)
    (he : ∀ (s : Shared) (H : Hp) (C : Addr) (cl : List (PySem.Str × Addr)) (fp : List Addr), PE (X.blk s H scope (compEnvC scope cl C X.env) fp) elt te) (hs : ∀ x, foldedSetIterable iter X.env x = pure x := by intro _; rfl) :
    PE X (.SetComp elt [⟨tg, iter, ifs, 0⟩] scope pos) (tScX X.w wi g tt te (own.map (·.2))) := by
  refine ⟨fun pins s σ H Q I h => ?_⟩
  rw [eval_SetComp]
  refine scX_core hc hN I hi ok hg ht he hs h fun D C s' m H' I' q hn f => ⟨m, hn, fun h'' sb => ?_⟩
  obtain ⟨f0, f1, f2, f3, f4, f5⟩ := f
  exact ⟨.ref D, H', I'.turned (t' := s'.toks) (fun b o hb e => (sb.2 b hb).trans e) f0 f1 f3 f4 f5, rfl, q⟩
end
/-- over a list that stays -/
theorem scX_list {w : World} {K : PySem.W.Frag} {a : Addr} {xs : List V} {g : TG} {tt : TT} {te : TE} {vs : List Nat} {σ : St} {H1 : Hp} {D : Addr} {Qd : Hp → Prop} (Pv : Nat → Hp → Prop) (h0 : Pv 0 (upd H1 D (SetX w D []))) (hl : ∀ i H, i ≤ xs.length → Pv i H → SqL K H a xs)
    (hs : ∀ i x H, xs[i]? = some x → Pv i H → g x (wipe σ vs) H fun σ2 H2 => wipe σ2 vs = wipe σ vs ∧ tt σ2 H2 fun b H3 => if b = true then tPut w te D (Pv (i + 1)) σ2 H3 else Pv (i + 1) H3) (hd : ∀ H, Pv xs.length H → Qd H) :
    ∃ W : Nat → Nat → Hp → Prop, (∃ m, W 0 m (upd H1 D (SetX w D []))) ∧ ∀ i m H, W i m H →
      ((Itl K a).stop i H ∧ Qd H) ∨ ((Itl K a).go i H ∧ ∃ N : Hp → Prop, (∀ H', N H' → ∃ m', m' < m ∧ W (i + 1) m' H') ∧ ∀ x H', (Itl K a).yld i H x H' → g x (wipe σ vs) H' fun σ2 H2 => wipe σ2 vs = wipe σ vs ∧ tt σ2 H2 fun b H3 => if b = true then tPut w te D N σ2 H3 else N H3) := by
  refine ⟨fun i m H => m = xs.length - i ∧ i ≤ xs.length ∧ Pv i H, ⟨_, rfl, Nat.zero_le _, h0⟩, ?_⟩
  rintro i m H ⟨rfl, hi, p⟩
  have q := hl i H hi p
  rcases Nat.lt_or_ge i xs.length with lt | ge
  · refine .inr ⟨⟨xs, xs[i], q, by simp [lt]⟩, Pv (i + 1), fun H' p' => ⟨xs.length - (i + 1), by omega, rfl, lt, p'⟩, fun x H' y => ?_⟩
    obtain ⟨e, y⟩ := y
    subst e
    exact hs i x _ (y xs q) p
  · have e : i = xs.length := by omega
    subst e
    exact .inl ⟨⟨xs, q, Nat.le_refl _⟩, hd H p⟩
end L2
end
section
set_option Elab.async false
set_option linter.all false
set_option maxRecDepth 100000
set_option maxHeartbeats 4000000
namespace K81
open PySem PySem.Spec PyProof.Rows L2
/-! ### the text by places -/
def top (i : Nat) : Stmt := PySem.Challenge.pw_gatequarters_k81_whole_stages.main.body.getD i (.Pass ⟨0, 0, 0, 0⟩)
abbrev sCount : Stmt := top 9
abbrev sWhole : Stmt := top 8
abbrev sAreStreets : Stmt := top 20
abbrev sAreGates : Stmt := top 22
abbrev sIsWord : Stmt := top 18
abbrev sIsStreet : Stmt := top 19
abbrev sChkStreets : Stmt := top 21
abbrev sChkGates : Stmt := top 23
abbrev sChkQuarter : Stmt := top 25
abbrev sSub : Stmt := top 11
abbrev sPoss : Stmt := top 12
abbrev sChkPos : Stmt := top 13
abbrev sSetW : Stmt := top 15
abbrev sShut : Stmt := top 16
abbrev sIsChange : Stmt := top 26
abbrev sAltered : Stmt := top 27
abbrev sChangedS : Stmt := top 28
abbrev sFitted : Stmt := top 29
abbrev sChanged : Stmt := top 30
abbrev sWhile : Stmt := top 32
abbrev sStage : Stmt := top 34
abbrev sDuring : Stmt := top 35
abbrev sLots : Stmt := top 53
abbrev sWorks : Stmt := top 54
abbrev sDone : Stmt := top 55
abbrev sLater : Stmt := top 56
abbrev sMade : Stmt := top 57
abbrev sStages : Stmt := top 58
abbrev sPurse : Stmt := top 37
abbrev sMixed : Stmt := top 38
abbrev sDraw : Stmt := top 39
abbrev sPurses : Stmt := top 40
abbrev sOneOf : Stmt := top 41
abbrev sShuffled : Stmt := top 42
abbrev sExact : Stmt := top 43
abbrev sWord : Stmt := top 44
abbrev sWords : Stmt := top 45
abbrev sWidth : Stmt := top 46
abbrev sLength : Stmt := top 47
abbrev sPair : Stmt := top 48
abbrev sShape : Stmt := top 49
abbrev sStreetsOf : Stmt := top 50
abbrev sWorld : Stmt := top 51
abbrev sQuarter : Stmt := top 52
abbrev sGrown : Stmt := top 59
abbrev sLaw : Stmt := top 60
def frees : List Str := ["sum", "int", "max", "min", "len", "range", "isinstance", "list", "dict", "tuple", "all", "bool", "str", "set", "sorted", "zip", "reversed", "any"]
abbrev FnP (K : PySem.W.Frag) (x : Str) (st : Stmt) (f : Addr) (fd : FuncData) : Prop := FunD K x x (defArgs st) (defBody st) (defScope st) [] [] f fd
/-- what the head has told of names -/
structure Tx (K : PySem.W.Frag) (mg : Str → Option Value) : Prop where
  fr : ∀ x ∈ frees, mg x = none
/-- a def of the text that keeps a promise, as it is called -/
def Fz (P : Program) (w : World) (K : PySem.W.Frag) (mg : Str → Option Value) (base : Heap) (x : Str) (k : Nat) (ps : List Str) (sp : Sp) : Prop :=
  ∃ (g : Addr) (fd : FuncData), FnOk P w K mg base CX0 k g fd ps sp ∧ mg x = some (.ref g) ∧ PySem.W.keepIn K (.ref g) = true ∧ Binds K fd ps []
theorem Fz.mono {P : Program} {w : World} {K : PySem.W.Frag} {mg : Str → Option Value} {base : Heap} {x : Str} {j k : Nat} {ps : List Str} {sp : Sp} (Z : Fz P w K mg base x j ps sp) (h : j ≤ k) : Fz P w K mg base x k ps sp := by
  obtain ⟨g, fd, F, r⟩ := Z
  exact ⟨g, fd, F.mono h, r⟩
section
variable {X : Cx} {x : Str} {k : Nat} {ps : List Str} {sp : Sp} {p pos : Pos} {e : Expr} {es : List Expr} {t : TA}
theorem pe_fz (Z : Fz X.prog X.w X.K X.mg X.base x k ps sp) (hr : Room k X.A) (hg : Gl X x) (ha : PA X (e :: es) t) (hdb : (x == ("__debug__" : Str)) = false := by decide)
    (he : starEach (e :: es) X.env = (false, eval e X.env) :: starEach es X.env := by rfl) (hpl : (backTo pos (starEach es X.env)).any (·.1) = false := by rfl) : PE X (.Call (.Name x p) (e :: es) [] pos) (tCall sp [] E0 t) := by
  obtain ⟨g, fd, F, hm, hk, hb⟩ := Z
  exact pe_call F hr hg hm hk hb .nil pass0 ha hdb he hpl
theorem pe_fz0 (Z : Fz X.prog X.w X.K X.mg X.base x k ps sp) (hr : Room k X.A) (hg : Gl X x) (hdb : (x == ("__debug__" : Str)) = false := by decide) : PE X (.Call (.Name x p) [] [] pos) (tCall sp [] E0 tNil) := by
  obtain ⟨g, fd, F, hm, hk, hb⟩ := Z
  exact pe_call0 F hr hg hm hk hb .nil pass0 hdb
end
/-- a statement that is never reached -/
theorem ps_never {X : Cx} {st : Stmt} : PS X st (fun _ _ _ => False) := ⟨fun _ _ _ _ _ _ h => h.elim⟩
end K81
end
section
set_option Elab.async false
set_option linter.all false
set_option maxRecDepth 100000
set_option maxHeartbeats 4000000
namespace K81
open PySem PySem.Spec PyProof.Rows L2
/-! ### numbers -/
section
variable {X : Cx}
theorem op_powB : OpR X (binaryOp .Pow) (rI (fun i j => 0 ≤ j ∧ (Builtin.Int.intBits i : Int) * j ≤ 2 ^ 27) fun i j => .int (i ^ j.toNat)) := opI fun _ _ _ _ _ _ _ hc q => pow_int hc.1 hc.2 q
end
/-- a purse of at most n draws -/
def PuOk (n : Int) (xs : List V) : Prop := ∃ a s t k : Int, xs = [.int a, .int s, .int t, .int k] ∧ 0 ≤ a ∧ 0 ≤ s ∧ s < 2147483629 ∧ 0 ≤ t ∧ t ≤ n ∧ 0 ≤ k ∧ k ≤ 3
theorem PuOk.mono {n m : Int} {xs : List V} (h : PuOk n xs) (l : n ≤ m) : PuOk m xs := by
  obtain ⟨a, s, t, k, e, h1, h2, h3, h4, h5, h6, h7⟩ := h
  exact ⟨a, s, t, k, e, h1, h2, h3, h4, by omega, h6, h7⟩
theorem bits_small {m : Int} (h0 : 0 ≤ m) (h1 : m < 128) : ((Builtin.Int.intBits m : Nat) : Int) / 28 = 0 := by
  obtain ⟨n, rfl⟩ := Int.eq_ofNat_of_zero_le h0
  have hn : n < 128 := by omega
  have key : ∀ n : Fin 128, ((Builtin.Int.intBits ((n.val : Nat) : Int) : Nat) : Int) / 28 = 0 := by decide +kernel
  exact key ⟨n, hn⟩
section
variable {P : Program} {w : World} {K : PySem.W.Frag} {mg : Str → Option Value} {base : Heap}
/-! ### _law_mixed -/
def spMixed : Sp := fun vs H Q _ => ∃ s t k : Int, vs = [.int s, .int t, .int k] ∧ 0 ≤ s ∧ s < 2147483648 ∧ 0 ≤ t ∧ t ≤ 1000000 ∧ 0 ≤ k ∧ k ≤ 3 ∧ ∀ r : Int, Q (.int r) H
theorem scMixed : FnScope ["_law_seed", "_law_turn", "_law_at", "_law_mixed_here"] ["_law_seed", "_law_turn", "_law_at"] (defScope sMixed) := ⟨rfl, rfl, rfl, by decide +kernel, rfl, by decide +kernel, by decide +kernel⟩
theorem ok_mixed {f : Addr} {fd : FuncData} (F : FnP K "_law_mixed" sMixed f fd) (T : Tx K mg) : FnOk P w K mg base CX0 1 f fd ["_law_seed", "_law_turn", "_law_at"] spMixed := by
  refine F.ok scMixed (fun vs H Q E h => ?_) (fun cdv A outer s H vs Q E hr h => ?_)
  · obtain ⟨_, _, _, rfl, _⟩ := h
    rfl
  · obtain ⟨s, t, k, rfl, s0, s1, t0, t1, k0, k1, q⟩ := h
    have gI := T.fr "int" (by decide +kernel)
    refine ⟨_, PSs.nox (pss_cons (ps_set (i := 3) scMixed.nd rfl (Or.inl rfl) (pe_op op_add (pe_op op_mul (pv 0) pe_int) (pe_op op_mul (pe_op op_mul pe_int (pv 1)) (pv 1))))
      (pss_cons (ps_set (i := 3) scMixed.nd rfl (Or.inl rfl) (pe_op op_mod (pe_callTy call_int1 (by rfl) gI (by decide +kernel) (pa_cons (pe_op op_add (pe_op op_add (pv 3) (pe_op op_mul pe_int (pv 2))) (pv 1)) pa_nil)) pe_int))
      (pss_cons (ps_set (i := 3) scMixed.nd rfl (Or.inl rfl) (pe_op op_mod (pe_callTy call_int1 (by rfl) gI (by decide +kernel) (pa_cons (pe_op op_add (pe_op op_mul (pv 3) (pv 3)) pe_int) pa_nil)) pe_int))
      (pss_one (ps_ret (pe_op op_mod (pe_callTy call_int1 (by rfl) gI (by decide +kernel) (pa_cons (pe_op op_mul (pv 3) pe_int) pa_nil)) pe_int)))))), ?_⟩
    have e0 : ∀ {a b : Int}, 0 < b → 0 ≤ a % b ∧ a % b < b := fun h => ⟨Int.emod_nonneg _ (by omega), Int.emod_lt_of_pos _ h⟩
    refine ⟨_, rfl, _, _, rfl, rfl, Or.inr ⟨by decide, by decide⟩, _, rfl, _, _, rfl, rfl, Or.inl ⟨by decide, by decide⟩, _, rfl, _, _, rfl, rfl, Or.inr ⟨by omega, by omega⟩, _, _, rfl, rfl, ?_⟩
    refine ⟨_, rfl, _, rfl, _, _, rfl, rfl, Or.inl ⟨by decide, by decide⟩, _, _, rfl, rfl, _, rfl, _, _, rfl, rfl, Or.inl ⟨_, rfl, _, _, rfl, rfl, (by show (0 : Int) < _; decide), ?_⟩⟩
    generalize hx : (s * 69069 + 104729 * t * t + 7919 * k + t) % 2147483647 = x
    have bx := @e0 (s * 69069 + 104729 * t * t + 7919 * k + t) 2147483647 (by decide)
    rw [hx] at bx
    refine ⟨_, rfl, _, rfl, _, _, rfl, rfl, Or.inl ⟨by omega, by omega⟩, _, _, rfl, rfl, Or.inl ⟨_, rfl, _, _, rfl, rfl, (by show (0 : Int) < _; decide), ?_⟩⟩
    generalize hy : (x * x + 40503) % 2147483629 = y
    have b_y := @e0 (x * x + 40503) 2147483629 (by decide)
    rw [hy] at b_y
    exact ⟨_, rfl, _, _, rfl, rfl, Or.inl ⟨by omega, by omega⟩, Or.inl ⟨_, rfl, _, _, rfl, rfl, (by show (0 : Int) < _; decide), q _⟩⟩

/-! ### _law_draw -/
def spDraw : Sp := fun vs H Q _ => ∃ (p : Addr) (m n : Int) (xs : List V), vs = [.ref p, .int m] ∧ H p = some (.lst xs) ∧ PuOk n xs ∧ n ≤ 900000 ∧ 0 < m ∧ m < 128 ∧
  ∀ (r : Int) (ys : List V), 0 ≤ r → r < m → PuOk (n + 1) ys → Q (.int r) (upd H p (.lst ys))
theorem scDraw : FnScope ["_law_purse_here", "_law_many", "_law_drawn", "_law_found", "_law_piece"] ["_law_purse_here", "_law_many"] (defScope sDraw) := ⟨rfl, rfl, rfl, by decide +kernel, rfl, by decide +kernel, by decide +kernel⟩
theorem ok_draw {f g : Addr} {fd fdM : FuncData} (F : FnP K "_law_draw" sDraw f fd) (FM : FnP K "_law_mixed" sMixed g fdM) (hgM : mg "_law_mixed" = some (.ref g)) (T : Tx K mg) :
    FnOk P w K mg base CX0 2 f fd ["_law_purse_here", "_law_many"] spDraw := by
  have GM : FnOk P w K mg base CX0 1 g fdM ["_law_seed", "_law_turn", "_law_at"] spMixed := ok_mixed FM T
  have bM : Binds K fdM ["_law_seed", "_law_turn", "_law_at"] [] := FM.bindsN fun _ _ _ _ _ _ us hl => match us, hl with | [_, _, _], _ => rfl
  refine F.ok scDraw (fun vs H Q E h => ?_) (fun cdv A outer s H vs Q E hr h => ?_)
  · obtain ⟨_, _, _, _, rfl, _⟩ := h
    rfl
  · obtain ⟨p, m, n, xs, rfl, hp, ⟨a, sd, t, k, rfl, a0, s0, s1, t0, t1, k0, k1⟩, hn, m0, m1, q⟩ := h
    have gI := T.fr "int" (by decide +kernel)
    have gR := T.fr "range" (by decide +kernel)
    refine ⟨_, PSs.nox (pss_cons (ps_if (pt_cmpR op_gt (pe_ix ix_list (pv 0) pe_int (fun _ _ => rfl)) pe_int (nomark _))
        (pss_cons (ps_set (i := 2) scDraw.nd rfl (Or.inl rfl) (pe_op op_mod (pe_callTy call_int1 (by rfl) gI (by decide +kernel) (pa_cons (pe_ix ix_list (pv 0) pe_int (fun _ _ => rfl)) pa_nil)) (pv 1)))
        (pss_cons (ps_asg (pe_op op_fdiv (pe_ix ix_list (pv 0) pe_int (fun _ _ => rfl)) (pv 1)) (pg_sub (pv 0) pe_int set_list))
        (pss_one (ps_ret (pv 2))))) pss_nil)
      (pss_cons (ps_set (i := 3) scDraw.nd rfl (Or.inl rfl) pe_int)
      (pss_cons (ps_for PassesOwn.never rfl (pi_range1 rfl gR (pa_cons (pe_op op_add pe_int (pe_op op_fdiv (pe_bits (pv 1)) pe_int)) pa_nil)) (pg_name (i := 4) scDraw.nd rfl (Or.inl rfl))
        (pss_cons (ps_asg (pe_op op_add (pe_ix ix_list (pv 0) pe_int (fun _ _ => rfl)) pe_int) (pg_sub (pv 0) pe_int set_list))
        (pss_one (ps_set (i := 3) scDraw.nd rfl (Or.inl rfl) (pe_op op_add (pe_op op_mul (pv 3) pe_int)
          (pe_call GM hr rfl hgM FM.kp bM .nil pass0 (pa_cons (pe_ix ix_list (pv 0) pe_int (fun _ _ => rfl)) (pa_cons (pe_ix ix_list (pv 0) pe_int (fun _ _ => rfl)) (pa_cons (pe_ix ix_list (pv 0) pe_int (fun _ _ => rfl)) pa_nil)))))))))
      (pss_one (ps_ret (pe_op op_mod (pe_callTy call_int1 (by rfl) gI (by decide +kernel) (pa_cons (pv 3) pa_nil)) (pv 1))))))), ?_⟩
    have hS : SqL K H p [.int a, .int sd, .int t, .int k] := SqL.of hp
    refine ⟨_, rfl, p, _, 0, _, rfl, rfl, hS, rfl, _, _, rfl, rfl, _, rfl, ?_⟩
    refine ite2 (fun hc => ?_) (fun _ => ?_)
    · refine ⟨_, rfl, p, _, 0, _, rfl, rfl, hS, rfl, Or.inl ⟨_, rfl, _, rfl, _, _, rfl, rfl, m0, ?_⟩⟩
      refine ⟨_, rfl, p, _, 0, _, rfl, rfl, hS, rfl, _, rfl, _, _, rfl, rfl, ⟨m0, by omega⟩, _, rfl, p, _, 0, 0, rfl, rfl, hp, rfl, _, rfl, ?_⟩
      exact q _ _ (Int.emod_nonneg _ (by omega)) (Int.emod_lt_of_pos _ m0) ⟨a / m, sd, t, k, rfl, Int.ediv_nonneg a0 (by omega), s0, s1, t0, by omega, k0, k1⟩
    · refine ⟨_, rfl, _, rfl, _, _, rfl, rfl, ⟨by decide, by decide⟩, _, _, rfl, rfl, 1, ?_, by decide, by decide, ?_⟩
      · rw [bits_small (by omega) m1]
        rfl
      · refine for_range (n := 1) (fun i σ H' => (i = 0 ∧ H' = H ∧ σ = [some (.ref p), some (.int m), none, some (.int 0), none]) ∨ (i = 1 ∧ ∃ r : Int, H' = upd H p (.lst [.int a, .int sd, .int (t + 1), .int k]) ∧ ∃ z, σ = [some (.ref p), some (.int m), none, some (.int r), z]))
          (Or.inl ⟨rfl, rfl, rfl⟩) ?_ ?_
        · rintro i σ H' hi (⟨rfl, rfl, rfl⟩ | ⟨rfl, _⟩)
          · have h2 : upd H' p (.lst [.int a, .int sd, .int (t + 1), .int k]) p = some (.lst [.int a, .int sd, .int (t + 1), .int k]) := upd_same
            have hS2 : SqL K (upd H' p (.lst [.int a, .int sd, .int (t + 1), .int k])) p [.int a, .int sd, .int (t + 1), .int k] := SqL.of h2
            refine ⟨_, rfl, p, _, 2, _, rfl, rfl, hS, rfl, _, _, rfl, rfl, _, rfl, p, _, 2, 2, rfl, rfl, hp, rfl, ?_⟩
            refine ⟨_, rfl, _, _, rfl, rfl, Or.inl ⟨by decide, by decide⟩, _, rfl, p, _, 1, _, rfl, rfl, hS2, rfl, _, rfl, p, _, 2, _, rfl, rfl, hS2, rfl, _, rfl, p, _, 3, _, rfl, rfl, hS2, rfl, ?_⟩
            refine ⟨sd, t + 1, k, rfl, s0, by omega, by omega, by omega, k0, k1, fun r => ⟨_, _, rfl, rfl, ?_⟩⟩
            exact Or.inr ⟨rfl, _, rfl, _, rfl⟩
          · omega
        · rintro σ H' (⟨e, _⟩ | ⟨_, r, rfl, z, rfl⟩)
          · cases e
          · refine ⟨_, rfl, Or.inl ⟨_, rfl, _, rfl, _, _, rfl, rfl, m0, ?_⟩⟩
            exact q _ _ (Int.emod_nonneg _ (by omega)) (Int.emod_lt_of_pos _ m0) ⟨a, sd, t + 1, k, rfl, a0, s0, s1, by omega, by omega, k0, k1⟩
end
end K81
end
section
set_option Elab.async false
set_option linter.all false
set_option maxRecDepth 100000
set_option maxHeartbeats 4000000
namespace K81
open PySem PySem.Spec PyProof.Rows L2
/-! ### texts -/
def one (c : Nat) : Str := ⟨#[c]⟩
theorem str_join_codes : ∀ cs : List Nat, (Str.join (Str.ofString "") (cs.map one)).cps.toList = cs
  | [] => rfl
  | [c] => rfl
  | c :: d :: r => by
    have ih := str_join_codes (d :: r)
    show (((one c).cps ++ (Str.ofString "").cps) ++ (Str.join (Str.ofString "") ((d :: r).map one)).cps).toList = _
    rw [Array.toList_append, Array.toList_append, ih]
    rfl
theorem join_codes (cs : List Nat) : (Txt.join (Str.ofString "") (cs.map one)).cps.toList = cs := by
  have e : Txt.join (Str.ofString "") (cs.map one) = Str.join (Str.ofString "") (cs.map one) := StrLaws.glued_eq_join _ _
  rw [e]
  exact str_join_codes cs
theorem str_length (z : Str) : z.length = z.cps.toList.length := by
  show z.cps.size = z.cps.toList.length
  simp
/-- a word: at most eight small letters -/
def Wd (z : Str) : Prop := 1 ≤ z.cps.toList.length ∧ z.cps.toList.length ≤ 8 ∧ ∀ c ∈ z.cps.toList, 97 ≤ c ∧ c ≤ 122
def abc : Str := "abcdefghijklmnopqrstuvwxyz"
theorem abc_at {r : Int} (h0 : 0 ≤ r) (h1 : r < 26) : abc.cps[r.toNat]? = some (97 + r.toNat) := by
  obtain ⟨n, rfl⟩ := Int.eq_ofNat_of_zero_le h0
  have hn : n < 26 := by omega
  have key : ∀ n : Fin 26, abc.cps[((n.val : Nat) : Int).toNat]? = some (97 + ((n.val : Nat) : Int).toNat) := by decide +kernel
  exact key ⟨n, hn⟩
theorem ones_len : ∀ cs : List Nat, ((cs.map one).map (·.length)).sum = cs.length
  | [] => rfl
  | c :: cs => by
    have ih := ones_len cs
    simp only [List.map_cons, List.sum_cons, List.length_cons, ih]
    show 1 + _ = _
    omega
/-- all that is tracked beside p stays -/
def But (p : Addr) (H H' : Hp) : Prop := ∀ b o, b ≠ p → H b = some o → H' b = some o
section
variable {P : Program} {w : World} {K : PySem.W.Frag} {mg : Str → Option Value} {base : Heap}
/-! ### _law_one_of -/
def spOneOf : Sp := fun vs H Q _ => ∃ (p l : Addr) (n : Int) (xs zs : List V), vs = [.ref p, .ref l] ∧ H p = some (.lst xs) ∧ PuOk n xs ∧ n ≤ 900000 ∧ H l = some (.lst zs) ∧ p ≠ l ∧ 0 < zs.length ∧ zs.length < 128 ∧
  ∀ (j : Nat) (z : V) (ys : List V), zs[j]? = some z → PuOk (n + 1) ys → Q z (upd H p (.lst ys))
theorem scOneOf : FnScope ["_law_purse_here", "_law_some"] ["_law_purse_here", "_law_some"] (defScope sOneOf) := ⟨rfl, rfl, rfl, by decide +kernel, rfl, by decide +kernel, by decide +kernel⟩
theorem ok_oneOf {f g : Addr} {fd fdD : FuncData} (F : FnP K "_law_one_of" sOneOf f fd) (GD : FnOk P w K mg base CX0 2 g fdD ["_law_purse_here", "_law_many"] spDraw) (FD : FnP K "_law_draw" sDraw g fdD) (hgD : mg "_law_draw" = some (.ref g)) (T : Tx K mg) :
    FnOk P w K mg base CX0 3 f fd ["_law_purse_here", "_law_some"] spOneOf := by
  have bD : Binds K fdD ["_law_purse_here", "_law_many"] [] := FD.bindsN fun _ _ _ _ _ _ us hl => match us, hl with | [_, _], _ => rfl
  refine F.ok scOneOf (fun vs H Q E h => ?_) (fun cdv A outer s H vs Q E hr h => ?_)
  · obtain ⟨_, _, _, _, _, rfl, _⟩ := h
    rfl
  · obtain ⟨p, l, n, xs, zs, rfl, hp, hx, hn, hl, npl, l0, l1, q⟩ := h
    have gL := T.fr "len" (by decide +kernel)
    refine ⟨_, PSs.nox (pss_one (ps_ret (pe_ix ix_list (pv 1) (pe_call GD hr rfl hgD FD.kp bD .nil pass0 (pa_cons (pv 0) (pa_cons (pe_callB call_len_seq (by rfl) gL PySem.boot_len (pa_cons (pv 1) pa_nil)) pa_nil))) (fun _ _ => rfl)))), ?_⟩
    refine ⟨_, rfl, _, rfl, _, rfl, l, _, rfl, Or.inl (SqL.of hl), p, _, n, xs, rfl, hp, hx, hn, by omega, by omega, fun r ys r0 r1 hy => ?_⟩
    obtain ⟨j, rfl⟩ := Int.eq_ofNat_of_zero_le r0
    have hj : j < zs.length := by omega
    have e : zs[j]? = some zs[j] := List.getElem?_eq_getElem hj
    exact ⟨l, zs, (j : Nat), zs[j], rfl, rfl, SqL.of (by rw [upd_ne (Ne.symm npl)]; exact hl), atI_nat e, q j _ ys e hy⟩
/-! ### _law_word -/
def spWord : Sp := fun vs H Q _ => ∃ (p : Addr) (n : Int) (xs : List V), vs = [.ref p] ∧ H p = some (.lst xs) ∧ PuOk n xs ∧ n ≤ 800000 ∧
  ∀ (z : Str) (ys : List V) (H' : Hp), Wd z → PuOk (n + 10) ys → But p H H' → H' p = some (.lst ys) → Q (.str z) H'
theorem scWord : FnScope ["_law_purse_here", "_law_size", "_law_turn"] ["_law_purse_here"] (defScope sWord) := ⟨rfl, rfl, rfl, by decide +kernel, rfl, by decide +kernel, by decide +kernel⟩
theorem ok_word {f g : Addr} {fd fdD : FuncData} (F : FnP K "_law_word" sWord f fd) (GD : FnOk P w K mg base CX0 2 g fdD ["_law_purse_here", "_law_many"] spDraw) (FD : FnP K "_law_draw" sDraw g fdD) (hgD : mg "_law_draw" = some (.ref g)) (T : Tx K mg) :
    FnOk P w K mg base CX0 3 f fd ["_law_purse_here"] spWord := by
  have bD : Binds K fdD ["_law_purse_here", "_law_many"] [] := FD.bindsN fun _ _ _ _ _ _ us hl => match us, hl with | [_, _], _ => rfl
  refine F.ok scWord (fun vs H Q E h => ?_) (fun cdv A outer s H vs Q E hr h => ?_)
  · obtain ⟨_, _, _, rfl, _⟩ := h
    rfl
  · obtain ⟨p, n, xs, rfl, hp, hx, hn, q⟩ := h
    have gR := T.fr "range" (by decide +kernel)
    refine ⟨_, PSs.nox (pss_cons (ps_set (i := 1) scWord.nd rfl (Or.inl rfl) (pe_op op_add pe_int (pe_call GD hr rfl hgD FD.kp bD .nil pass0 (pa_cons (pv 0) (pa_cons
        (pe_ifExp (pt_cmpR op_eq (pe_call GD hr rfl hgD FD.kp bD .nil pass0 (pa_cons (pv 0) (pa_cons pe_int pa_nil))) pe_int (nomark _)) pe_int pe_int) pa_nil)))))
      (pss_one (ps_ret (pe_join pe_str (pe_lc (own := [("_law_turn", 2)]) (g := gName 2) (tt := tYes) rfl scWord.nd (pi_range1 rfl gR (pa_cons (pv 1) pa_nil)) (blkOk_by (own := [("_law_turn", 2)]) (N := ["_law_purse_here", "_law_size", "_law_turn"]) (sc := defScope sWord) (by decide +kernel))
        (fun _ _ _ _ _ => pg_name (i := 2) scWord.nd rfl (Or.inl rfl)) (fun _ _ _ _ _ => pts_nil)
        (fun _ _ _ _ _ => pe_item_str pe_str (pe_call GD hr rfl hgD FD.kp bD .nil pass0 (pa_cons (pv 0) (pa_cons pe_int pa_nil))) (fun _ _ => rfl))))))), ?_⟩
    refine ⟨_, rfl, _, rfl, p, 3, n, xs, rfl, hp, hx, by omega, by decide, by decide, fun r1 ys1 a1 b1 hy1 => ⟨rfl, _, rfl, ?_⟩⟩
    refine ite2 (fun _ => ?_) (fun _ => ?_)
    all_goals
      refine ⟨p, _, n + 1, ys1, rfl, upd_same, hy1, by omega, by decide, by decide, fun r2 ys2 a2 b2 hy2 => ?_⟩
      refine ⟨_, _, rfl, rfl, ⟨_, rfl⟩, _, rfl, _, rfl, by omega, by omega, fun D hD => ?_⟩
      have hp2 : upd (upd H p (.lst ys1)) p (.lst ys2) p = some (.lst ys2) := upd_same
      have npD : p ≠ D := ne_of_none hp2 hD
      refine lc_range (lo := 0) (n := (1 + r2).toNat) (fun i H' => ∃ (xs' : List V) (cs : List Nat), H' p = some (.lst xs') ∧ PuOk (n + 2 + (i : Nat)) xs' ∧ cs.length = i ∧ (∀ c ∈ cs, 97 ≤ c ∧ c ≤ 122) ∧ H' D = some (.lst ((cs.map one).map V.str)) ∧ But p H H')
        ⟨ys2, [], by rw [upd_ne npD]; exact hp2, hy2.mono (by omega), rfl, fun c z => absurd z (by simp), upd_same, fun b o nb e => ?_⟩ ?_ ?_
      · have e2 : upd (upd H p (.lst ys1)) p (.lst ys2) b = some o := by rw [upd_ne nb, upd_ne nb]; exact e
        rw [upd_ne (ne_of_none e2 hD)]
        exact e2
      · rintro i H' hi ⟨xs', cs, h1, h2, h3, h4, h5, h6⟩
        refine ⟨rfl, _, rfl, p, 26, n + 2 + (i : Nat), xs', rfl, h1, h2, by omega, by decide, by decide, fun r ys r0 r3 hy => ?_⟩
        have hl : (abc.length : Int) = 26 := by decide +kernel
        refine ⟨abc, r, 97 + r.toNat, rfl, rfl, r0, by omega, by omega, abc_at r0 r3, (cs.map one).map V.str, by rw [upd_ne (Ne.symm npD)]; exact h5, ?_, ys, cs ++ [97 + r.toNat], ?_, hy.mono (by push_cast; omega), by simp [h3], ?_, ?_, ?_⟩
        · rw [List.length_map, List.length_map, h3, sizeLine_eq]
          omega
        · rw [upd_ne npD]
          exact upd_same
        · intro c hc
          rcases List.mem_append.mp hc with z | z
          · exact h4 c z
          · have e := List.mem_singleton.mp z
            omega
        · rw [upd_same, List.map_append, List.map_append]
          rfl
        · intro b o nb e
          have e2 := h6 b o nb e
          have nD : b ≠ D := fun z => by
            have e3 : upd (upd H p (.lst ys1)) p (.lst ys2) b = some o := by rw [upd_ne nb, upd_ne nb]; exact e
            rw [z, hD] at e3
            cases e3
          rw [upd_ne nD, upd_ne nb]
          exact e2
      · rintro H' ⟨xs', cs, h1, h2, h3, h4, h5, h6⟩
        have e := join_codes cs
        refine ⟨_, D, cs.map one, rfl, rfl, Or.inl (SqL.of h5), ?_, q _ xs' H' ⟨?_, ?_, ?_⟩ (h2.mono (by omega)) h6 h1⟩
        · rw [ones_len, List.length_map, h3]
          have : (Str.ofString "").length = 0 := by decide +kernel
          rw [this]
          omega
        · rw [e, h3]
          omega
        · rw [e, h3]
          omega
        · rw [e]
          exact h4
end
end K81
end
section
set_option Elab.async false
set_option linter.all false
set_option maxRecDepth 100000
set_option maxHeartbeats 4000000
namespace K81
open PySem PySem.Spec PyProof.Rows L2
section
variable {P : Program} {w : World} {K : PySem.W.Frag} {mg : Str → Option Value} {base : Heap}
theorem cut_ints (ns : List Int) (i j : Int) : cutV (ns.map V.int) (some i) (some j) = ((ns.drop (HT.sIx ns.length 0 (some i))).take (HT.sIx ns.length ns.length (some j) - HT.sIx ns.length 0 (some i))).map V.int := by
  unfold cutV
  rw [List.length_map, List.map_take, List.map_drop]
/-! ### _law_purse -/
def spPurse (K : PySem.W.Frag) : Sp := fun vs H Q _ => ∃ (a : Addr) (k : Int) (ns : List Int), vs = [.ref a, .int k] ∧ SqL K H a (ns.map V.int) ∧ 0 ≤ k ∧ k ≤ 3 ∧
  ∀ (r : Addr) (xs : List V) (H' : Hp), PuOk 0 xs → Same H H' → H r = none → H' r = some (.lst xs) → Q (.ref r) H'
theorem scPurse : FnScope ["_law_script", "_law_at", "_law_seed"] ["_law_script", "_law_at"] (defScope sPurse) := ⟨rfl, rfl, rfl, by decide +kernel, rfl, by decide +kernel, by decide +kernel⟩
theorem ok_purse {f : Addr} {fd : FuncData} (F : FnP K "_law_purse" sPurse f fd) (T : Tx K mg) : FnOk P w K mg base CX0 1 f fd ["_law_script", "_law_at"] (spPurse K) := by
  refine F.ok scPurse (fun vs H Q E h => ?_) (fun cdv A outer s H vs Q E hr h => ?_)
  · obtain ⟨_, _, _, rfl, _⟩ := h
    rfl
  · obtain ⟨a, k, ns, rfl, hS, k0, k1, q⟩ := h
    have gI := T.fr "int" (by decide +kernel)
    have gM := T.fr "max" (by decide +kernel)
    have gS := T.fr "sum" (by decide +kernel)
    refine ⟨_, PSs.nox (pss_cons (ps_set (i := 2) scPurse.nd rfl (Or.inl rfl) (pe_callB (cr_sum rfl) (by rfl) gS (by decide +kernel) (pa_cons (pe_slice sl_list (pv 0) (po_some (pv 1)) (po_some (pe_op op_add (pv 1) pe_int))) pa_nil)))
      (pss_one (ps_ret (pe_lst (pa_cons (pe_op op_mod (pe_callTy call_int1 (by rfl) gI (by decide +kernel) (pa_cons (pe_callB (call_max2 rfl) (by rfl) gM (by decide +kernel) (pa_cons (pe_op op_sub (pv 2) (pe_op op_pow pe_int pe_int)) (pa_cons pe_int pa_nil))) pa_nil)) (pe_op op_powB (pe_op op_pow pe_int pe_int) pe_int))
        (pa_cons (pe_op op_mod (pe_callTy call_int1 (by rfl) gI (by decide +kernel) (pa_cons (pv 2) pa_nil)) pe_int) (pa_cons pe_int (pa_cons (pv 1) pa_nil)))))))), ?_⟩
    refine ⟨_, rfl, _, rfl, _, rfl, _, rfl, _, _, rfl, rfl, _, rfl, a, _, rfl, hS, fun b hb => ?_⟩
    refine ⟨b, _, rfl, SqL.of (by rw [upd_same, cut_ints]), ?_⟩
    refine ⟨_, rfl, _, _, rfl, rfl, ⟨by decide, by decide, by decide +kernel⟩, _, _, rfl, rfl, _, _, rfl, Or.inl ⟨_, rfl, _, _, rfl, rfl, ⟨by decide, by decide, by decide +kernel⟩, _, _, rfl, rfl, ⟨by decide, by decide +kernel⟩, ?_⟩⟩
    refine ⟨_, _, rfl, rfl, (by show (0 : Int) < (10 ^ Int.toNat 60) ^ Int.toNat 8; decide +kernel), _, rfl, Or.inl ⟨_, rfl, _, _, rfl, rfl, (by show (0 : Int) < _; decide), _, rfl, (by show 4 ≤ sizeLine; decide +kernel), fun r hr => ?_⟩⟩
    refine q r _ _ ⟨_, _, _, _, rfl, Int.emod_nonneg _ (by decide +kernel), Int.emod_nonneg _ (by decide), Int.emod_lt_of_pos _ (by decide), by decide, by decide, k0, k1⟩ (fun c o e => ?_) ?_ upd_same
    · have e2 : upd H b (.lst (cutV (ns.map V.int) (some k) (some (k + 1)))) c = some o := by rw [upd_ne (ne_of_none e hb)]; exact e
      rw [upd_ne (ne_of_none e2 hr)]
      exact e2
    · have nrb : r ≠ b := fun z => by
        rw [z, upd_same] at hr
        cases hr
      rw [upd_ne nrb] at hr
      exact hr
/-! ### _law_purses -/
/-- purses at ps, new since H, the list of them at D -/
def PsAt (H H' : Hp) (D : Addr) (ps : List Addr) : Prop := Same H H' ∧ H' D = some (.lst (ps.map V.ref)) ∧ ps.Nodup ∧ ∀ p ∈ ps, H p = none ∧ p ≠ D ∧ ∃ xs, H' p = some (.lst xs) ∧ PuOk 0 xs
def spPurses (K : PySem.W.Frag) : Sp := fun vs H Q _ => ∃ (a : Addr) (ns : List Int), vs = [.ref a, .int 3] ∧ SqL K H a (ns.map V.int) ∧
  ∀ (D : Addr) (ps : List Addr) (H' : Hp), ps.length ≤ 3 → H D = none → PsAt H H' D ps → Q (.ref D) H'
theorem scPurses : FnScope ["_law_script", "_law_few", "_law_at"] ["_law_script", "_law_few"] (defScope sPurses) := ⟨rfl, rfl, rfl, by decide +kernel, rfl, by decide +kernel, by decide +kernel⟩
theorem ok_purses {f g : Addr} {fd fdP : FuncData} (F : FnP K "_law_purses" sPurses f fd) (FP : FnP K "_law_purse" sPurse g fdP) (hgP : mg "_law_purse" = some (.ref g)) (T : Tx K mg) : FnOk P w K mg base CX0 2 f fd ["_law_script", "_law_few"] (spPurses K) := by
  have GP : FnOk P w K mg base CX0 1 g fdP ["_law_script", "_law_at"] (spPurse K) := ok_purse FP T
  have bP : Binds K fdP ["_law_script", "_law_at"] [] := FP.bindsN fun _ _ _ _ _ _ us hl => match us, hl with | [_, _], _ => rfl
  refine F.ok scPurses (fun vs H Q E h => ?_) (fun cdv A outer s H vs Q E hr h => ?_)
  · obtain ⟨_, _, rfl, _⟩ := h
    rfl
  · obtain ⟨a, ns, rfl, hS, q⟩ := h
    have gR := T.fr "range" (by decide +kernel)
    have gMa := T.fr "max" (by decide +kernel)
    have gMi := T.fr "min" (by decide +kernel)
    have gL := T.fr "len" (by decide +kernel)
    refine ⟨_, PSs.nox (pss_one (ps_ret (pe_lc (own := [("_law_at", 2)]) (g := gName 2) (tt := tYes) rfl scPurses.nd
        (pi_range1 rfl gR (pa_cons (pe_callB (call_max2 rfl) (by rfl) gMa (by decide +kernel) (pa_cons pe_int (pa_cons (pe_callB (call_min2 rfl) (by rfl) gMi (by decide +kernel) (pa_cons (pv 1) (pa_cons (pe_callB call_len_seq (by rfl) gL PySem.boot_len (pa_cons (pv 0) pa_nil)) pa_nil))) pa_nil))) pa_nil))
        (blkOk_by (own := [("_law_at", 2)]) (N := ["_law_script", "_law_few", "_law_at"]) (sc := defScope sPurses) (by decide +kernel))
        (fun _ _ _ _ _ => pg_name (i := 2) scPurses.nd rfl (Or.inl rfl)) (fun _ _ _ _ _ => pts_nil)
        (fun _ _ _ _ _ => pe_call GP hr rfl hgP FP.kp bP .nil pass0 (pa_cons (pv 0) (pa_cons (pv 2) pa_nil)))))), ?_⟩
    have hm : ∀ z : Int, 0 ≤ z → (1 : Int) ≤ (if (if z < 3 then z else 3) > 1 then (if z < 3 then z else 3) else 1) ∧ (if (if z < 3 then z else 3) > 1 then (if z < 3 then z else 3) else 1) ≤ 3 := fun z hz => by
      by_cases h1 : z < 3
      · rw [if_pos h1]
        by_cases h2 : z > 1
        · rw [if_pos h2]; omega
        · rw [if_neg h2]; omega
      · rw [if_neg h1, if_pos (by decide)]; omega
    have hm2 := hm ((ns.map V.int).length : Nat) (by omega)
    refine ⟨_, rfl, _, rfl, a, _, rfl, Or.inl hS, _, _, rfl, _, _, rfl, _, rfl, by omega, by omega, fun D hD => ?_⟩
    generalize hn : (if (if (((ns.map V.int).length : Nat) : Int) < 3 then (((ns.map V.int).length : Nat) : Int) else 3) > 1 then (if (((ns.map V.int).length : Nat) : Int) < 3 then (((ns.map V.int).length : Nat) : Int) else 3) else 1) = n at hm2 ⊢
    refine lc_range (lo := 0) (n := n.toNat) (fun i H' => ∃ ps : List Addr, ps.length = i ∧ PsAt H H' D ps) ⟨[], rfl, fun b o e => ?_, upd_same, List.nodup_nil, fun p z => absurd z (by simp)⟩ ?_ ?_
    · rw [upd_ne (ne_of_none e hD)]
      exact e
    · rintro i H' hi ⟨ps, hl, s0, hd, nd, hp⟩
      refine ⟨rfl, _, rfl, _, rfl, a, _, ns, rfl, s0.seq hS, by omega, by omega, fun r xs H2 hx s1 hr2 h2 => ?_⟩
      have nrD : r ≠ D := fun z => by
        rw [z, hd] at hr2
        cases hr2
      have hr0 : H r = none := s0.free hr2
      refine ⟨ps.map V.ref, s1 _ _ hd, by rw [List.length_map, hl, sizeLine_eq]; omega, ps ++ [r], by simp [hl], fun b o e => ?_, ?_, ?_, ?_⟩
      · rw [upd_ne (ne_of_none e hD)]
        exact s1 _ _ (s0 _ _ e)
      · rw [upd_same, List.map_append]
        rfl
      · refine List.nodup_append.mpr ⟨nd, by simp, fun b hb c hc => ?_⟩
        have e : c = r := List.mem_singleton.mp hc
        rw [e]
        intro z
        obtain ⟨_, _, xs', e2, _⟩ := hp b hb
        rw [z, hr2] at e2
        cases e2
      · intro p hpm
        rcases List.mem_append.mp hpm with z | z
        · obtain ⟨e1, e2, xs', e3, e4⟩ := hp p z
          exact ⟨e1, e2, xs', by rw [upd_ne e2]; exact s1 _ _ e3, e4⟩
        · have e : p = r := List.mem_singleton.mp z
          rw [e]
          exact ⟨hr0, nrD, xs, by rw [upd_ne nrD]; exact h2, hx⟩
    · rintro H' ⟨ps, hl, h⟩
      exact q D ps H' (by omega) hD h
end
end K81
end
section
set_option Elab.async false
set_option linter.all false
set_option maxRecDepth 100000
set_option maxHeartbeats 4000000
namespace K81
open PySem PySem.Spec PyProof.Rows L2
abbrev DrawZ (P : Program) (w : World) (K : PySem.W.Frag) (mg : Str → Option Value) (base : Heap) : Prop := Fz P w K mg base "_law_draw" 2 ["_law_purse_here", "_law_many"] spDraw
theorem same_upd {H : Hp} {a : Addr} {o : HO} (h : H a = none) : Same H (upd H a o) := fun b u e => by
  rw [upd_ne (ne_of_none e h)]
  exact e
theorem same_trans {A B C : Hp} (x : Same A B) (y : Same B C) : Same A C := fun b u e => y b u (x b u e)
theorem ifF {c : Prop} [Decidable c] {p q : Prop} (h : ¬ c) (hq : q) : if c then p else q := by
  rw [if_neg h]
  exact hq
theorem ifT {c : Prop} [Decidable c] {p q : Prop} (h : c) (hp : p) : if c then p else q := by
  rw [if_pos h]
  exact hp
theorem but_new {p D : Addr} {H : Hp} {o : HO} (n : H D = none) : But p H (upd H D o) := fun b u _ e => by
  rw [upd_ne (ne_of_none e n)]
  exact e
theorem but_self {p : Addr} {H : Hp} {o : HO} : But p H (upd H p o) := fun b u nb e => by
  rw [upd_ne nb]
  exact e
theorem But.trans {p : Addr} {A B C : Hp} (x : But p A B) (y : But p B C) : But p A C := fun b u nb e => y b u nb (x b u nb e)
theorem Same.but {p : Addr} {A B : Hp} (x : Same A B) : But p A B := fun b u _ e => x b u e
theorem But.free {p b : Addr} {A B : Hp} (x : But p A B) (n : B b = none) (nb : b ≠ p) : A b = none := by
  cases e : A b with
  | none => rfl
  | some u =>
    rw [x b u nb e] at n
    cases n
/-- the purse at p, n draws at most -/
def Pu (H : Hp) (p : Addr) (n : Int) : Prop := ∃ xs, H p = some (.lst xs) ∧ PuOk n xs
theorem Pu.mono {H : Hp} {p : Addr} {n m : Int} (h : Pu H p n) (l : n ≤ m) : Pu H p m := by
  obtain ⟨xs, h1, h2⟩ := h
  exact ⟨xs, h1, h2.mono l⟩
theorem Pu.upd {H : Hp} {p q : Addr} {n : Int} {o : HO} (h : Pu H p n) (ne : p ≠ q) : Pu (upd H q o) p n := by
  obtain ⟨xs, h1, h2⟩ := h
  exact ⟨xs, by rw [upd_ne ne]; exact h1, h2⟩
section
variable {P : Program} {w : World} {K : PySem.W.Frag} {mg : Str → Option Value} {base : Heap}
/-! ### _law_shuffled -/
def spShuffled : Sp := fun vs H Q _ => ∃ (p l : Addr) (n : Int) (zs : List V), vs = [.ref p, .ref l] ∧ Pu H p n ∧ n ≤ 800000 ∧ H l = some (.lst zs) ∧ l ≠ p ∧ zs.length ≤ 120 ∧
  ∀ (D : Addr) (us : List V) (H' : Hp), us.Perm zs → Pu H' p (n + (zs.length : Nat)) → But p H H' → H D = none → H' D = some (.lst us) → Q (.ref D) H'
theorem scShuffled : FnScope ["_law_purse_here", "_law_some", "_law_found", "_law_item"] ["_law_purse_here", "_law_some"] (defScope sShuffled) := ⟨rfl, rfl, rfl, by decide +kernel, rfl, by decide +kernel, by decide +kernel⟩
theorem ok_shuffled {f : Addr} {fd : FuncData} (F : FnP K "_law_shuffled" sShuffled f fd) (G : DrawZ P w K mg base) (T : Tx K mg) : FnOk P w K mg base CX0 3 f fd ["_law_purse_here", "_law_some"] spShuffled := by
  refine F.ok scShuffled (fun vs H Q E h => ?_) (fun cdv A outer s H vs Q E hr h => ?_)
  · obtain ⟨_, _, _, _, rfl, _⟩ := h
    rfl
  · obtain ⟨p, l, n, zs, rfl, ⟨xs, hp, hx⟩, hn, hl, nlp, hz, q⟩ := h
    have gL := T.fr "len" (by decide +kernel)
    refine ⟨_, PSs.nox (pss_cons (ps_set (i := 2) scShuffled.nd rfl (Or.inl rfl) (pe_lst pa_nil))
      (pss_cons (ps_for PassesOwn.never rfl (pi_list (pv 1)) (pg_name (i := 3) scShuffled.nd rfl (Or.inl rfl))
        (pss_one (ps_expr (pe_bm PySem.F.plainAttrs_list PySem.F.slot_list_insert PySem.F.type_list_insert mt_insert (pv 2)
          (pa_cons (pe_fz G hr (by rfl) (pa_cons (pv 0) (pa_cons (pe_op op_add (pe_callB call_len_seq (by rfl) gL PySem.boot_len (pa_cons (pv 2) pa_nil)) pe_int) pa_nil))) (pa_cons (pv 3) pa_nil))))))
      (pss_one (ps_ret (pv 2))))), ?_⟩
    refine ⟨Nat.zero_le _, fun D nD => ?_⟩
    have npD : p ≠ D := ne_of_none hp nD
    have nlD : l ≠ D := ne_of_none hl nD
    refine ⟨_, rfl, l, rfl, ⟨_, SqL.of (by rw [upd_ne nlD]; exact hl)⟩, ?_⟩
    refine for_list (K := K) (a := l) (xs := zs) (fun i σ H' => (∃ o3, σ = [some (.ref p), some (.ref l), some (.ref D), o3]) ∧ Pu H' p (n + (i : Nat)) ∧ But p H H' ∧ ∃ us, H' D = some (.lst us) ∧ us.Perm (zs.take i))
      ⟨⟨_, rfl⟩, ⟨xs, by rw [upd_ne npD]; exact hp, hx.mono (by omega)⟩, but_new nD, [], upd_same, List.Perm.refl _⟩ (fun i σ H' _ h => SqL.of (h.2.2.1 l _ nlp hl)) ?_ ?_
    · rintro i x σ H' hi ⟨⟨o3, rfl⟩, ⟨xs1, hp1, hx1⟩, bu, us, hD, pu⟩
      have lt : i < zs.length := (List.getElem?_eq_some_iff.mp hi).1
      have ul : us.length = i := by rw [pu.length_eq, List.length_take]; omega
      refine ⟨_, rfl, Or.inl ⟨rfl, _, SqL.of hD⟩, _, rfl, _, rfl, D, us, rfl, Or.inl (SqL.of hD), _, _, rfl, rfl, ?_⟩
      refine ⟨p, _, n + (i : Nat), xs1, rfl, hp1, hx1, by omega, by omega, by omega, fun r ys r0 r1 hy => ?_⟩
      refine ⟨_, rfl, D, us, r, x, rfl, rfl, by rw [upd_ne (Ne.symm npD)]; exact hD, by rw [ul, sizeLine_eq]; omega, r0, by omega, ?_⟩
      refine ⟨⟨_, rfl⟩, ⟨ys, by rw [upd_ne npD]; exact upd_same, hy.mono (by push_cast; omega)⟩, fun b o nb e => ?_, _, upd_same, ?_⟩
      · have nbD : b ≠ D := ne_of_none e nD
        rw [upd_ne nbD, upd_ne nb]
        exact bu b o nb e
      · have e : zs.take (i + 1) = zs.take i ++ [x] := by
          rw [List.take_add_one, hi]
          rfl
        rw [e]
        have p1 : (us.take r.toNat ++ [x] ++ us.drop r.toNat).Perm (us ++ [x]) := by
          have h1 : (us.take r.toNat ++ [x] ++ us.drop r.toNat).Perm (x :: (us.take r.toNat ++ us.drop r.toNat)) := by
            rw [List.append_assoc]
            exact List.perm_middle
          rw [List.take_append_drop] at h1
          exact h1.trans (List.perm_append_singleton x us).symm
        exact p1.trans (pu.append_right [x])
    · rintro σ H' ⟨⟨o3, rfl⟩, hp2, bu, us, hD, pu⟩
      rw [List.take_length] at pu
      exact ⟨_, rfl, q D us H' pu hp2 bu nD hD⟩
end
end K81
end
section
set_option Elab.async false
set_option linter.all false
set_option maxRecDepth 100000
set_option maxHeartbeats 4000000
namespace K81
open PySem PySem.Spec PyProof.Rows L2
abbrev OneZ (P : Program) (w : World) (K : PySem.W.Frag) (mg : Str → Option Value) (base : Heap) : Prop := Fz P w K mg base "_law_one_of" 3 ["_law_purse_here", "_law_some"] spOneOf
section
variable {P : Program} {w : World} {K : PySem.W.Frag} {mg : Str → Option Value} {base : Heap}
/-! ### _law_width, _law_length -/
def spSmall : Sp := fun vs H Q _ => ∃ (p : Addr) (n : Int), vs = [.ref p] ∧ Pu H p n ∧ n ≤ 800000 ∧ ∀ (r : Int) (H' : Hp), 0 ≤ r → r ≤ 9 → Pu H' p (n + 1) → But p H H' → Q (.int r) H'
theorem scWidth : FnScope ["_law_purse_here"] ["_law_purse_here"] (defScope sWidth) := ⟨rfl, rfl, rfl, by decide +kernel, rfl, by decide +kernel, by decide +kernel⟩
theorem scLength : FnScope ["_law_purse_here"] ["_law_purse_here"] (defScope sLength) := ⟨rfl, rfl, rfl, by decide +kernel, rfl, by decide +kernel, by decide +kernel⟩
theorem small_pick {p : Addr} {n : Int} {H : Hp} {Q : VK} {zs : List Int} (hl : zs.length = 8) (hz : ∀ z ∈ zs, 0 ≤ z ∧ z ≤ 9) (hp : Pu H p n) (hn : n ≤ 800000) (q : ∀ (r : Int) (H' : Hp), 0 ≤ r → r ≤ 9 → Pu H' p (n + 1) → But p H H' → Q (.int r) H')
    {D : Addr} (nD : H D = none) : spOneOf [.ref p, .ref D] (upd H D (.lst (zs.map V.int))) Q E0 := by
  obtain ⟨xs, h1, h2⟩ := hp
  have npD : p ≠ D := ne_of_none h1 nD
  refine ⟨p, D, n, xs, zs.map V.int, rfl, by rw [upd_ne npD]; exact h1, h2, by omega, upd_same, npD, by rw [List.length_map, hl]; decide, by rw [List.length_map, hl]; decide, fun j z ys e hy => ?_⟩
  rw [List.getElem?_map] at e
  cases e2 : zs[j]? with
  | none =>
    rw [e2] at e
    cases e
  | some i =>
    rw [e2] at e
    cases e
    have b := hz i (List.mem_of_getElem? e2)
    exact q i _ b.1 b.2 ⟨ys, upd_same, hy⟩ ((but_new nD).trans but_self)
theorem ok_width {f : Addr} {fd : FuncData} (F : FnP K "_law_width" sWidth f fd) (G : OneZ P w K mg base) : FnOk P w K mg base CX0 4 f fd ["_law_purse_here"] spSmall := by
  refine F.ok scWidth (fun vs H Q E h => ?_) (fun cdv A outer s H vs Q E hr h => ?_)
  · obtain ⟨_, _, rfl, _⟩ := h
    rfl
  · obtain ⟨p, n, rfl, hp, hn, q⟩ := h
    refine ⟨_, PSs.nox (pss_one (ps_ret (pe_fz G hr (by rfl) (pa_cons (pv 0) (pa_cons (pe_lst (pa_cons pe_int (pa_cons pe_int (pa_cons pe_int (pa_cons pe_int (pa_cons pe_int (pa_cons pe_int (pa_cons pe_int (pa_cons pe_int pa_nil))))))))) pa_nil))))), ?_⟩
    exact ⟨_, rfl, (by show 8 ≤ sizeLine; decide +kernel), fun D nD => small_pick (zs := [0, 1, 1, 1, 2, 2, 3, 9]) rfl (by decide) hp hn q nD⟩
theorem ok_length {f : Addr} {fd : FuncData} (F : FnP K "_law_length" sLength f fd) (G : OneZ P w K mg base) : FnOk P w K mg base CX0 4 f fd ["_law_purse_here"] spSmall := by
  refine F.ok scLength (fun vs H Q E h => ?_) (fun cdv A outer s H vs Q E hr h => ?_)
  · obtain ⟨_, _, rfl, _⟩ := h
    rfl
  · obtain ⟨p, n, rfl, hp, hn, q⟩ := h
    refine ⟨_, PSs.nox (pss_one (ps_ret (pe_fz G hr (by rfl) (pa_cons (pv 0) (pa_cons (pe_lst (pa_cons pe_int (pa_cons pe_int (pa_cons pe_int (pa_cons pe_int (pa_cons pe_int (pa_cons pe_int (pa_cons pe_int (pa_cons pe_int pa_nil))))))))) pa_nil))))), ?_⟩
    exact ⟨_, rfl, (by show 8 ≤ sizeLine; decide +kernel), fun D nD => small_pick (zs := [0, 1, 1, 2, 2, 3, 5, 9]) rfl (by decide) hp hn q nD⟩
/-! ### _law_pair -/
def spPair : Sp := fun vs H Q _ => ∃ (p l : Addr) (n : Int) (ws : List Str), vs = [.ref p, .ref l] ∧ Pu H p n ∧ n ≤ 800000 ∧ H l = some (.lst (ws.map V.str)) ∧ l ≠ p ∧ ws.Nodup ∧ 2 ≤ ws.length ∧ ws.length ≤ 100 ∧
  ∀ (t : Addr) (a b : Str) (H' : Hp), a ∈ ws → b ∈ ws → a ≠ b → Pu H' p (n + 2) → But p H H' → H t = none → H' t = some (.tup [.str a, .str b]) → Q (.ref t) H'
theorem scPair : FnScope ["_law_purse_here", "_law_crossings", "_law_start", "_law_other"] ["_law_purse_here", "_law_crossings"] (defScope sPair) := ⟨rfl, rfl, rfl, by decide +kernel, rfl, by decide +kernel, by decide +kernel⟩
theorem ok_pair {f : Addr} {fd : FuncData} (F : FnP K "_law_pair" sPair f fd) (G : OneZ P w K mg base) : FnOk P w K mg base CX0 4 f fd ["_law_purse_here", "_law_crossings"] spPair := by
  refine F.ok scPair (fun vs H Q E h => ?_) (fun cdv A outer s H vs Q E hr h => ?_)
  · obtain ⟨_, _, _, _, rfl, _⟩ := h
    rfl
  · obtain ⟨p, l, n, ws, rfl, ⟨xs, hp, hx⟩, hn, hl, nlp, nd, h2, h100, q⟩ := h
    refine ⟨_, PSs.nox (pss_cons (ps_set (i := 2) scPair.nd rfl (Or.inr rfl) (pe_fz G hr (by rfl) (pa_cons (pv 0) (pa_cons (pv 1) pa_nil))))
      (pss_one (ps_ret (pe_tup (pa_cons (pv 2) (pa_cons (pe_fz G hr (by rfl) (pa_cons (pv 0) (pa_cons
        (pe_lc (own := [("_law_other", 3)]) (g := gName 3) (tt := _) rfl scPair.nd (pi_list (pv 1)) (blkOk_by (own := [("_law_other", 3)]) (N := ["_law_purse_here", "_law_crossings", "_law_start", "_law_other"]) (sc := defScope sPair) (by decide +kernel))
          (fun _ _ _ _ _ => pg_name (i := 3) scPair.nd rfl (Or.inl rfl)) (fun _ _ _ _ _ => pts_one (pt_cmpR op_ne (pv 3) (pv 2) (nomark _))) (fun _ _ _ _ _ => pv 3)) pa_nil))) pa_nil)))))), ?_⟩
    refine ⟨_, rfl, _, rfl, p, l, n, xs, ws.map V.str, rfl, hp, hx, by omega, hl, Ne.symm nlp, by rw [List.length_map]; omega, by rw [List.length_map]; omega, fun j z ys e hy => ?_⟩
    rw [List.getElem?_map] at e
    cases e2 : ws[j]? with
    | none =>
      rw [e2] at e
      cases e
    | some a =>
      rw [e2] at e
      cases e
      have ha : a ∈ ws := List.mem_of_getElem? e2
      have hp1 : upd H p (.lst ys) p = some (.lst ys) := upd_same
      have hl1 : upd H p (.lst ys) l = some (.lst (ws.map V.str)) := by rw [upd_ne nlp]; exact hl
      refine ⟨_, rfl, _, rfl, _, rfl, l, rfl, ⟨_, SqL.of hl1⟩, fun D nD => ?_⟩
      have npD : p ≠ D := ne_of_none hp1 nD
      have nlD : l ≠ D := ne_of_none hl1 nD
      refine lc_list (K := K) (a := l) (xs := ws.map V.str) (fun i H' => (∀ b, b ≠ D → H' b = upd H p (.lst ys) b) ∧ H' D = some (.lst (((ws.take i).filter fun x => decide (x ≠ a)).map V.str)))
        ⟨fun b nb => upd_ne nb, upd_same⟩ (fun i H' _ h => SqL.of (by rw [h.1 l nlD]; exact hl1)) ?_ ?_
      · rintro i x H' hi ⟨k1, k2⟩
        rw [List.getElem?_map] at hi
        cases e3 : ws[i]? with
        | none =>
          rw [e3] at hi
          cases hi
        | some c =>
          rw [e3] at hi
          cases hi
          have et : ws.take (i + 1) = ws.take i ++ [c] := by
            rw [List.take_add_one, e3]
            rfl
          have lt : i < ws.length := (List.getElem?_eq_some_iff.mp e3).1
          have ll : ((ws.take i).filter fun x => decide (x ≠ a)).length ≤ i := Nat.le_trans (List.length_filter_le _ _) (by rw [List.length_take]; omega)
          refine ⟨rfl, _, rfl, _, rfl, rfl, _, rfl, ?_⟩
          by_cases hc : c = a
          · subst hc
            refine ifF (by simp) ⟨k1, ?_⟩
            rw [et, List.filter_append]
            simp [k2]
          · refine ifT (by simpa using hc) ⟨_, rfl, _, k2, by rw [List.length_map, sizeLine_eq]; omega, fun b nb => by rw [upd_ne nb]; exact k1 b nb, ?_⟩
            rw [upd_same, et, List.filter_append]
            simp [hc]
      · rintro H' ⟨k1, k2⟩
        rw [List.length_map, List.take_length] at k2
        have hp2 : H' p = some (.lst ys) := by rw [k1 p npD]; exact hp1
        have lpos : 0 < (ws.filter fun x => decide (x ≠ a)).length := by
          rw [List.length_pos_iff_exists_mem]
          have : ∃ b ∈ ws, b ≠ a := by
            match ws, h2, nd with
            | u :: v :: r, _, nd =>
              by_cases hu : u = a
              · refine ⟨v, by simp, fun hv => ?_⟩
                rw [hu, hv] at nd
                simp at nd
              · exact ⟨u, by simp, hu⟩
          obtain ⟨b, hb, nb⟩ := this
          exact ⟨b, List.mem_filter.mpr ⟨hb, by simpa using nb⟩⟩
        have lle : (ws.filter fun x => decide (x ≠ a)).length ≤ 100 := Nat.le_trans (List.length_filter_le _ _) h100
        refine ⟨p, D, n + 1, ys, _, rfl, hp2, hy, by omega, k2, npD, by rw [List.length_map]; exact lpos, by rw [List.length_map]; omega, fun j2 z2 ys2 e3 hy2 => ?_⟩
        rw [List.getElem?_map] at e3
        cases e4 : (ws.filter fun x => decide (x ≠ a))[j2]? with
        | none =>
          rw [e4] at e3
          cases e3
        | some b =>
          rw [e4] at e3
          cases e3
          have hb := List.mem_filter.mp (List.mem_of_getElem? e4)
          refine ⟨(by show 2 ≤ sizeLine; decide +kernel), fun t nt => ?_⟩
          have bu : But p H (upd H' p (.lst ys2)) := fun c o nc e => by
            have nD2 : c ≠ D := ne_of_none (show upd H p (.lst ys) c = some o by rw [upd_ne nc]; exact e) nD
            rw [upd_ne nc, k1 c nD2, upd_ne nc]
            exact e
          have ntp : t ≠ p := fun z => by
            rw [z, upd_same] at nt
            cases nt
          exact q t a b _ ha hb.1 (fun z => by simpa [z] using hb.2) ⟨ys2, by rw [upd_ne (Ne.symm ntp)]; exact upd_same, hy2.mono (by omega)⟩ (bu.trans (but_new nt)) (bu.free nt ntp) upd_same
end
end K81
end
section
set_option Elab.async false
set_option linter.all false
set_option maxRecDepth 100000
set_option maxHeartbeats 4000000
namespace L2
open PySem PySem.Spec PyProof.Rows
/-- list(text): its signs -/
def rListTxt : List V → Hp → VK → Prop := fun vs H Q => ∃ z : Str, vs = [.str z] ∧ z.cps.size ≤ sizeLine ∧ ∀ p, H p = none → Q (.ref p) (upd H p (.lst (z.cps.toList.map fun c => V.str ⟨#[c]⟩)))
theorem call_list_txt {X : Cx} (hc : X.calm = true) : CallR X (.type "list") rListTxt := by
  intro pins s σ H vs us Q I r h
  obtain ⟨z, rfl, hz, q⟩ := h
  obtain ⟨u, rfl, t, rfl⟩ := vals1 r
  refine call_list_str (I.ok.hd hc) z t (hn := hz) fun h' tk acc' c' hk hS hacc => ?_
  refine ⟨.ref s.heap.objs.size, upd H s.heap.objs.size (.lst (z.cps.toList.map fun c => V.str ⟨#[c]⟩)), I.laid hk (Nat.le_refl _) (show ObjOk X.prog X.w _ _ _ (.lst _) from ⟨?_, acc'.toList, c', ?_, ?_⟩), rfl, q _ (I.hok.fresh (Nat.le_refl _))⟩
  · rw [List.length_map, Array.length_toList]
    exact hz
  · refine vals_of_at (by rw [List.length_map, Array.length_toList, Array.length_toList, hacc.1]) fun j x w h1 h2 => ?_
    obtain ⟨c, t', hc', rfl⟩ := hacc.2 j w (by rw [← Array.getElem?_toList]; exact h2)
    rw [List.getElem?_map, Array.getElem?_toList, hc'] at h1
    cases h1
    exact ⟨t', rfl⟩
  · rw [Array.toArray_toList]
    exact hS
end L2
namespace K81
open PySem PySem.Spec PyProof.Rows L2
theorem inV_str (x : Str) (ws : List Str) : inV (.str x) (ws.map V.str) = decide (x ∈ ws) := by
  unfold inV
  induction ws with
  | nil => rfl
  | cons y ws ih =>
    rw [List.map_cons, List.any_cons, ih]
    show ((y == x) || decide (x ∈ ws)) = decide (x ∈ y :: ws)
    by_cases h : y = x
    · subst h
      simp
    · have h' : ¬ x = y := fun e => h e.symm
      simp [h, h']
theorem flat_strs (ws : List Str) : (ws.map V.str).all flatV = true := by
  rw [List.all_eq_true]
  intro v hv
  obtain ⟨x, _, rfl⟩ := List.mem_map.mp hv
  rfl
theorem len_le_of_sub {α : Type} [DecidableEq α] : ∀ (l m : List α), l.Nodup → (∀ x ∈ l, x ∈ m) → l.length ≤ m.length
  | [], _, _, _ => Nat.zero_le _
  | x :: l, m, nd, h => by
    obtain ⟨h1, h2⟩ := List.nodup_cons.mp nd
    have hx : x ∈ m := h x List.mem_cons_self
    have ih := len_le_of_sub l (m.erase x) h2 fun y hy => (List.mem_erase_of_ne (fun e => h1 (by rw [← e]; exact hy))).mpr (h y (List.mem_cons_of_mem _ hy))
    rw [List.length_erase_of_mem hx] at ih
    have : 0 < m.length := List.length_pos_of_mem hx
    simp only [List.length_cons]
    omega
def letters : List Str := abc.cps.toList.map one
theorem letters_nodup : letters.Nodup := by decide +kernel
theorem letters_len : letters.length = 26 := by decide +kernel
theorem letters_wd : ∀ x ∈ letters, Wd x := by
  have key : (letters.all fun x => decide (1 ≤ x.cps.toList.length ∧ x.cps.toList.length ≤ 8) && x.cps.toList.all fun c => decide (97 ≤ c ∧ c ≤ 122)) = true := by decide +kernel
  intro x hx
  have k := List.all_eq_true.mp key x hx
  rw [Bool.and_eq_true] at k
  have k1 := of_decide_eq_true k.1
  exact ⟨k1.1, k1.2, fun c hc => of_decide_eq_true (List.all_eq_true.mp k.2 c hc)⟩
theorem free_letter {ws : List Str} (h : ws.length < 26) : ∃ x r, (letters.filter fun x => decide (x ∉ ws)) = x :: r ∧ Wd x ∧ x ∉ ws := by
  cases e : letters.filter fun x => decide (x ∉ ws) with
  | nil =>
    have k := len_le_of_sub letters ws letters_nodup fun x hx => by
      by_cases hw : x ∈ ws
      · exact hw
      · have : x ∈ letters.filter fun x => decide (x ∉ ws) := List.mem_filter.mpr ⟨hx, decide_eq_true hw⟩
        rw [e] at this
        cases this
    rw [letters_len] at k
    omega
  | cons x r =>
    have hx : x ∈ letters.filter fun x => decide (x ∉ ws) := by rw [e]; exact List.mem_cons_self
    have q := List.mem_filter.mp hx
    exact ⟨x, r, rfl, letters_wd x q.1, of_decide_eq_true q.2⟩
theorem wd_mix {z : Str} {r : Int} {c : Nat} (hz : Wd z) (r0 : 0 ≤ r) (r1 : r < (z.length : Int)) (hc : 97 ≤ c ∧ c ≤ 122) : Wd ((cutS z none (some r) ++ one c) ++ cutS z (some (r + 1)) none) := by
  obtain ⟨k, rfl⟩ := Int.eq_ofNat_of_zero_le r0
  have hl := str_length z
  have lk : k < z.cps.toList.length := by omega
  have e1 : (cutS z none (some (k : Int))).cps.toList = z.cps.toList.take k := by
    show (((z.cps.toList.drop (HT.sIx z.length 0 none)).take (HT.sIx z.length z.length (some (k : Int)) - HT.sIx z.length 0 none)).toArray).toList = _
    rw [HT.sIx_none, HT.sIx_nat, List.drop_zero, Nat.sub_zero, Nat.min_eq_left (by omega)]
  have e2 : (cutS z (some ((k : Int) + 1)) none).cps.toList = z.cps.toList.drop (k + 1) := by
    show (((z.cps.toList.drop (HT.sIx z.length 0 (some ((k : Int) + 1)))).take (HT.sIx z.length z.length none - HT.sIx z.length 0 (some ((k : Int) + 1)))).toArray).toList = _
    have e3 : ((k : Int) + 1) = ((k + 1 : Nat) : Int) := by omega
    rw [e3, HT.sIx_none, HT.sIx_nat, Nat.min_eq_left (by omega)]
    exact List.take_of_length_le (by rw [List.length_drop]; omega)
  have e4 : ((cutS z none (some (k : Int)) ++ one c) ++ cutS z (some ((k : Int) + 1)) none).cps.toList = (z.cps.toList.take k ++ [c]) ++ z.cps.toList.drop (k + 1) := by
    show (((cutS z none (some (k : Int))).cps ++ (one c).cps) ++ (cutS z (some ((k : Int) + 1)) none).cps).toList = _
    rw [Array.toList_append, Array.toList_append, e1, e2]
    rfl
  have ll : ((z.cps.toList.take k ++ [c]) ++ z.cps.toList.drop (k + 1)).length = z.cps.toList.length := by
    simp only [List.length_append, List.length_take, List.length_drop, List.length_cons, List.length_nil]
    omega
  refine ⟨by rw [e4, ll]; exact hz.1, by rw [e4, ll]; exact hz.2.1, fun x hx => ?_⟩
  rw [e4] at hx
  rcases List.mem_append.mp hx with h | h
  · rcases List.mem_append.mp h with h | h
    · exact hz.2.2 x (List.mem_of_mem_take h)
    · rw [List.mem_singleton.mp h]
      exact hc
  · exact hz.2.2 x (List.mem_of_mem_drop h)
end K81
end
section
set_option Elab.async false
set_option linter.all false
set_option maxRecDepth 100000
set_option maxHeartbeats 8000000
namespace K81
open PySem PySem.Spec PyProof.Rows L2
abbrev WordZ (P : Program) (w : World) (K : PySem.W.Frag) (mg : Str → Option Value) (base : Heap) : Prop := Fz P w K mg base "_law_word" 3 ["_law_purse_here"] spWord
/-- a list of n unlike words -/
def Ws (H : Hp) (D : Addr) (ws : List Str) : Prop := H D = some (.lst (ws.map V.str))
def spWords : Sp := fun vs H Q _ => ∃ (p : Addr) (m n : Int), vs = [.ref p, .int m] ∧ Pu H p n ∧ n ≤ 700000 ∧ 0 ≤ m ∧ m ≤ 25 ∧
  ∀ (D : Addr) (ws : List Str) (H' : Hp), (ws.length : Int) = m → ws.Nodup → (∀ x ∈ ws, Wd x) → Pu H' p (n + 12 + 11 * m) → But p H H' → H D = none → Ws H' D ws → Q (.ref D) H'
abbrev NW : List Str := ["_law_purse_here", "_law_many", "_law_base", "_law_near", "_law_spot", "_law_found", "_law_turn", "_law_word_here", "_law_letter"]
theorem scWords : FnScope NW ["_law_purse_here", "_law_many"] (defScope sWords) := ⟨rfl, rfl, rfl, by decide +kernel, rfl, by decide +kernel, by decide +kernel⟩
/-- at the head of a turn -/
def WT (p D : Addr) (m n r : Int) (z : Str) (b : Bool) (H : Hp) (i : Nat) : L2.St → Hp → Prop := fun σ H' => (∃ o6 o7 o8, σ = [some (.ref p), some (.int m), some (.str z), some (.bl b), some (.int r), some (.ref D), o6, o7, o8]) ∧
  Pu H' p (n + 12 + 11 * (i : Nat)) ∧ But p H H' ∧ ∃ ws : List Str, Ws H' D ws ∧ ws.length = i ∧ ws.Nodup ∧ ∀ x ∈ ws, Wd x
section
variable {P : Program} {w : World} {K : PySem.W.Frag} {mg : Str → Option Value} {base : Heap}
theorem ok_words {f : Addr} {fd : FuncData} (F : FnP K "_law_words" sWords f fd) (G : DrawZ P w K mg base) (GW : WordZ P w K mg base) (T : Tx K mg) : FnOk P w K mg base CX0 4 f fd ["_law_purse_here", "_law_many"] spWords := by
  refine F.ok scWords (fun vs H Q E h => ?_) (fun cdv A outer s H vs Q E hr h => ?_)
  · obtain ⟨_, _, _, rfl, _⟩ := h
    rfl
  · obtain ⟨p, m, n, rfl, ⟨xs, hp, hx⟩, hn, m0, m25, q⟩ := h
    have gL := T.fr "len" (by decide +kernel)
    have gR := T.fr "range" (by decide +kernel)
    have gLi := T.fr "list" (by decide +kernel)
    have hr2 : Room 2 (A.deeper (envOfC "_law_words" (defScope sWords) s.heap.objs.size f cdv)) := hr.mono (by decide)
    refine ⟨_, PSs.nox (pss_cons (ps_par (i := 2) (j := 3) rfl scWords.nd rfl rfl (by decide) rfl rfl (pa_cons (pe_fz GW hr (by rfl) (pa_cons (pv 0) pa_nil)) (pa_cons (pe_cmpR op_eq (pe_fz G hr2 (by rfl) (pa_cons (pv 0) (pa_cons pe_int pa_nil))) pe_int (nomark _)) pa_nil)) (by rfl))
      (pss_cons (ps_asg (pe_tup (pa_cons (pe_fz G hr2 (by rfl) (pa_cons (pv 0) (pa_cons (pe_callB call_len_str (by rfl) gL PySem.boot_len (pa_cons (pv 2) pa_nil)) pa_nil))) (pa_cons (pe_lst pa_nil) pa_nil)))
        (pg_tup rfl (pgs_cons (pg_name (i := 4) scWords.nd rfl (Or.inl rfl)) (pgs_cons (pg_name (i := 5) scWords.nd rfl (Or.inr rfl)) pgs_nil))))
      (pss_cons (ps_for PassesOwn.never rfl (pi_range1 rfl gR (pa_cons (pv 1) pa_nil)) (pg_name (i := 6) scWords.nd rfl (Or.inl rfl))
        (pss_cons (ps_set (i := 7) scWords.nd rfl (Or.inl rfl) (pe_op op_add_str (pe_op op_add_str (pe_slice sl_str (pv 2) po_none (po_some (pv 4))) (pe_item_str pe_str (pe_fz G hr2 (by rfl) (pa_cons (pv 0) (pa_cons pe_int pa_nil))) (fun _ _ => rfl)))
            (pe_slice sl_str (pv 2) (po_some (pe_op op_add (pv 4) pe_int)) po_none)))
        (pss_cons (ps_if (pt_not (pt_val (pv 3))) (pss_one (ps_set (i := 7) scWords.nd rfl (Or.inl rfl) (pe_fz GW hr (by rfl) (pa_cons (pv 0) pa_nil)))) pss_nil)
        (pss_cons (ps_if (pt_cmpR op_in_seq (pv 7) (pv 5) rfl) (pss_one (ps_set (i := 7) scWords.nd rfl (Or.inl rfl) (pe_ix ix_list
            (pe_lc (own := [("_law_letter", 8)]) (g := gName 8) (tt := tTest (tOp (rIn K true) (tVar 8) (tVar 5))) rfl scWords.nd (pi_list (pe_callTy (call_list_txt rfl) (by rfl) gLi (by decide +kernel) (pa_cons pe_str pa_nil))) (blkOk_by (own := [("_law_letter", 8)]) (N := NW) (sc := defScope sWords) (by decide +kernel))
              (fun _ _ _ _ _ => pg_name (i := 8) scWords.nd rfl (Or.inl rfl)) (fun _ _ _ _ _ => pts_one (pt_cmpR op_notIn_seq (pv 8) (pv 5) rfl)) (fun _ _ _ _ _ => pv 8)) pe_int (fun _ _ => rfl)))) pss_nil)
        (pss_one (ps_expr (pe_bm PySem.F.plainAttrs_list PySem.F.slot_list_append PySem.F.type_list_append mt_append (pv 5) (pa_cons (pv 7) pa_nil))))))))
      (pss_one (ps_ret (pv 5)))))), ?_⟩
    refine ⟨_, rfl, p, n, xs, rfl, hp, hx, by omega, fun z ys1 H1 hz hy1 b1 hp1 => ?_⟩
    refine ⟨_, rfl, p, 3, n + 10, ys1, rfl, hp1, hy1, by omega, by decide, by decide, fun r1 ys2 c1 d1 hy2 => ⟨rfl, _, _, rfl, ?_⟩⟩
    have b2 : But p H (upd H1 p (.lst ys2)) := b1.trans but_self
    have hp2 : upd H1 p (.lst ys2) p = some (.lst ys2) := upd_same
    generalize upd H1 p (.lst ys2) = H2 at b2 hp2 ⊢
    have lz := str_length z
    have lz1 := hz.1
    have lz8 := hz.2.1
    have sl := sizeLine_eq
    refine ⟨_, rfl, _, rfl, z, rfl, by omega, p, _, n + 10 + 1, ys2, rfl, hp2, hy2, by omega, by omega, by omega, fun r ys3 r0 r1' hy3 => ?_⟩
    have b3 : But p H (upd H2 p (.lst ys3)) := b2.trans but_self
    have hp3 : upd H2 p (.lst ys3) p = some (.lst ys3) := upd_same
    generalize upd H2 p (.lst ys3) = H3 at b3 hp3 ⊢
    refine ⟨Nat.zero_le _, fun D nD => ?_⟩
    have npD : p ≠ D := ne_of_none hp3 nD
    refine ⟨(by show 2 ≤ sizeLine; decide +kernel), fun tp ntp => ⟨tp, _, rfl, SqT.of upd_same, rfl, _, _, rfl, _, _, rfl, rfl, ?_⟩⟩
    have nDt : D ≠ tp := ne_of_none upd_same ntp
    have npt : p ≠ tp := fun e => by
      rw [← e, upd_ne npD, hp3] at ntp
      cases ntp
    have w0 : WT p D m n r z (decide (V.int r1 = V.int 0)) H 0 [some (.ref p), some (.int m), some (.str z), some (.bl (decide (V.int r1 = V.int 0))), some (.int r), some (.ref D), none, none, none] (upd (upd H3 D (.lst [])) tp (.tup [.int r, .ref D])) :=
      ⟨⟨_, _, _, rfl⟩, ⟨ys3, by rw [upd_ne npt, upd_ne npD]; exact hp3, hy3.mono (by omega)⟩, (b3.trans (but_new nD)).trans (but_new ntp), [], by show upd _ _ _ D = _; rw [upd_ne nDt]; exact upd_same, rfl, List.nodup_nil, fun x hx => by simp at hx⟩
    have fD : H D = none := b3.free nD (Ne.symm npD)
    generalize upd (upd H3 D (.lst [])) tp (.tup [.int r, .ref D]) = H4 at w0 ⊢
    generalize decide (V.int r1 = V.int 0) = b at w0 ⊢
    refine ⟨_, rfl, _, rfl, by omega, by omega, ?_⟩
    refine for_range (n := m.toNat) (WT p D m n r z b H) w0 ?_ ?_
    · rintro i σ H' hi ⟨⟨o6, o7, o8, rfl⟩, ⟨xs1, hp5, hx5⟩, b5, ws, hw, hl, nd, wd⟩
      have npD5 : D ≠ p := fun e => by
        rw [e] at fD
        rw [fD] at hp
        cases hp
      refine ⟨_, rfl, _, rfl, _, rfl, z, rfl, by omega, _, rfl, p, 26, n + 12 + 11 * (i : Nat), xs1, rfl, hp5, hx5, by omega, by decide, by decide, fun c ys c0 c1 hy => ?_⟩
      have hl26 : (abc.length : Int) = 26 := by decide +kernel
      have wm := wd_mix (c := 97 + c.toNat) hz r0 r1' (by omega)
      have wl := str_length ((cutS z none (some r) ++ one (97 + c.toNat)) ++ cutS z (some (r + 1)) none)
      have wl2 := wm.2.1
      rw [← wl] at wl2
      have wl3 := wl2
      simp only [strLen_append] at wl3
      refine ⟨abc, c, 97 + c.toNat, rfl, rfl, c0, by omega, by omega, abc_at c0 c1, _, _, rfl, rfl, (by show (cutS z none (some r)).length + (one (97 + c.toNat)).length ≤ _; omega), ?_⟩
      refine ⟨_, rfl, _, rfl, _, _, rfl, rfl, _, rfl, z, rfl, by omega, _, _, rfl, rfl, (by show ((cutS z none (some r)) ++ (one (97 + c.toNat))).length + _ ≤ _; rw [strLen_append]; omega), ?_⟩
      have b6 : But p H (upd H' p (.lst ys)) := b5.trans but_self
      have hp6 : upd H' p (.lst ys) p = some (.lst ys) := upd_same
      have hw6 : Ws (upd H' p (.lst ys)) D ws := by
        show upd H' p (.lst ys) D = _
        rw [upd_ne npD5]
        exact hw
      generalize upd H' p (.lst ys) = H6 at b6 hp6 hw6 ⊢
      have wm : Wd ((cutS z none (some r) ++ ⟨#[97 + c.toNat]⟩) ++ cutS z (some (r + 1)) none) := wm
      generalize (cutS z none (some r) ++ ⟨#[97 + c.toNat]⟩) ++ cutS z (some (r + 1)) none = x at wm ⊢
      refine ⟨_, rfl, _, rfl, ?_⟩
      refine ite2 (fun _ => ?a) (fun _ => ?b)
      case' a =>
        refine ⟨_, rfl, p, _, ys, rfl, hp6, hy, by omega, fun x2 ys2 H7 wx hy2 b7 hp7 => ?_⟩
        have hw7 : Ws H7 D ws := b7 D _ npD5 hw6
        have b7 := b6.trans b7
        have pu : Pu H7 p (n + 12 + 11 * ((i + 1 : Nat) : Int)) := ⟨ys2, hp7, hy2.mono (by push_cast; omega)⟩
      case' b =>
        have pu : Pu H6 p (n + 12 + 11 * ((i + 1 : Nat) : Int)) := ⟨ys, hp6, hy.mono (by push_cast; omega)⟩
        generalize x = x2 at wm ⊢
        generalize H6 = H7 at b6 hw6 pu ⊢
        have hw7 := hw6
        have b7 := b6
        have wx := wm
      all_goals
        have pt : ∀ (x3 : Str) (H8 : Hp) (o8 : Option V), Wd x3 → x3 ∉ ws → Ws H8 D ws → But p H H8 → Pu H8 p (n + 12 + 11 * ((i + 1 : Nat) : Int)) → WT p D m n r z b H (i + 1) [some (.ref p), some (.int m), some (.str z), some (.bl b), some (.int r), some (.ref D), some (.int (0 + (i : Nat))), some (.str x3), o8] (upd H8 D (.lst (ws.map V.str ++ [V.str x3]))) := fun x3 H8 o8 w3 n3 h3 b3 p3 =>
          ⟨⟨_, _, _, rfl⟩, p3.upd (Ne.symm npD5), fun c o nc e => by rw [upd_ne (ne_of_none e fD)]; exact b3 c o nc e, ws ++ [x3], by show upd _ _ _ D = _; rw [upd_same, List.map_append]; rfl, by simp [hl], List.nodup_append.mpr ⟨nd, by simp, fun a ha c hc => by rw [List.mem_singleton.mp hc]; exact fun e => n3 (by rw [← e]; exact ha)⟩, fun c hc => by
            rcases List.mem_append.mp hc with h | h
            · exact wd c h
            · rw [List.mem_singleton.mp h]; exact w3⟩
        have lw : (ws.map V.str).length < sizeLine := by
          rw [List.length_map]
          omega
        refine ⟨_, rfl, _, rfl, D, ws.map V.str, rfl, Or.inl (SqL.of hw7), rfl, flat_strs ws, _, rfl, ?_⟩
        rw [inV_str]
        by_cases hin : x2 ∈ ws
        · refine ifT (by simpa using hin) ?_
          have ex : (abc.cps.toList.map fun c => V.str ⟨#[c]⟩) = letters.map V.str := by
            unfold letters
            rw [List.map_map]
            rfl
          refine ⟨abc, rfl, by decide +kernel, fun L nL => ?_⟩
          rw [ex]
          have nDL : D ≠ L := ne_of_none hw7 nL
          have s8 : Same H7 (upd H7 L (.lst (letters.map V.str))) := same_upd nL
          have hL : upd H7 L (.lst (letters.map V.str)) L = some (.lst (letters.map V.str)) := upd_same
          generalize upd H7 L (.lst (letters.map V.str)) = H8 at s8 hL ⊢
          have hw8 : Ws H8 D ws := s8 _ _ hw7
          refine ⟨L, rfl, ⟨_, SqL.of hL⟩, fun D2 nD2 => ?_⟩
          have nLD : L ≠ D2 := ne_of_none hL nD2
          have nDD : D ≠ D2 := ne_of_none hw8 nD2
          refine lc_list (K := K) (a := L) (xs := letters.map V.str) (fun j H' => (∀ c, c ≠ D2 → H' c = H8 c) ∧ H' D2 = some (.lst (((letters.take j).filter fun x => decide (x ∉ ws)).map V.str)))
            ⟨fun c nc => upd_ne nc, upd_same⟩ (fun j H' _ h => SqL.of (by rw [h.1 L nLD]; exact hL)) ?_ ?_
          · rintro j y H' hj ⟨k1, k2⟩
            rw [List.getElem?_map] at hj
            cases e3 : letters[j]? with
            | none =>
              rw [e3] at hj
              cases hj
            | some c =>
              rw [e3] at hj
              cases hj
              have et : letters.take (j + 1) = letters.take j ++ [c] := by
                rw [List.take_add_one, e3]
                rfl
              have lt : j < letters.length := (List.getElem?_eq_some_iff.mp e3).1
              rw [letters_len] at lt
              have ll : ((letters.take j).filter fun x => decide (x ∉ ws)).length ≤ j := Nat.le_trans (List.length_filter_le _ _) (by rw [List.length_take]; omega)
              refine ⟨rfl, _, rfl, _, rfl, D, ws.map V.str, rfl, Or.inl (SqL.of (by rw [k1 D nDD]; exact hw8)), rfl, flat_strs ws, _, rfl, ?_⟩
              rw [inV_str]
              by_cases hc : c ∈ ws
              · refine ifF (by simpa using hc) ⟨k1, ?_⟩
                rw [et, List.filter_append]
                simp [k2, hc]
              · refine ifT (by simpa using hc) ⟨_, rfl, _, k2, by rw [List.length_map]; omega, fun b nb => by rw [upd_ne nb]; exact k1 b nb, ?_⟩
                rw [upd_same, et, List.filter_append]
                simp [hc]
          · rintro H9 ⟨k1, k2⟩
            rw [List.length_map, List.take_length] at k2
            obtain ⟨x3, rest, e3, w3, n3⟩ := free_letter (ws := ws) (by omega)
            rw [e3] at k2
            have hw9 : Ws H9 D ws := by
              show H9 D = _
              rw [k1 D nDD]
              exact hw8
            have fr9 : ∀ c o, H7 c = some o → H9 c = some o := fun c o e => by
              have e8 := s8 _ _ e
              rw [k1 c (ne_of_none e8 nD2)]
              exact e8
            have pu9 : Pu H9 p (n + 12 + 11 * ((i + 1 : Nat) : Int)) := by
              obtain ⟨xs9, h1, h2⟩ := pu
              exact ⟨xs9, fr9 _ _ h1, h2⟩
            refine ⟨D2, _, ((0 : Nat) : Int), V.str x3, rfl, rfl, SqL.of k2, atI_nat rfl, ?_⟩
            exact ⟨_, rfl, Or.inl ⟨rfl, _, SqL.of hw9⟩, _, rfl, D, _, _, rfl, rfl, hw9, lw, pt x3 H9 _ w3 n3 hw9 (b7.trans fun c o _ e => fr9 c o e) pu9⟩
        · refine ifF (by simpa using hin) ?_
          exact ⟨_, rfl, Or.inl ⟨rfl, _, SqL.of hw7⟩, _, rfl, D, _, _, rfl, rfl, hw7, lw, pt x2 H7 _ wx hin hw7 b7 pu⟩
    · rintro σ H' ⟨⟨o6, o7, o8, rfl⟩, hp5, b5, ws, hw, hl, nd, wd⟩
      exact ⟨_, rfl, q D ws H' (by omega) nd wd (hp5.mono (by omega)) b5 fD hw⟩
end
end K81
end
section
set_option Elab.async false
set_option linter.all false
set_option maxRecDepth 100000
set_option maxHeartbeats 4000000
namespace RevX
open PySem PySem.Spec PyProof.Rows HT
section
variable {prog : Program} {w : World} {A : Around} {E : Value → Shared → Prop} {s : Shared}
theorem applied_rev {sl : Addr} {vl vu vs : Value} {Q : Int × Int × Nat → Shared → Prop} (hs : s.heap.IsSliceOf sl vl vu vs) (pl : IsPart vl none) (pu : IsPart vu none) (ps : IsPart vs (some (-1))) (h : Q (1, -1, 2) s) :
    wpAny (model prog w) A (Builtin.Slice.sliceApplied (.ref sl) (pure ((2 : Nat) : Int))) Q E s := by
  obtain ⟨os, hos, hcs, hds⟩ := id hs
  unfold Builtin.Slice.sliceApplied Builtin.Slice.sliceFields
  refine wpAny_bind (wpAny_bind (wpAny_field hos hds (x := vl) rfl (wpAny_bind (wpAny_field hos hds (x := vu) rfl (wpAny_bind (wpAny_field hos hds (x := vs) rfl (wpAny_pure ?_)))))))
  refine wpAny_bind (slicePart_ ps ?_)
  show wpAny _ _ (if ((-1 : Int) == 0) = true then _ else _) _ _ s
  rw [if_neg (by decide)]
  refine wpAny_bind (slicePart_ pl (wpAny_bind (slicePart_ pu (wpAny_bind (wpAny_pure ?_)))))
  exact wpAny_pure h
/-- (u, v)[::-1] -/
theorem item_rev {t sl : Addr} {u v vl vu vs : Value} {Q : Value → Shared → Prop} (ht : IsTup s.heap t #[u, v]) (hs : s.heap.IsSliceOf sl vl vu vs) (pl : IsPart vl none) (pu : IsPart vu none) (ps : IsPart vs (some (-1)))
    (h : Q (.ref s.heap.objs.size) { s with heap := s.heap.push { cls := .type "tuple", data := .seq #[v, u] } }) : wpAny (model prog w) A (getItem (.ref t) (.ref sl)) Q E s := by
  obtain ⟨os, hos, hcs, hds⟩ := id hs
  have hTs : s.TypeIs (.ref sl) "slice" := ⟨os, hos, hcs⟩
  unfold getItem
  try with_reducible refine wpAny_holding ?_
  first | refine wpAny_bind (wpAny_pure ?_) | skip
  refine wpAny_bind (wpAny_sequenceKey ht.typeIs (by decide) ?_)
  refine wpAny_bind (wpAny_callSpecial?_slot (name := Str.ofString "__getitem__") ht.typeIs PyProof.Rows.slot_tuple_getitem
    (wpAny_call_entry PyProof.Rows.slot_tuple_getitem ht.typeIs entry_tuple_getitem ?_ (args_tuple_getitem _ _)))
  show wpAny _ _ (Builtin.Tuple.tupleItemsOf (.ref t) >>= _) _ _ s
  refine wpAny_bind (tupleItemsOf_ ht (wpAny_bind (wpAny_typeOf hTs ?_)))
  rw [if_pos (by decide)]
  refine wpAny_bind (applied_rev hs pl pu ps ?_)
  show wpAny _ _ (if (((1 : Int) == 0) && ((-1 : Int) == 1) && (2 == 2)) = true then _ else _) _ _ s
  rw [if_neg (by decide)]
  have hz : sizeOk (.seq #[v, u]) := by show 2 ≤ sizeLine; decide +kernel
  have e : ((List.range 2).filterMap fun (k : Nat) => (#[u, v] : Array Value)[((1 : Int) + (k : Int) * (-1)).toNat]?).toArray = #[v, u] := rfl
  rw [e]
  first
    | exact wpAny_bind (m := Builtin.Tuple.tupleExact _) (wpAny_newObj_type (wpAny_pure ⟨_, rfl, wpAny_pure h⟩) hz)
    | exact wpAny_bind (m := Builtin.Tuple.tupleExact _) (wpAny_newObj_type (wpAny_bind (wpAny_pure (wpAny_pure ⟨_, rfl, wpAny_pure h⟩))) hz)
    | exact wpAny_bind (wpAny_bind (m := Builtin.Tuple.tupleExact _) (wpAny_newObj_type (wpAny_pure (wpAny_pure ⟨_, rfl, wpAny_pure h⟩)) hz))
    | exact wpAny_bind (wpAny_bind (m := Builtin.Tuple.tupleExact _) (wpAny_newObj_type (wpAny_pure ⟨_, rfl, wpAny_pure h⟩) hz))
end
end RevX
namespace L2
open PySem PySem.Spec PyProof.Rows
/-- t[::-1], t a pair -/
def tRev2 (K : PySem.W.Frag) (te : TE) : TE := fun σ H Q => te σ H fun x H1 => ∃ a y z, x = .ref a ∧ SqT K H1 a [y, z] ∧ ∀ p, H1 p = none → Q (.ref p) (upd H1 p (.tup [z, y]))
theorem pe_rev2 {X : Cx} {e : Expr} {te : TE} {k : Nat} {p1 p2 p3 pos : Pos} (he : PE X e te) : PE X (.Subscript e (.Slice none none (some (.UnaryOp .USub (.Constant (.int 1) k p1) p2)) p3) pos) (tRev2 X.K te) := by
  refine ⟨fun pins s σ H Q I h => ?_⟩
  refine Subscript_ (thn (he.run pins s σ H _ I h) fun v s1 ⟨x, H1, I1, r1, a, y, z, ex, hx, q⟩ => ?_)
  subst ex
  cases r1
  have step : PO X (some (.UnaryOp .USub (.Constant (.int 1) k p1) p2)) (tPart (tUn (rU fun i => .int (-i)) (tC (.int 1)))) := po_some (pe_un un_neg pe_int)
  refine wpAny_Slice (thn (po_none.run pins s1 σ H1 (fun o G => o = none ∧ G = H1) I1 ⟨rfl, rfl⟩) fun vl s2 ⟨l, H2, I2, pl, el, e2⟩ => thn (po_none.run pins s2 σ H2 (fun o G => o = none ∧ G = H2) I2 ⟨rfl, rfl⟩) fun vu s3 ⟨u, H3, I3, pu, eu, e3⟩ =>
    thn (step.run pins s3 σ H3 (fun o G => o = some (-1) ∧ G = H3) I3 ⟨1, rfl, -1, rfl, rfl, rfl⟩) fun vs s4 ⟨o, H4, I4, ps, eo, e4⟩ => ?_)
  subst el e2 eu e3 eo e4
  have I5 : Inv X pins σ H4 { s4 with heap := s4.heap.push { cls := .type "slice", data := .fields #[vl, vu, vs] } } := I4.kept (t' := s4.toks) fun b ob q => Heap.get?_push_of_some _ q
  obtain ⟨its, r, ht, hz⟩ := I5.tuple hx
  obtain ⟨u1, u2, rfl, ra, rb⟩ := vals2 r
  show wpAny (model X.prog X.w) X.A (subscriptTail e (.Slice none none (some (.UnaryOp .USub (.Constant (.int 1) k p1) p2)) p3) (.ref a) (.ref s4.heap.objs.size)) (EP X pins σ Q) X.xe { s4 with heap := s4.heap.push { cls := .type "slice", data := .fields #[vl, vu, vs] } }
  refine tail_any (ops := [.ref a, .ref s4.heap.objs.size]) ht.typeIs (PyProof.Rows.slot_tuple_getitem.lookup) ?_ (by with_unfolding_all rfl)
  refine RevX.item_rev ht (Heap.IsSliceOf.new _ vl vu vs) pl pu ps ?_
  exact ⟨.ref _, _, I5.laid (t' := s4.toks) (o := .tup [z, y]) (fun b ob q => Heap.get?_push_of_some _ q) (Nat.le_refl _) ⟨by show 2 ≤ sizeLine; decide +kernel, _, .cons rb (.cons ra .nil), IsTup.new _ _⟩, rfl, q _ (I5.hok.fresh (Nat.le_refl _))⟩
end L2
end
section
set_option Elab.async false
set_option linter.all false
set_option maxRecDepth 100000
set_option maxHeartbeats 4000000
namespace K81
open PySem PySem.Spec PyProof.Rows L2
/-! ### data that are compared -/
theorem eqv_nil (ds : List PyData) : PyData.eqv (.list ds) (.list []) = ds.isEmpty := by
  cases ds <;> rfl
theorem nil_shaped : SeqAt.shaped (.list []) = true := by decide +kernel
theorem wd_ok {x : Str} (h : Wd x) : PyData.strOk x = true := by
  unfold PyData.strOk
  rw [← Array.all_toList, List.all_eq_true]
  intro c hc
  have := h.2.2 c hc
  exact decide_eq_true (by omega)
theorem lay_strs : ∀ ws : List Str, (∀ x ∈ ws, Wd x) → PyData.canLayAll0 (ws.map PyData.str) = true
  | [], _ => rfl
  | w :: ws, h => by
    have ih := lay_strs ws fun x hx => h x (List.mem_cons_of_mem _ hx)
    simp [PyData.canLayAll0, PyData.canLay0, ih, wd_ok (h w List.mem_cons_self)]
theorem depth_strs : ∀ ws : List Str, PyData.depthAll (ws.map PyData.str) ≤ 1
  | [] => Nat.zero_le _
  | w :: ws => by
    have ih := depth_strs ws
    show max (PyData.depth (.str w)) (PyData.depthAll (ws.map PyData.str)) ≤ 1
    exact Nat.max_le.mpr ⟨by simp [PyData.depth], ih⟩
theorem strs_shaped {ws : List Str} (h : ∀ x ∈ ws, Wd x) : SeqAt.shaped (.list (ws.map PyData.str)) = true := by
  have h1 : PyData.canLay0 (.list (ws.map PyData.str)) = true := lay_strs ws h
  have h2 : PyData.depth (.list (ws.map PyData.str)) ≤ 64 := by
    show PyData.depthAll (ws.map PyData.str) + 1 ≤ 64
    have := depth_strs ws
    omega
  unfold SeqAt.shaped
  rw [h1, decide_eq_true h2]
  rfl
theorem dp_strs {K : PySem.W.Frag} {H : Hp} : ∀ ws : List Str, DpAll K H (ws.map V.str) (ws.map PyData.str)
  | [] => .nil
  | w :: ws => .cons (.str w) (dp_strs ws)
/-- a street -/
structure S5 where
  nm : Str
  st : Str
  en : Str
  wd : Int
  ln : Int
def S5.vals (s : S5) : List V := [.str s.nm, .str s.st, .str s.en, .int s.wd, .int s.ln]
def S5.data (s : S5) : PyData := .tuple [.str s.nm, .str s.st, .str s.en, .int s.wd, .int s.ln]
/-- at D the list of the streets ts (address, street) -/
def Sts (H : Hp) (D : Addr) (ts : List (Addr × S5)) : Prop := H D = some (.lst (ts.map fun t => V.ref t.1)) ∧ ∀ t ∈ ts, H t.1 = some (.tup t.2.vals)
theorem dp_sts {K : PySem.W.Frag} {H : Hp} : ∀ {ts : List (Addr × S5)}, (∀ t ∈ ts, H t.1 = some (.tup t.2.vals)) → DpAll K H (ts.map fun t => V.ref t.1) (ts.map fun t => t.2.data)
  | [], _ => .nil
  | t :: ts, h => .cons (.tup (SqT.of (h t List.mem_cons_self)) (.cons (.str _) (.cons (.str _) (.cons (.str _) (.cons (.int _) (.cons (.int _) .nil)))))) (dp_sts fun u hu => h u (List.mem_cons_of_mem _ hu))
/-- its words are words -/
def S5.Ok (s : S5) : Prop := Wd s.nm ∧ Wd s.st ∧ Wd s.en ∧ s.st ≠ s.en ∧ 0 ≤ s.wd ∧ s.wd ≤ 9 ∧ 0 ≤ s.ln ∧ s.ln ≤ 9
theorem lay_sts : ∀ ss : List S5, (∀ s ∈ ss, s.Ok) → PyData.canLayAll0 (ss.map S5.data) = true
  | [], _ => rfl
  | s :: ss, h => by
    have ih := lay_sts ss fun x hx => h x (List.mem_cons_of_mem _ hx)
    obtain ⟨h1, h2, h3, _⟩ := h s List.mem_cons_self
    simp [PyData.canLayAll0, PyData.canLay0, S5.data, ih, wd_ok h1, wd_ok h2, wd_ok h3]
theorem depth_sts : ∀ ss : List S5, PyData.depthAll (ss.map S5.data) ≤ 3
  | [] => Nat.zero_le _
  | s :: ss => by
    have ih := depth_sts ss
    show max (PyData.depth s.data) (PyData.depthAll (ss.map S5.data)) ≤ 3
    refine Nat.max_le.mpr ⟨?_, ih⟩
    simp [S5.data, PyData.depth, PyData.depthAll]
theorem sts_shaped {ss : List S5} (h : ∀ s ∈ ss, s.Ok) : SeqAt.shaped (.list (ss.map S5.data)) = true := by
  have h1 : PyData.canLay0 (.list (ss.map S5.data)) = true := lay_sts ss h
  have h2 : PyData.depth (.list (ss.map S5.data)) ≤ 64 := by
    show PyData.depthAll (ss.map S5.data) + 1 ≤ 64
    have := depth_sts ss
    omega
  unfold SeqAt.shaped
  rw [h1, decide_eq_true h2]
  rfl
/-- a pair of unlike words of C at a -/
def Pr (H : Hp) (C : List Str) (a : Addr) : Prop := ∃ x y, H a = some (.tup [.str x, .str y]) ∧ x ∈ C ∧ y ∈ C ∧ x ≠ y
def Prs (H : Hp) (D : Addr) (C : List Str) (ps : List Addr) : Prop := H D = some (.lst (ps.map V.ref)) ∧ ∀ a ∈ ps, Pr H C a
end K81
end
section
set_option Elab.async false
set_option linter.all false
set_option maxRecDepth 100000
set_option maxHeartbeats 8000000
namespace K81
open PySem PySem.Spec PyProof.Rows L2
theorem weak {X : Cx} {st : List Stmt} {t t' : TS} (h : PSs X st t) (w : ∀ D σ H, t' D σ H → t D σ H) : PSs X st t' := ⟨fun pins s σ H D I q => h.run pins s σ H D I (w D σ H q)⟩
theorem Prs.keep {H H' : Hp} {D : Addr} {C : List Str} {ps : List Addr} (h : Prs H D C ps) (k : ∀ b o, H b = some o → H' b = some o) : Prs H' D C ps := by
  refine ⟨k _ _ h.1, fun a ha => ?_⟩
  obtain ⟨x, y, e, r⟩ := h.2 a ha
  exact ⟨x, y, k _ _ e, r⟩
theorem Pr.keep {H H' : Hp} {a : Addr} {C : List Str} (h : Pr H C a) (k : ∀ b o, H b = some o → H' b = some o) : Pr H' C a := by
  obtain ⟨x, y, e, r⟩ := h
  exact ⟨x, y, k _ _ e, r⟩
theorem strs_at {gs : List Str} {i : Nat} {x : Str} (h : gs[i]? = some x) : (gs.map V.str)[i]? = some (.str x) := by
  rw [List.getElem?_map, h]
  rfl
theorem prev_at {gs : List Str} {i : Nat} {x : Str} (nd : gs.Nodup) (h2 : 2 ≤ gs.length) (hx : gs[i]? = some x) : ∃ y, atI (gs.map V.str) ((0 + (i : Int)) - 1) = some (.str y) ∧ y ∈ gs ∧ y ≠ x := by
  have lt := (List.getElem?_eq_some_iff.mp hx).1
  have key : ∀ j : Nat, j < gs.length → j ≠ i → ixN gs.length ((0 + (i : Int)) - 1) = some j → ∃ y, atI (gs.map V.str) ((0 + (i : Int)) - 1) = some (.str y) ∧ y ∈ gs ∧ y ≠ x := fun j lj nj e => by
    have ej : gs[j]? = some gs[j] := List.getElem?_eq_getElem lj
    refine ⟨gs[j], ?_, List.getElem_mem lj, fun e2 => nj ?_⟩
    · unfold atI
      rw [List.length_map, e]
      exact strs_at ej
    · exact (List.getElem?_inj lj nd).mp (by rw [ej, e2, hx])
  unfold ixN at key
  by_cases h0 : i = 0
  · subst h0
    refine key (gs.length - 1) (by omega) (by omega) ?_
    rw [if_neg (by omega), if_pos (by omega)]
    congr 1
    omega
  · refine key (i - 1) (by omega) (by omega) ?_
    rw [if_pos (by omega), if_pos (by omega)]
    congr 1
    omega
abbrev NS : List Str := ["_law_purse_here", "_law_gates", "_law_inner", "_law_way", "_law_found", "_law_at", "_law_row", "_law_gate"]
theorem scShape : FnScope NS ["_law_purse_here", "_law_gates", "_law_inner"] (defScope sShape) := ⟨rfl, rfl, rfl, by decide +kernel, rfl, by decide +kernel, by decide +kernel⟩
def shS (i : Nat) : Stmt := (defBody sShape).getD i (.Pass ⟨0, 0, 0, 0⟩)
/-- what is handed: gates and crossings within, all unlike -/
structure ShG (H : Hp) (p lg li : Addr) (gs is : List Str) : Prop where
  g : Ws H lg gs
  i : Ws H li is
  np : lg ≠ p
  pt : ∃ xs, H p = some (.lst xs)
  nq : li ≠ p
  nd : (gs ++ is).Nodup
  wd : ∀ x ∈ gs ++ is, Wd x
  l1 : 1 ≤ gs.length
  l5 : gs.length ≤ 5
  l8 : is.length ≤ 8
def ShI (k : Int) (p lg li : Addr) (gs is : List Str) (H : Hp) (n : Int) : L2.St → Hp → Prop := fun σ H' => ∃ (way : Int) (D : Addr) (ps : List Addr) (o5 o6 o7 : Option V), σ = [some (.ref p), some (.ref lg), some (.ref li), some (.int way), some (.ref D), o5, o6, o7] ∧
  Pu H' p (n + 1) ∧ But p H H' ∧ H D = none ∧ Prs H' D (gs ++ is) ps ∧ ps.length ≤ 12 ∧ (ps = [] ∨ way < k)
def tSh (k : Int) (p lg li : Addr) (gs is : List Str) (H0 : Hp) (n : Int) (u : TS) : TS := fun E σ H' => ShI k p lg li gs is H0 n σ H' ∧ ∀ σ2 H2, ShI (k + 1) p lg li gs is H0 n σ2 H2 → u E σ2 H2
abbrev SX (P : Program) (w : World) (K : PySem.W.Frag) (mg : Str → Option Value) (base : Heap) (f : Addr) (cdv : Value) (A : Around) (outer : List Env) (s : Shared) (H : Hp) (E : XK) : Cx := (cxOf CX0 P w K mg base NS "_law_shape" (defScope sShape) f cdv A outer s H E).nox
section
variable {P : Program} {w : World} {K : PySem.W.Frag} {mg : Str → Option Value} {base : Heap} {f : Addr} {cdv : Value} {A : Around} {outer : List Env} {s : Shared} {Hl : Hp} {E : XK} {p lg li : Addr} {gs is : List Str} {H0 : Hp} {n : Int}
theorem sh0 (T : Tx K mg) (B : ShG H0 p lg li gs is) {rest : List Stmt} {u : TS} (hu : PSs (SX P w K mg base f cdv A outer s Hl E) rest u) : PSs (SX P w K mg base f cdv A outer s Hl E) (shS 1 :: rest) (tSh 0 p lg li gs is H0 n u) := by
  have gL := T.fr "len" (by decide +kernel)
  have gR := T.fr "range" (by decide +kernel)
  refine weak (t := tSeq _ u) (pss_cons (ps_if (PW.pt (pw_and (pt_cmpR op_eq (pv 3) pe_int (nomark _)) (pw_and1 (pt_cmpR op_gt (pe_callB call_len_seq (by rfl) gL PySem.boot_len (pa_cons (pv 1) pa_nil)) pe_int (nomark _)))))
    (pss_one (ps_for PassesOwn.never rfl (pi_range1 rfl gR (pa_cons (pe_callB call_len_seq (by rfl) gL PySem.boot_len (pa_cons (pv 1) pa_nil)) pa_nil)) (pg_name (i := 5) scShape.nd rfl (Or.inl rfl))
      (pss_one (ps_expr (pe_bm PySem.F.plainAttrs_list PySem.F.slot_list_append PySem.F.type_list_append mt_append (pv 4) (pa_cons (pe_tup (pa_cons (pe_ix ix_list (pv 1) (pv 5) (fun _ _ => rfl)) (pa_cons (pe_ix ix_list (pv 1) (pe_op op_sub (pv 5) pe_int) (fun _ _ => rfl)) pa_nil))) pa_nil)))))) pss_nil) hu) ?_
  rintro D σ H ⟨⟨way, L, ps, o5, o6, o7, rfl, hp, bu, fL, hP, hl, hk⟩, q⟩
  have hg : Ws H lg gs := bu _ _ B.np B.g
  have sl := sizeLine_eq
  have back : ∀ o5 o6 o7, u D [some (.ref p), some (.ref lg), some (.ref li), some (.int way), some (.ref L), o5, o6, o7] H := fun a b c => q _ _ ⟨way, L, ps, a, b, c, rfl, hp, bu, fL, hP, hl, hk.imp id fun z => by omega⟩
  refine ⟨_, rfl, rfl, _, rfl, ?_⟩
  by_cases hw : way = 0
  · refine ifT (by simpa using hw) ⟨_, rfl, lg, _, rfl, Or.inl (SqL.of hg), _, _, rfl, rfl, _, rfl, ?_⟩
    have e0 : ps = [] := hk.elim id fun z => absurd z (by omega)
    subst e0
    by_cases h2 : 2 ≤ gs.length
    · refine ifT (decide_eq_true (by rw [List.length_map]; omega)) ?_
      refine ⟨_, rfl, lg, _, rfl, Or.inl (SqL.of hg), _, rfl, by rw [List.length_map]; have := B.l5; omega, by rw [List.length_map]; have := B.l5; omega, ?_⟩
      rw [List.length_map]
      have nLg : L ≠ lg := fun e => by
        rw [e, B.g] at fL
        cases fL
      refine for_range (n := gs.length) (fun i σ H' => (∃ o5, σ = [some (.ref p), some (.ref lg), some (.ref li), some (.int way), some (.ref L), o5, o6, o7]) ∧ Pu H' p (n + 1) ∧ But p H0 H' ∧ ∃ ps : List Addr, Prs H' L (gs ++ is) ps ∧ ps.length = i)
        ⟨⟨_, rfl⟩, hp, bu, [], hP, rfl⟩ ?_ ?_
      · rintro i σ H' hi ⟨⟨o5, rfl⟩, hp1, b1, ps, hP1, hl1⟩
        have hg1 : Ws H' lg gs := b1 _ _ B.np B.g
        have l5 := B.l5
        have ei : gs[i]? = some gs[i] := List.getElem?_eq_getElem hi
        obtain ⟨y, ey, my, ny⟩ := prev_at (List.nodup_append.mp B.nd).1 h2 ei
        refine ⟨_, rfl, Or.inl ⟨rfl, _, SqL.of hP1.1⟩, _, rfl, _, rfl, lg, _, ((i : Nat) : Int), _, rfl, by rw [Int.zero_add], SqL.of hg1, atI_nat (strs_at ei), _, rfl, _, rfl, _, _, rfl, rfl, lg, _, _, _, rfl, rfl, SqL.of hg1, ey, ?_⟩
        refine ⟨(by show 2 ≤ sizeLine; decide +kernel), fun t nt => ?_⟩
        have ntL : L ≠ t := ne_of_none hP1.1 nt
        obtain ⟨xs1, hx1, hx2⟩ := hp1
        have ntp : p ≠ t := ne_of_none hx1 nt
        have npL : p ≠ L := fun e => by
          obtain ⟨xs, h1⟩ := B.pt
          rw [e, fL] at h1
          cases h1
        refine ⟨L, _, _, rfl, rfl, by rw [upd_ne (Ne.symm (Ne.symm ntL))]; exact hP1.1, by rw [List.length_map]; omega, ?_⟩
        refine ⟨⟨_, rfl⟩, ⟨xs1, by rw [upd_ne npL, upd_ne ntp]; exact hx1, hx2⟩, fun b o nb e => by rw [upd_ne (ne_of_none e fL)]; exact but_new nt b o nb (b1 b o nb e), ps ++ [t], ⟨by rw [upd_same, List.map_append]; rfl, fun a ha => ?_⟩, by simp [hl1]⟩
        rcases List.mem_append.mp ha with h | h
        · obtain ⟨x, z, e, r⟩ := hP1.2 a h
          exact ⟨x, z, by rw [upd_ne (ne_of e hP1.1 (by intro z; cases z)), upd_ne (ne_of_none e nt)]; exact e, r⟩
        · rw [List.mem_singleton.mp h]
          exact ⟨_, _, by rw [upd_ne (Ne.symm ntL)]; exact upd_same, List.mem_append_left _ (List.getElem_mem hi), List.mem_append_left _ my, Ne.symm ny⟩
      · rintro σ H' ⟨⟨o5, rfl⟩, hp1, b1, ps, hP1, hl1⟩
        exact q _ _ ⟨way, L, ps, _, _, _, rfl, hp1, b1, fL, hP1, by have := B.l5; omega, Or.inr (by omega)⟩
    · exact ifF (fun z => by have z := of_decide_eq_true z; rw [List.length_map] at z; omega) (back o5 o6 o7)
  · exact ifF (by simpa using hw) (ifF (by decide) (back o5 o6 o7))
end
end K81
end
section
set_option Elab.async false
set_option linter.all false
set_option maxRecDepth 100000
set_option maxHeartbeats 8000000
namespace K81
open PySem PySem.Spec PyProof.Rows L2
/-- a comprehension of pairs, at its turn j -/
def PvC (H1 : Hp) (D : Addr) (C : List Str) (j : Nat) (H' : Hp) : Prop := Same H1 H' ∧ ∃ ps, Prs H' D C ps ∧ ps.length = j
theorem pvc_start {H1 : Hp} {D : Addr} {C : List Str} (nD : H1 D = none) : PvC H1 D C 0 (upd H1 D (.lst [])) := ⟨same_upd nD, [], ⟨upd_same, fun a h => by simp at h⟩, rfl⟩
theorem pvc_step {H1 H' : Hp} {D t : Addr} {C : List Str} {j : Nat} {x y : Str} (h : PvC H1 D C j H') (nD : H1 D = none) (nt : H' t = none) (hx : x ∈ C) (hy : y ∈ C) (ne : x ≠ y) :
    ∃ ps : List Addr, upd H' t (.tup [.str x, .str y]) D = some (.lst (ps.map V.ref)) ∧ ps.length = j ∧ PvC H1 D C (j + 1) (upd (upd H' t (.tup [.str x, .str y])) D (.lst (ps.map V.ref ++ [V.ref t]))) := by
  obtain ⟨s1, ps, ⟨h1, h2⟩, hl⟩ := h
  have nDt : D ≠ t := ne_of_none h1 nt
  refine ⟨ps, by rw [upd_ne nDt]; exact h1, hl, fun b o e => ?_, ps ++ [t], ⟨by rw [upd_same, List.map_append]; rfl, fun a ha => ?_⟩, by simp [hl]⟩
  · rw [upd_ne (ne_of_none e nD), upd_ne (ne_of_none (s1 _ _ e) nt)]
    exact s1 _ _ e
  · rcases List.mem_append.mp ha with h | h
    · obtain ⟨u, v, e, r⟩ := h2 a h
      exact ⟨u, v, by rw [upd_ne (ne_of e h1 (by intro z; cases z)), upd_ne (ne_of_none e nt)]; exact e, r⟩
    · rw [List.mem_singleton.mp h]
      exact ⟨x, y, by rw [upd_ne (Ne.symm nDt)]; exact upd_same, hx, hy, ne⟩
section
variable {P : Program} {w : World} {K : PySem.W.Frag} {mg : Str → Option Value} {base : Heap} {f : Addr} {cdv : Value} {A : Around} {outer : List Env} {s : Shared} {Hl : Hp} {E : XK} {p lg li : Addr} {gs is : List Str} {H0 : Hp} {n : Int}
theorem sh1 (T : Tx K mg) (B : ShG H0 p lg li gs is) (hu64 : (A.deeper (envOfC "_law_shape" (defScope sShape) s.heap.objs.size f cdv)).units + 64 < cLine) {rest : List Stmt} {u : TS} (hu : PSs (SX P w K mg base f cdv A outer s Hl E) rest u) :
    PSs (SX P w K mg base f cdv A outer s Hl E) (shS 2 :: rest) (tSh 1 p lg li gs is H0 n u) := by
  refine weak (t := tSeq _ u) (pss_cons (ps_if (PW.pt (pw_and (pt_cmpR op_eq (pv 3) pe_int (nomark _)) (pw_and1 (pt_cmpR (op_neD hu64) (pv 2) (pe_lst pa_nil) (nomark _)))))
    (pss_one (ps_set (i := 4) scShape.nd rfl (Or.inl rfl) (pe_op op_cat
      (pe_lc (own := [("_law_gate", 7)]) (g := gName 7) (tt := tYes) rfl scShape.nd (pi_list (pv 1)) (blkOk_by (own := [("_law_gate", 7)]) (N := NS) (sc := defScope sShape) (by decide +kernel))
        (fun _ _ _ _ _ => pg_name (i := 7) scShape.nd rfl (Or.inl rfl)) (fun _ _ _ _ _ => pts_nil) (te := tTup (tCons (tVar 7) (tCons (tOp (rIxL K) (tVar 2) (tC (.int 0))) tNil))) (fun _ _ _ _ _ => pe_tup (pa_cons (pv 7) (pa_cons (pe_ix ix_list (pv 2) pe_int (fun _ _ => rfl)) pa_nil))))
      (pe_lc (own := [("_law_gate", 7)]) (g := gName 7) (tt := tYes) rfl scShape.nd (pi_list (pv 1)) (blkOk_by (own := [("_law_gate", 7)]) (N := NS) (sc := defScope sShape) (by decide +kernel))
        (fun _ _ _ _ _ => pg_name (i := 7) scShape.nd rfl (Or.inl rfl)) (fun _ _ _ _ _ => pts_nil) (te := tTup (tCons (tOp (rIxL K) (tVar 2) (tC (.int 0))) (tCons (tVar 7) tNil))) (fun _ _ _ _ _ => pe_tup (pa_cons (pe_ix ix_list (pv 2) pe_int (fun _ _ => rfl)) (pa_cons (pv 7) pa_nil))))))) pss_nil) hu) ?_
  rintro D σ H ⟨⟨way, L, ps, o5, o6, o7, rfl, hp, bu, fL, hP, hl, hk⟩, q⟩
  have hg : Ws H lg gs := bu _ _ B.np B.g
  have hi : Ws H li is := bu _ _ B.nq B.i
  have sl := sizeLine_eq
  have l5 := B.l5
  have l8 := B.l8
  have back : ∀ o5 o6 o7, u D [some (.ref p), some (.ref lg), some (.ref li), some (.int way), some (.ref L), o5, o6, o7] H := fun a b c => q _ _ ⟨way, L, ps, a, b, c, rfl, hp, bu, fL, hP, hl, hk.imp id fun z => by omega⟩
  refine ⟨_, rfl, rfl, _, rfl, ?_⟩
  by_cases hw : way = 1
  · refine ifT (by simpa using hw) ⟨_, rfl, Nat.zero_le _, fun N nN => ?_⟩
    have sN : Same H (upd H N (.lst [])) := same_upd nN
    have hN : upd H N (.lst []) N = some (.lst []) := upd_same
    generalize upd H N (.lst []) = H1 at sN hN ⊢
    refine ⟨_, _, .lst (SqL.of (sN _ _ hi)) (dp_strs is), .lst (SqL.of hN) .nil, strs_shaped fun x hx => B.wd x (List.mem_append_right _ hx), nil_shaped, _, rfl, ?_⟩
    rw [eqv_nil]
    have b1 : But p H0 H1 := bu.trans fun b o _ e => sN b o e
    have p1 : Pu H1 p (n + 1) := by
      obtain ⟨xs, h1, h2⟩ := hp
      exact ⟨xs, sN _ _ h1, h2⟩
    match is, hi, B with
    | [], hi, B =>
      exact ifF (by decide) (q _ _ ⟨way, L, ps, _, _, _, rfl, p1, b1, fL, hP.keep sN, hl, hk.imp id fun z => by omega⟩)
    | x0 :: r, hi, B =>
      refine ifT rfl ?_
      have x0C : x0 ∈ gs ++ x0 :: r := List.mem_append_right _ List.mem_cons_self
      have gC : ∀ {i : Nat} {y : Str}, gs[i]? = some y → y ∈ gs ++ x0 :: r ∧ y ≠ x0 := fun {i y} e => by
        have m := List.mem_of_getElem? e
        exact ⟨List.mem_append_left _ m, (List.nodup_append.mp B.nd).2.2 y m x0 List.mem_cons_self⟩
      have hg1 := sN _ _ hg
      have hi1 := sN _ _ hi
      refine ⟨_, rfl, lg, rfl, ⟨_, SqL.of hg1⟩, fun D1 nD1 => ?_⟩
      refine lc_list (K := K) (a := lg) (xs := gs.map V.str) (PvC H1 D1 (gs ++ x0 :: r)) (pvc_start nD1) (fun i H' _ h => SqL.of (h.1 _ _ hg1)) ?_ ?_
      · intro i y H' hj h
        rw [List.getElem?_map] at hj
        cases e : gs[i]? with
        | none =>
          rw [e] at hj
          cases hj
        | some y =>
          rw [e] at hj
          cases hj
          have lt := (List.getElem?_eq_some_iff.mp e).1
          refine ⟨rfl, _, rfl, _, rfl, li, _, ((0 : Nat) : Int), _, rfl, rfl, SqL.of (h.1 _ _ hi1), atI_nat rfl, (by show 2 ≤ sizeLine; decide +kernel), fun t nt => ?_⟩
          obtain ⟨qs, k1, k2, k3⟩ := pvc_step h nD1 nt (gC e).1 x0C (gC e).2
          exact ⟨_, k1, by rw [List.length_map]; omega, k3⟩
      · rintro H2 ⟨s2, ps1, hP1, hl1⟩
        have hg2 := s2 _ _ hg1
        have hi2 := s2 _ _ hi1
        refine ⟨_, rfl, lg, rfl, ⟨_, SqL.of hg2⟩, fun D2 nD2 => ?_⟩
        refine lc_list (K := K) (a := lg) (xs := gs.map V.str) (PvC H2 D2 (gs ++ x0 :: r)) (pvc_start nD2) (fun i H' _ h => SqL.of (h.1 _ _ hg2)) ?_ ?_
        · intro i y H' hj h
          rw [List.getElem?_map] at hj
          cases e : gs[i]? with
          | none =>
            rw [e] at hj
            cases hj
          | some y =>
            rw [e] at hj
            cases hj
            have lt := (List.getElem?_eq_some_iff.mp e).1
            refine ⟨rfl, _, rfl, li, _, ((0 : Nat) : Int), _, rfl, rfl, SqL.of (h.1 _ _ hi2), atI_nat rfl, _, rfl, (by show 2 ≤ sizeLine; decide +kernel), fun t nt => ?_⟩
            obtain ⟨qs, k1, k2, k3⟩ := pvc_step h nD2 nt x0C (gC e).1 (Ne.symm (gC e).2)
            exact ⟨_, k1, by rw [List.length_map]; omega, k3⟩
        · rintro H3 ⟨s3, ps2, hP2, hl2⟩
          have hP13 := hP1.keep s3
          rw [List.length_map] at hl1 hl2
          refine ⟨D1, D2, _, _, rfl, rfl, hP13.1, hP2.1, by rw [List.length_map, List.length_map]; omega, fun D3 nD3 => ?_⟩
          have b3 : But p H0 H3 := b1.trans fun b o _ e => s3 _ _ (s2 _ _ e)
          have ND : D3 ≠ p := fun e => by
            obtain ⟨xs, h1, _⟩ := p1
            rw [e, s3 _ _ (s2 _ _ h1)] at nD3
            cases nD3
          have p3 : Pu H3 p (n + 1) := by
            obtain ⟨xs, h1, h2⟩ := p1
            exact ⟨xs, s3 _ _ (s2 _ _ h1), h2⟩
          refine q _ _ ⟨way, D3, ps1 ++ ps2, _, _, _, rfl, p3.upd (Ne.symm ND), b3.trans (but_new nD3), b3.free nD3 ND, ⟨by rw [upd_same, List.map_append], fun a ha => ?_⟩, by rw [List.length_append]; omega, Or.inr (by omega)⟩
          rcases List.mem_append.mp ha with h | h
          · exact (hP13.2 a h).keep (same_upd nD3)
          · exact (hP2.2 a h).keep (same_upd nD3)
  · exact ifF (by simpa using hw) (ifF (by decide) (back o5 o6 o7))
end
end K81
end
section
set_option Elab.async false
set_option linter.all false
set_option maxRecDepth 100000
set_option maxHeartbeats 8000000
namespace K81
open PySem PySem.Spec PyProof.Rows L2
section
variable {P : Program} {w : World} {K : PySem.W.Frag} {mg : Str → Option Value} {base : Heap} {f : Addr} {cdv : Value} {A : Around} {outer : List Env} {s : Shared} {Hl : Hp} {E : XK} {p lg li : Addr} {gs is : List Str} {H0 : Hp} {n : Int}
theorem sh2 (T : Tx K mg) (B : ShG H0 p lg li gs is) {rest : List Stmt} {u : TS} (hu : PSs (SX P w K mg base f cdv A outer s Hl E) rest u) :
    PSs (SX P w K mg base f cdv A outer s Hl E) (shS 3 :: rest) (tSh 2 p lg li gs is H0 n u) := by
  have gL := T.fr "len" (by decide +kernel)
  refine weak (t := tSeq _ u) (pss_cons (ps_if (PW.pt (pw_and (pt_cmpR op_eq (pv 3) pe_int (nomark _)) (pw_and1 (pt_cmpR op_gt (pe_callB call_len_seq (by rfl) gL PySem.boot_len (pa_cons (pv 1) pa_nil)) pe_int (nomark _)))))
    (pss_one (ps_set (i := 4) scShape.nd rfl (Or.inl rfl) (pe_op op_cat
      (pe_op op_rep (pe_lst (pa_cons (pe_tup (pa_cons (pe_ix ix_list (pv 1) pe_int (fun _ _ => rfl)) (pa_cons (pe_ix ix_list (pv 1) pe_int (fun _ _ => rfl)) pa_nil))) pa_nil)) pe_int)
      (pe_lst (pa_cons (pe_tup (pa_cons (pe_ix ix_list (pv 1) pe_int (fun _ _ => rfl)) (pa_cons (pe_ix ix_list (pv 1) pe_int (fun _ _ => rfl)) pa_nil))) pa_nil))))) pss_nil) hu) ?_
  rintro D σ H ⟨⟨way, L, ps, o5, o6, o7, rfl, hp, bu, fL, hP, hl, hk⟩, q⟩
  have hg : Ws H lg gs := bu _ _ B.np B.g
  have sl := sizeLine_eq
  have back : ∀ o5 o6 o7, u D [some (.ref p), some (.ref lg), some (.ref li), some (.int way), some (.ref L), o5, o6, o7] H := fun a b c => q _ _ ⟨way, L, ps, a, b, c, rfl, hp, bu, fL, hP, hl, hk.imp id fun z => by omega⟩
  refine ⟨_, rfl, rfl, _, rfl, ?_⟩
  by_cases hw : way = 2
  · refine ifT (by simpa using hw) ⟨_, rfl, lg, _, rfl, Or.inl (SqL.of hg), _, _, rfl, rfl, _, rfl, ?_⟩
    match gs, hg, B with
    | [], hg, B => exact absurd B.l1 (by decide)
    | [g], hg, B => exact ifF (by simp) (q _ _ ⟨way, L, ps, _, _, _, rfl, hp, bu, fL, hP, hl, hk.imp id fun z => by omega⟩)
    | g0 :: g1 :: r, hg, B =>
      refine ifT (decide_eq_true (by simp only [List.map_cons, List.length_cons]; omega)) ?_
      have ne : g0 ≠ g1 := fun e => by
        have := (List.nodup_cons.mp B.nd).1
        rw [e] at this
        exact this (by simp)
      have m0 : g0 ∈ (g0 :: g1 :: r) ++ is := by simp
      have m1 : g1 ∈ (g0 :: g1 :: r) ++ is := by simp
      refine ⟨_, rfl, lg, _, ((0 : Nat) : Int), _, rfl, rfl, SqL.of hg, atI_nat rfl, _, rfl, lg, _, ((1 : Nat) : Int), _, rfl, rfl, SqL.of hg, atI_nat rfl, (by show 2 ≤ sizeLine; decide +kernel), fun t nt => ?_⟩
      have s1 : Same H (upd H t (.tup [.str g0, .str g1])) := same_upd nt
      have et : upd H t (.tup [.str g0, .str g1]) t = some (.tup [.str g0, .str g1]) := upd_same
      generalize upd H t (.tup [.str g0, .str g1]) = H1 at s1 et ⊢
      refine ⟨(by show 1 ≤ sizeLine; decide +kernel), fun a na => ?_⟩
      have s2 : Same H1 (upd H1 a (.lst [.ref t])) := same_upd na
      have ea : upd H1 a (.lst [.ref t]) a = some (.lst [.ref t]) := upd_same
      generalize upd H1 a (.lst [.ref t]) = H2 at s2 ea ⊢
      refine ⟨a, 3, _, rfl, rfl, ea, by decide, by decide, (by show 1 * 3 ≤ sizeLine; decide +kernel), fun b nb => ?_⟩
      have er : (List.replicate (Int.toNat 3) [V.ref t]).flatten = [V.ref t, V.ref t, V.ref t] := rfl
      rw [er]
      have s3 : Same H2 (upd H2 b (.lst [V.ref t, V.ref t, V.ref t])) := same_upd nb
      have eb : upd H2 b (.lst [V.ref t, V.ref t, V.ref t]) b = some (.lst [V.ref t, V.ref t, V.ref t]) := upd_same
      generalize upd H2 b (.lst [V.ref t, V.ref t, V.ref t]) = H3 at s3 eb ⊢
      have s03 : Same H H3 := same_trans s1 (same_trans s2 s3)
      have hg3 := s03 _ _ hg
      refine ⟨_, rfl, lg, _, ((1 : Nat) : Int), _, rfl, rfl, SqL.of hg3, atI_nat rfl, _, rfl, lg, _, ((0 : Nat) : Int), _, rfl, rfl, SqL.of hg3, atI_nat rfl, (by show 2 ≤ sizeLine; decide +kernel), fun t2 nt2 => ?_⟩
      have s4 : Same H3 (upd H3 t2 (.tup [.str g1, .str g0])) := same_upd nt2
      have et2 : upd H3 t2 (.tup [.str g1, .str g0]) t2 = some (.tup [.str g1, .str g0]) := upd_same
      generalize upd H3 t2 (.tup [.str g1, .str g0]) = H4 at s4 et2 ⊢
      refine ⟨(by show 1 ≤ sizeLine; decide +kernel), fun c nc => ?_⟩
      have s5 : Same H4 (upd H4 c (.lst [.ref t2])) := same_upd nc
      have ec : upd H4 c (.lst [.ref t2]) c = some (.lst [.ref t2]) := upd_same
      generalize upd H4 c (.lst [.ref t2]) = H5 at s5 ec ⊢
      have s35 := same_trans s4 s5
      have s05 := same_trans s03 s35
      refine ⟨b, c, _, _, rfl, rfl, s35 _ _ eb, ec, (by show 3 + 1 ≤ sizeLine; decide +kernel), fun d nd => ?_⟩
      have b5 : But p H0 H5 := bu.trans fun b o _ e => s05 _ _ e
      have ND : d ≠ p := fun e => by
        obtain ⟨xs, h1, _⟩ := hp
        rw [e, s05 _ _ h1] at nd
        cases nd
      have p5 : Pu H5 p (n + 1) := by
        obtain ⟨xs, h1, h2⟩ := hp
        exact ⟨xs, s05 _ _ h1, h2⟩
      have kd : Same H5 (upd H5 d (.lst ([V.ref t, V.ref t, V.ref t] ++ [V.ref t2]))) := same_upd nd
      have pt : Pr (upd H5 d (.lst ([V.ref t, V.ref t, V.ref t] ++ [V.ref t2]))) ((g0 :: g1 :: r) ++ is) t := ⟨g0, g1, kd _ _ (s35 _ _ (s3 _ _ (s2 _ _ et))), m0, m1, ne⟩
      have pt2 : Pr (upd H5 d (.lst ([V.ref t, V.ref t, V.ref t] ++ [V.ref t2]))) ((g0 :: g1 :: r) ++ is) t2 := ⟨g1, g0, kd _ _ (s5 _ _ et2), m1, m0, Ne.symm ne⟩
      refine q _ _ ⟨way, d, [t, t, t, t2], _, _, _, rfl, p5.upd (Ne.symm ND), b5.trans (but_new nd), b5.free nd ND, ⟨upd_same, fun a ha => ?_⟩, (by show 4 ≤ 12; decide), Or.inr (by omega)⟩
      simp only [List.mem_cons, List.not_mem_nil, or_false] at ha
      rcases ha with rfl | rfl | rfl | rfl
      · exact pt
      · exact pt
      · exact pt
      · exact pt2
  · exact ifF (by simpa using hw) (ifF (by decide) (back o5 o6 o7))
end
end K81
end
section
set_option Elab.async false
set_option linter.all false
set_option maxRecDepth 100000
set_option maxHeartbeats 8000000
namespace K81
open PySem PySem.Spec PyProof.Rows L2
section
variable {P : Program} {w : World} {K : PySem.W.Frag} {mg : Str → Option Value} {base : Heap} {f : Addr} {cdv : Value} {A : Around} {outer : List Env} {s : Shared} {Hl : Hp} {E : XK} {p lg li : Addr} {gs is : List Str} {H0 : Hp} {n : Int}
theorem sh3 (T : Tx K mg) (B : ShG H0 p lg li gs is) (hu64 : (A.deeper (envOfC "_law_shape" (defScope sShape) s.heap.objs.size f cdv)).units + 64 < cLine) {rest : List Stmt} {u : TS} (hu : PSs (SX P w K mg base f cdv A outer s Hl E) rest u) :
    PSs (SX P w K mg base f cdv A outer s Hl E) (shS 4 :: rest) (tSh 3 p lg li gs is H0 n u) := by
  have gL := T.fr "len" (by decide +kernel)
  have gR := T.fr "range" (by decide +kernel)
  refine weak (t := tSeq _ u) (pss_cons (ps_if (PW.pt (pw_and (pt_cmpR op_eq (pv 3) pe_int (nomark _)) (pw_and (pt_cmpR (op_neD hu64) (pv 2) (pe_lst pa_nil) (nomark _)) (pw_and1 (pt_cmpR op_gt (pe_callB call_len_seq (by rfl) gL PySem.boot_len (pa_cons (pv 1) pa_nil)) pe_int (nomark _))))))
    (pss_cons (ps_set (i := 6) scShape.nd rfl (Or.inr rfl) (pe_op op_cat (pe_op op_cat (pe_lst (pa_cons (pe_ix ix_list (pv 1) pe_int (fun _ _ => rfl)) pa_nil)) (pv 2)) (pe_lst (pa_cons (pe_ix ix_list (pv 1) pe_int (fun _ _ => rfl)) pa_nil))))
    (pss_one (ps_set (i := 4) scShape.nd rfl (Or.inl rfl) (pe_op op_cat
      (pe_lc (own := [("_law_at", 5)]) (g := gName 5) (tt := tYes) rfl scShape.nd (pi_range1 rfl gR (pa_cons (pe_op op_sub (pe_callB call_len_seq (by rfl) gL PySem.boot_len (pa_cons (pv 6) pa_nil)) pe_int) pa_nil)) (blkOk_by (own := [("_law_at", 5)]) (N := NS) (sc := defScope sShape) (by decide +kernel))
        (fun _ _ _ _ _ => pg_name (i := 5) scShape.nd rfl (Or.inl rfl)) (fun _ _ _ _ _ => pts_nil) (te := tTup (tCons (tOp (rIxL K) (tVar 6) (tVar 5)) (tCons (tOp (rIxL K) (tVar 6) (tOp (rI0 fun i j => V.int (i + j)) (tVar 5) (tC (.int 1)))) tNil)))
        (fun _ _ _ _ _ => pe_tup (pa_cons (pe_ix ix_list (pv 6) (pv 5) (fun _ _ => rfl)) (pa_cons (pe_ix ix_list (pv 6) (pe_op op_add (pv 5) pe_int) (fun _ _ => rfl)) pa_nil))))
      (pe_lst (pa_cons (pe_tup (pa_cons (pe_ix ix_list (pv 1) pe_int (fun _ _ => rfl)) (pa_cons (pe_ix ix_list (pv 1) pe_int (fun _ _ => rfl)) pa_nil))) pa_nil)))))) pss_nil) hu) ?_
  rintro D σ H ⟨⟨way, L, ps, o5, o6, o7, rfl, hp, bu, fL, hP, hl, hk⟩, q⟩
  have hg : Ws H lg gs := bu _ _ B.np B.g
  have hi : Ws H li is := bu _ _ B.nq B.i
  have sl := sizeLine_eq
  have l5 := B.l5
  have l8 := B.l8
  have back : ∀ o5 o6 o7, u D [some (.ref p), some (.ref lg), some (.ref li), some (.int way), some (.ref L), o5, o6, o7] H := fun a b c => q _ _ ⟨way, L, ps, a, b, c, rfl, hp, bu, fL, hP, hl, hk.imp id fun z => by omega⟩
  refine ⟨_, rfl, rfl, _, rfl, ?_⟩
  by_cases hw : way = 3
  · refine ifT (by simpa using hw) ⟨_, rfl, Nat.zero_le _, fun N nN => ?_⟩
    have sN : Same H (upd H N (.lst [])) := same_upd nN
    have hN : upd H N (.lst []) N = some (.lst []) := upd_same
    generalize upd H N (.lst []) = H1 at sN hN ⊢
    refine ⟨_, _, .lst (SqL.of (sN _ _ hi)) (dp_strs is), .lst (SqL.of hN) .nil, strs_shaped fun x hx => B.wd x (List.mem_append_right _ hx), nil_shaped, _, rfl, ?_⟩
    rw [eqv_nil]
    have b1 : But p H0 H1 := bu.trans fun b o _ e => sN b o e
    have p1 : Pu H1 p (n + 1) := by
      obtain ⟨xs, h1, h2⟩ := hp
      exact ⟨xs, sN _ _ h1, h2⟩
    have back1 : ∀ o5 o6 o7, u D [some (.ref p), some (.ref lg), some (.ref li), some (.int way), some (.ref L), o5, o6, o7] H1 := fun a b c => q _ _ ⟨way, L, ps, a, b, c, rfl, p1, b1, fL, hP.keep sN, hl, hk.imp id fun z => by omega⟩
    have hg1 := sN _ _ hg
    have hi1 := sN _ _ hi
    by_cases hne : is = []
    · subst hne
      exact ifF (by decide) (ifF (by decide) (back1 _ _ _))
    · have hnb : (!(is.map PyData.str).isEmpty) = true := by
        cases is with
        | nil => exact absurd rfl hne
        | cons => rfl
      refine ifT hnb ⟨_, rfl, lg, _, rfl, Or.inl (SqL.of hg1), _, _, rfl, rfl, _, rfl, ?_⟩
      by_cases h2 : 2 ≤ gs.length
      · refine ifT (decide_eq_true (by rw [List.length_map]; omega)) ?_
        obtain ⟨g0, g1, r, rfl⟩ : ∃ g0 g1 r, gs = g0 :: g1 :: r := by
          match gs, h2 with
          | a :: b :: r, _ => exact ⟨a, b, r, rfl⟩
        have m0 : g0 ∈ (g0 :: g1 :: r) ++ is := by simp
        have m1 : g1 ∈ (g0 :: g1 :: r) ++ is := by simp
        have ne01 : g0 ≠ g1 := fun e => by
          have := (List.nodup_cons.mp B.nd).1
          rw [e] at this
          exact this (by simp)
        -- the row
        refine ⟨_, rfl, lg, _, ((0 : Nat) : Int), _, rfl, rfl, SqL.of hg1, atI_nat rfl, (by show 1 ≤ sizeLine; decide +kernel), fun a na => ?_⟩
        have s2 : Same H1 (upd H1 a (.lst [.str g0])) := same_upd na
        have ea : upd H1 a (.lst [.str g0]) a = some (.lst [.str g0]) := upd_same
        generalize upd H1 a (.lst [.str g0]) = H2 at s2 ea ⊢
        have hi2 := s2 _ _ hi1
        refine ⟨_, rfl, a, li, _, _, rfl, rfl, ea, hi2, (by rw [List.length_map]; show 1 + _ ≤ _; omega), fun b nb => ?_⟩
        have s3 := same_upd (o := HO.lst ([V.str g0] ++ is.map V.str)) nb
        have eb : upd H2 b (.lst ([V.str g0] ++ is.map V.str)) b = some (.lst ([V.str g0] ++ is.map V.str)) := upd_same
        generalize upd H2 b (.lst ([V.str g0] ++ is.map V.str)) = H3 at s3 eb ⊢
        have hg3 := s3 _ _ (s2 _ _ hg1)
        refine ⟨_, rfl, lg, _, ((1 : Nat) : Int), _, rfl, rfl, SqL.of hg3, atI_nat rfl, (by show 1 ≤ sizeLine; decide +kernel), fun c nc => ?_⟩
        have s4 : Same H3 (upd H3 c (.lst [.str g1])) := same_upd nc
        have ec : upd H3 c (.lst [.str g1]) c = some (.lst [.str g1]) := upd_same
        generalize upd H3 c (.lst [.str g1]) = H4 at s4 ec ⊢
        refine ⟨b, c, _, _, rfl, rfl, s4 _ _ eb, ec, (by rw [List.length_append, List.length_map]; show 1 + _ + 1 ≤ _; omega), fun W nW => ?_⟩
        have er : ([V.str g0] ++ is.map V.str) ++ [V.str g1] = (g0 :: (is ++ [g1])).map V.str := by simp
        rw [er]
        have s5 := same_upd (o := HO.lst ((g0 :: (is ++ [g1])).map V.str)) nW
        have eW : Ws (upd H4 W (.lst ((g0 :: (is ++ [g1])).map V.str))) W (g0 :: (is ++ [g1])) := upd_same
        generalize upd H4 W (.lst ((g0 :: (is ++ [g1])).map V.str)) = H5 at s5 eW ⊢
        have s15 : Same H1 H5 := same_trans s2 (same_trans s3 (same_trans s4 s5))
        have rn : (g0 :: (is ++ [g1])).Nodup := by
          have h := List.nodup_append.mp B.nd
          have hgn := List.nodup_cons.mp h.1
          refine List.nodup_cons.mpr ⟨fun m => ?_, List.nodup_append.mpr ⟨h.2.1, by simp, fun x hx y hy => ?_⟩⟩
          · rcases List.mem_append.mp m with m | m
            · exact h.2.2 g0 List.mem_cons_self g0 m rfl
            · exact ne01 (List.mem_singleton.mp m)
          · rw [List.mem_singleton.mp hy]
            exact fun e => h.2.2 g1 (by simp) x hx e.symm
        have rC : ∀ x ∈ g0 :: (is ++ [g1]), x ∈ (g0 :: g1 :: r) ++ is := fun x hx => by
          rcases List.mem_cons.mp hx with e | hx
          · rw [e]; exact m0
          · rcases List.mem_append.mp hx with h | h
            · exact List.mem_append_right _ h
            · rw [List.mem_singleton.mp h]; exact m1
        have rl : (g0 :: (is ++ [g1])).length = is.length + 2 := by simp
        generalize g0 :: (is ++ [g1]) = R at eW rn rC rl
        have b5 : But p H0 H5 := b1.trans fun b o _ e => s15 _ _ e
        have p5 : Pu H5 p (n + 1) := by
          obtain ⟨xs, h1, h2⟩ := p1
          exact ⟨xs, s15 _ _ h1, h2⟩
        have hg5 := s15 _ _ hg1
        refine ⟨_, rfl, W, _, rfl, Or.inl (SqL.of eW), _, _, rfl, rfl, _, rfl, by rw [List.length_map]; omega, by rw [List.length_map]; omega, fun D1 nD1 => ?_⟩
        refine lc_range (lo := 0) (n := ((((R.map V.str).length : Nat) : Int) - 1).toNat) (PvC H5 D1 ((g0 :: g1 :: r) ++ is)) (pvc_start nD1) ?_ ?_
        · intro i H' hii h
          rw [List.length_map] at hii
          have e1 : R[i]? = some R[i] := List.getElem?_eq_getElem (by omega)
          have e2 : R[i + 1]? = some R[i + 1] := List.getElem?_eq_getElem (by omega)
          have ee : (0 + (i : Int)) + 1 = ((i + 1 : Nat) : Int) := by omega
          refine ⟨rfl, _, rfl, _, rfl, W, _, ((i : Nat) : Int), _, rfl, by rw [Int.zero_add], SqL.of (h.1 _ _ eW), atI_nat (strs_at e1), _, rfl, _, rfl, _, _, rfl, rfl, W, _, ((i + 1 : Nat) : Int), _, rfl, congrArg V.int ee, SqL.of (h.1 _ _ eW), atI_nat (strs_at e2), (by show 2 ≤ sizeLine; decide +kernel), fun t nt => ?_⟩
          obtain ⟨qs, k1, k2, k3⟩ := pvc_step h nD1 nt (rC _ (List.getElem_mem _)) (rC _ (List.getElem_mem _)) (fun e => by
            have li : i < R.length := by omega
            have := (List.getElem?_inj (j := i + 1) li rn).mp (by rw [e1, e2, e])
            omega)
          exact ⟨_, k1, by rw [List.length_map]; omega, k3⟩
        · rintro H6 ⟨s6, ps1, hP1, hl1⟩
          rw [List.length_map] at hl1
          have hg6 := s6 _ _ hg5
          refine ⟨_, rfl, lg, _, ((0 : Nat) : Int), _, rfl, rfl, SqL.of hg6, atI_nat rfl, _, rfl, lg, _, ((1 : Nat) : Int), _, rfl, rfl, SqL.of hg6, atI_nat rfl, (by show 2 ≤ sizeLine; decide +kernel), fun t nt => ?_⟩
          have s7 : Same H6 (upd H6 t (.tup [.str g0, .str g1])) := same_upd nt
          have et : upd H6 t (.tup [.str g0, .str g1]) t = some (.tup [.str g0, .str g1]) := upd_same
          generalize upd H6 t (.tup [.str g0, .str g1]) = H7 at s7 et ⊢
          refine ⟨(by show 1 ≤ sizeLine; decide +kernel), fun c nc => ?_⟩
          have s8 : Same H7 (upd H7 c (.lst [.ref t])) := same_upd nc
          have ec : upd H7 c (.lst [.ref t]) c = some (.lst [.ref t]) := upd_same
          generalize upd H7 c (.lst [.ref t]) = H8 at s8 ec ⊢
          have hP8 := hP1.keep (same_trans s7 s8)
          refine ⟨D1, c, _, _, rfl, rfl, hP8.1, ec, by rw [List.length_map]; show _ + 1 ≤ _; omega, fun d nd => ?_⟩
          have s58 := same_trans s6 (same_trans s7 s8)
          have b8 : But p H0 H8 := b5.trans fun b o _ e => s58 _ _ e
          have ND : d ≠ p := fun e => by
            obtain ⟨xs, h1, _⟩ := p5
            rw [e, s58 _ _ h1] at nd
            cases nd
          have p8 : Pu H8 p (n + 1) := by
            obtain ⟨xs, h1, h2⟩ := p5
            exact ⟨xs, s58 _ _ h1, h2⟩
          refine q _ _ ⟨way, d, ps1 ++ [t], _, _, _, rfl, p8.upd (Ne.symm ND), b8.trans (but_new nd), b8.free nd ND, ⟨by rw [upd_same, List.map_append]; rfl, fun a ha => ?_⟩, by rw [List.length_append]; show _ + 1 ≤ _; omega, Or.inr (by omega)⟩
          rcases List.mem_append.mp ha with h | h
          · exact (hP8.2 a h).keep (same_upd nd)
          · rw [List.mem_singleton.mp h]
            exact ⟨g0, g1, same_upd nd _ _ (s8 _ _ et), m0, m1, ne01⟩
      · exact ifF (fun z => by have z := of_decide_eq_true z; rw [List.length_map] at z; omega) (back1 _ _ _)
  · exact ifF (by simpa using hw) (ifF (by decide) (back o5 o6 o7))
end
/-! ### _law_shape -/
def spShape : Sp := fun vs H Q _ => ∃ (p lg li : Addr) (gs is : List Str) (n : Int), vs = [.ref p, .ref lg, .ref li] ∧ ShG H p lg li gs is ∧ Pu H p n ∧ n ≤ 800000 ∧
  ∀ (D : Addr) (ps : List Addr) (H' : Hp), Pu H' p (n + 1) → But p H H' → H D = none → Prs H' D (gs ++ is) ps → ps.length ≤ 12 → Q (.ref D) H'
section
variable {P : Program} {w : World} {K : PySem.W.Frag} {mg : Str → Option Value} {base : Heap}
theorem ok_shape {f : Addr} {fd : FuncData} (F : FnP K "_law_shape" sShape f fd) (G : DrawZ P w K mg base) (T : Tx K mg) : FnOk P w K mg base CX0 3 f fd ["_law_purse_here", "_law_gates", "_law_inner"] spShape := by
  refine F.ok scShape (fun vs H Q E h => ?_) (fun cdv A outer s H vs Q E hr h => ?_)
  · obtain ⟨_, _, _, _, _, _, rfl, _⟩ := h
    rfl
  · obtain ⟨p, lg, li, gs, is, n, rfl, B, hp, hn, q⟩ := h
    have hu64 : (A.deeper (envOfC "_law_shape" (defScope sShape) s.heap.objs.size f cdv)).units + 64 < cLine := by
      have := hr.un
      omega
    refine ⟨_, PSs.nox (pss_cons (ps_par (i := 3) (j := 4) rfl scShape.nd rfl rfl (by decide) rfl rfl (pa_cons (pe_fz G hr (by rfl) (pa_cons (pv 0) (pa_cons pe_int pa_nil))) (pa_cons (pe_lst pa_nil) pa_nil)) (by rfl))
      (sh0 (n := n) T B (sh1 (n := n) T B hu64 (sh2 (n := n) T B (sh3 (n := n) T B hu64 (pss_one (ps_ret (pv 4)))))))), ?_⟩
    obtain ⟨xs, hx1, hx2⟩ := hp
    refine ⟨_, rfl, p, 6, n, xs, rfl, hx1, hx2, by omega, by decide, by decide, fun r ys r0 r1 hy => ?_⟩
    have hp1 : upd H p (.lst ys) p = some (.lst ys) := upd_same
    have b1 : But p H (upd H p (.lst ys)) := but_self
    generalize upd H p (.lst ys) = H1 at hp1 b1 ⊢
    refine ⟨Nat.zero_le _, fun L nL => ⟨_, _, rfl, ?_⟩⟩
    have nLp : L ≠ p := fun e => by
      rw [e, hp1] at nL
      cases nL
    refine ⟨⟨r, L, [], _, _, _, rfl, ⟨ys, by rw [upd_ne (Ne.symm nLp)]; exact hp1, hy⟩, b1.trans (but_new nL), b1.free nL nLp, ⟨upd_same, fun a h => by simp at h⟩, Nat.zero_le _, Or.inl rfl⟩, fun σ2 H2 h2 => ⟨h2, fun σ3 H3 h3 => ⟨h3, fun σ4 H4 h4 => ⟨h4, fun σ5 H5 h5 => ?_⟩⟩⟩⟩
    obtain ⟨way, D, ps, o5, o6, o7, rfl, hpu, bu, fD, hP, hl, _⟩ := h5
    exact ⟨_, rfl, q D ps H5 hpu bu fD hP hl⟩
end
end K81
end
section
set_option Elab.async false
set_option linter.all false
set_option maxRecDepth 100000
set_option maxHeartbeats 8000000
namespace K81
open PySem PySem.Spec PyProof.Rows L2
abbrev PairZ (P : Program) (w : World) (K : PySem.W.Frag) (mg : Str → Option Value) (base : Heap) : Prop := Fz P w K mg base "_law_pair" 4 ["_law_purse_here", "_law_crossings"] spPair
abbrev WidthZ (P : Program) (w : World) (K : PySem.W.Frag) (mg : Str → Option Value) (base : Heap) : Prop := Fz P w K mg base "_law_width" 4 ["_law_purse_here"] spSmall
abbrev LengthZ (P : Program) (w : World) (K : PySem.W.Frag) (mg : Str → Option Value) (base : Heap) : Prop := Fz P w K mg base "_law_length" 4 ["_law_purse_here"] spSmall
abbrev NT : List Str := ["_law_purse_here", "_law_crossings", "_law_names", "_law_pairs", "_law_many", "_law_found", "_law_at", "_law_pair_here"]
theorem scStreetsOf : FnScope NT ["_law_purse_here", "_law_crossings", "_law_names", "_law_pairs", "_law_many"] (defScope sStreetsOf) := ⟨rfl, rfl, rfl, by decide +kernel, rfl, by decide +kernel, by decide +kernel⟩
def forBody (s : Stmt) : List Stmt := match s with
  | .For _ _ b _ _ => b
  | _ => []
def ifBody (s : Stmt) : List Stmt := match s with
  | .If _ b _ _ => b
  | _ => []
/-- the suite of the turn -/
def suite : List Stmt := ifBody ((forBody ((defBody sStreetsOf).getD 1 (.Pass ⟨0, 0, 0, 0⟩))).getD 0 (.Pass ⟨0, 0, 0, 0⟩))
def suS (i : Nat) : Stmt := suite.getD i (.Pass ⟨0, 0, 0, 0⟩)
/-- what is handed -/
structure StG (H : Hp) (p lc ln lp : Addr) (cs ns : List Str) (ps : List Addr) : Prop where
  hc : Ws H lc cs
  hn : Ws H ln ns
  hp : Prs H lp cs ps
  nc : lc ≠ p
  nn : ln ≠ p
  np : lp ≠ p
  pt : ∃ xs, H p = some (.lst xs)
  cd : cs.Nodup
  cw : ∀ x ∈ cs, Wd x
  nw : ∀ x ∈ ns, Wd x
  l1 : cs.length ≤ 100
  l2 : ps.length ≤ 100
/-- the streets made so far -/
structure StI (H H' : Hp) (p D : Addr) (cs ns : List Str) (i : Nat) (ts : List (Addr × S5)) : Prop where
  bu : But p H H'
  fD : H D = none
  st : Sts H' D ts
  ok : ∀ t ∈ ts, t.2.Ok ∧ t.2.st ∈ cs ∧ t.2.en ∈ cs ∧ H t.1 = none
  nm : ts.map (fun t => t.2.nm) = ns.take i
  ln : ts.length = i
abbrev TX (P : Program) (w : World) (K : PySem.W.Frag) (mg : Str → Option Value) (base : Heap) (f : Addr) (cdv : Value) (A : Around) (outer : List Env) (s : Shared) (H : Hp) (E : XK) : Cx := (cxOf CX0 P w K mg base NT "_law_streets_of" (defScope sStreetsOf) f cdv A outer s H E).nox
/-- the slots in a turn -/
abbrev stσ (p lc ln lp D : Addr) (m : Int) (i : Nat) (o7 : Option V) : L2.St := [some (.ref p), some (.ref lc), some (.ref ln), some (.ref lp), some (.int m), some (.ref D), some (.int (0 + (i : Nat))), o7]
theorem sts_keep {H H' : Hp} {D : Addr} {ts : List (Addr × S5)} (h : Sts H D ts) (k : ∀ b o, H b = some o → H' b = some o) : Sts H' D ts := ⟨k _ _ h.1, fun t ht => k _ _ (h.2 t ht)⟩
section
variable {P : Program} {w : World} {K : PySem.W.Frag} {mg : Str → Option Value} {base : Heap} {f : Addr} {cdv : Value} {A : Around} {outer : List Env} {s : Shared} {Hl : Hp} {E : XK} {p lc ln lp D : Addr} {cs ns : List Str} {ps : List Addr} {H0 : Hp} {n m : Int} {i : Nat}
/-- the street is put to the others -/
def tPutS (p lc ln lp D : Addr) (cs ns : List Str) (H0 : Hp) (n m : Int) (i : Nat) : TS := fun E σ H => ∃ (a : Addr) (x y : Str) (ts : List (Addr × S5)), σ = stσ p lc ln lp D m i (some (.ref a)) ∧ H a = some (.tup [.str x, .str y]) ∧ x ∈ cs ∧ y ∈ cs ∧ x ≠ y ∧ Pu H p n ∧ n ≤ 700000 ∧ StI H0 H p D cs ns i ts ∧
  ∀ ts' H', Pu H' p (n + 2) → StI H0 H' p D cs ns (i + 1) ts' → E.nx (stσ p lc ln lp D m i (some (.ref a))) H'
theorem putS (B : StG H0 p lc ln lp cs ns ps) (hi : i < ns.length) (h100 : i < 1000) (GW : WidthZ P w K mg base) (GL : LengthZ P w K mg base) (hr : Room 4 (A.deeper (envOfC "_law_streets_of" (defScope sStreetsOf) s.heap.objs.size f cdv))) :
    PSs (TX P w K mg base f cdv A outer s Hl E) [suS 2] (tPutS p lc ln lp D cs ns H0 n m i) := by
  refine weak (t := _) (pss_one (ps_expr (pe_bm PySem.F.plainAttrs_list PySem.F.slot_list_append PySem.F.type_list_append mt_append (pv 5) (pa_cons
    (pe_op op_catT (pe_op op_catT (pe_tup (pa_cons (pe_ix ix_list (pv 2) (pv 6) (fun _ _ => rfl)) pa_nil)) (pv 7))
      (pe_tup (pa_cons (pe_fz GW hr (by rfl) (pa_cons (pv 0) pa_nil)) (pa_cons (pe_fz GL hr (by rfl) (pa_cons (pv 0) pa_nil)) pa_nil)))) pa_nil)))) ?_
  rintro Z σ H ⟨a, x, y, ts, rfl, ha, hx, hy, hxy, hp, hn, I, q⟩
  have hN : Ws H ln ns := I.bu _ _ B.nn B.hn
  have en : ns[i]? = some ns[i] := List.getElem?_eq_getElem hi
  have sl := sizeLine_eq
  refine ⟨_, rfl, Or.inl ⟨rfl, _, SqL.of I.st.1⟩, _, rfl, _, rfl, ln, _, ((i : Nat) : Int), _, rfl, by rw [Int.zero_add], SqL.of hN, atI_nat (strs_at en), (by show 1 ≤ sizeLine; decide +kernel), fun t1 nt1 => ?_⟩
  have s1 := same_upd (o := HO.tup [V.str ns[i]]) nt1
  have e1 : upd H t1 (.tup [V.str ns[i]]) t1 = some (.tup [V.str ns[i]]) := upd_same
  generalize upd H t1 (.tup [V.str ns[i]]) = H1 at s1 e1 ⊢
  refine ⟨_, rfl, t1, a, _, _, rfl, rfl, SqT.of e1, SqT.of (s1 _ _ ha), by simp, (by show 1 + 2 ≤ sizeLine; decide +kernel), (fun z => by cases z), fun _ t2 nt2 => ?_⟩
  have s2 := same_upd (o := HO.tup ([V.str ns[i]] ++ [V.str x, V.str y])) nt2
  have e2 : upd H1 t2 (.tup ([V.str ns[i]] ++ [V.str x, V.str y])) t2 = some (.tup ([V.str ns[i]] ++ [V.str x, V.str y])) := upd_same
  generalize upd H1 t2 (.tup ([V.str ns[i]] ++ [V.str x, V.str y])) = H2 at s2 e2 ⊢
  have s02 := same_trans s1 s2
  have p2 : Pu H2 p n := by
    obtain ⟨xs, h1, h2⟩ := hp
    exact ⟨xs, s02 _ _ h1, h2⟩
  have nt2p : t2 ≠ p := fun e => by
    obtain ⟨xs, h1, _⟩ := p2
    rw [← e, e2] at h1
    cases h1
  refine ⟨_, rfl, p, n, rfl, p2, by omega, fun r1 H3 r10 r19 p3 b3 => ?_⟩
  refine ⟨_, rfl, p, n + 1, rfl, p3, by omega, fun r2 H4 r20 r29 p4 b4 => ?_⟩
  have b24 := b3.trans b4
  refine ⟨(by show 2 ≤ sizeLine; decide +kernel), fun t3 nt3 => ?_⟩
  have s5 := same_upd (o := HO.tup [V.int r1, V.int r2]) nt3
  have e5 : upd H4 t3 (.tup [V.int r1, V.int r2]) t3 = some (.tup [V.int r1, V.int r2]) := upd_same
  have e25 := s5 _ _ (b24 _ _ nt2p e2)
  have p5 : Pu (upd H4 t3 (.tup [V.int r1, V.int r2])) p (n + 2) := by
    obtain ⟨xs, h1, h2⟩ := p4
    exact ⟨xs, s5 _ _ h1, h2.mono (by omega)⟩
  generalize upd H4 t3 (.tup [V.int r1, V.int r2]) = H5 at s5 e5 e25 p5 ⊢
  refine ⟨t2, t3, _, _, rfl, rfl, SqT.of e25, SqT.of e5, by simp, (by show 3 + 2 ≤ sizeLine; decide +kernel), (fun z => by cases z), fun _ t nt => ?_⟩
  have b05 : But p H H5 := But.trans (B := H2) (fun b o _ e => s02 b o e) (But.trans b24 fun b o _ e => s5 b o e)
  have bu5 := I.bu.trans b05
  have nDp : D ≠ p := fun e => by
    obtain ⟨xs, h1⟩ := B.pt
    rw [← e, I.fD] at h1
    cases h1
  have keep5 : Sts H5 D ts := ⟨b05 _ _ nDp I.st.1, fun u hu => b05 _ _ (fun e => by
    obtain ⟨xs, h1⟩ := B.pt
    have := (I.ok u hu).2.2.2
    rw [e, h1] at this
    cases this) (I.st.2 u hu)⟩
  have hD5 := keep5.1
  have ntD : t ≠ D := fun e => by
    rw [e, hD5] at nt
    cases nt
  have ntp : t ≠ p := fun e => by
    obtain ⟨xs, h1, _⟩ := p5
    rw [e, h1] at nt
    cases nt
  have s6 := same_upd (o := HO.tup (([V.str ns[i]] ++ [V.str x, V.str y]) ++ [V.int r1, V.int r2])) nt
  refine ⟨D, _, _, rfl, rfl, s6 _ _ hD5, by rw [List.length_map, I.ln]; omega, ?_⟩
  refine q (ts ++ [(t, ⟨ns[i], x, y, r1, r2⟩)]) _ ((p5.upd (Ne.symm ntp)).upd (Ne.symm nDp)) ⟨fun b o nb e => ?_, I.fD, ⟨by rw [upd_same, List.map_append]; rfl, fun u hu => ?_⟩, fun u hu => ?_, ?_, by simp [I.ln]⟩
  · rw [upd_ne (ne_of_none e I.fD)]
    exact s6 _ _ (bu5 b o nb e)
  · rcases List.mem_append.mp hu with h | h
    · have e := s6 _ _ (keep5.2 u h)
      rw [upd_ne (ne_of e (s6 _ _ hD5) (by intro z; cases z))]
      exact e
    · rw [List.mem_singleton.mp h, upd_ne ntD]
      exact upd_same
  · rcases List.mem_append.mp hu with h | h
    · exact I.ok u h
    · rw [List.mem_singleton.mp h]
      exact ⟨⟨B.nw _ (List.getElem_mem hi), B.cw x hx, B.cw y hy, hxy, r10, r19, r20, r29⟩, hx, hy, bu5.free nt ntp⟩
  · rw [List.map_append, I.nm, List.take_add_one, en]
    rfl
end
end K81
end
section
set_option Elab.async false
set_option linter.all false
set_option maxRecDepth 100000
set_option maxHeartbeats 8000000
namespace K81
open PySem PySem.Spec PyProof.Rows L2
theorem StI.same {H0 H H' : Hp} {p D : Addr} {cs ns : List Str} {i : Nat} {ts : List (Addr × S5)} (I : StI H0 H p D cs ns i ts) (s : Same H H') : StI H0 H' p D cs ns i ts :=
  ⟨I.bu.trans fun b o _ e => s b o e, I.fD, sts_keep I.st s, I.ok, I.nm, I.ln⟩
theorem StI.but {H0 H H' : Hp} {p D : Addr} {cs ns : List Str} {i : Nat} {ts : List (Addr × S5)} (I : StI H0 H p D cs ns i ts) (s : But p H H') (h : H0 p ≠ none) : StI H0 H' p D cs ns i ts :=
  ⟨I.bu.trans s, I.fD, ⟨s _ _ (fun e => h (by rw [← e]; exact I.fD)) I.st.1, fun t ht => s _ _ (fun e => h (by rw [← e]; exact (I.ok t ht).2.2.2)) (I.st.2 t ht)⟩, I.ok, I.nm, I.ln⟩
theorem Pu.same {H H' : Hp} {p : Addr} {n : Int} (h : Pu H p n) (s : Same H H') : Pu H' p n := by
  obtain ⟨xs, h1, h2⟩ := h
  exact ⟨xs, s _ _ h1, h2⟩
section
variable {P : Program} {w : World} {K : PySem.W.Frag} {mg : Str → Option Value} {base : Heap} {f : Addr} {cdv : Value} {A : Around} {outer : List Env} {s : Shared} {Hl : Hp} {E : XK} {p lc ln lp D : Addr} {cs ns : List Str} {ps : List Addr} {H0 : Hp} {n m : Int} {i : Nat}
/-- the pair is taken of another street, now and then -/
def tMid (p lc ln lp D : Addr) (cs ns : List Str) (H0 : Hp) (n m : Int) (i : Nat) (u : TS) : TS := fun E σ H => ∃ (a : Addr) (x y : Str) (ts : List (Addr × S5)), σ = stσ p lc ln lp D m i (some (.ref a)) ∧ H a = some (.tup [.str x, .str y]) ∧ x ∈ cs ∧ y ∈ cs ∧ x ≠ y ∧ Pu H p n ∧ n ≤ 700000 ∧ StI H0 H p D cs ns i ts ∧
  ∀ (a' : Addr) (x' y' : Str) (H' : Hp), H' a' = some (.tup [.str x', .str y']) → x' ∈ cs → y' ∈ cs → x' ≠ y' → Pu H' p (n + 3) → StI H0 H' p D cs ns i ts → u E (stσ p lc ln lp D m i (some (.ref a'))) H'
theorem midS (B : StG H0 p lc ln lp cs ns ps) (h100 : i < 100) (G : DrawZ P w K mg base) (GO : OneZ P w K mg base) (T : Tx K mg) (hr : Room 4 (A.deeper (envOfC "_law_streets_of" (defScope sStreetsOf) s.heap.objs.size f cdv)))
    {rest : List Stmt} {u : TS} (hu : PSs (TX P w K mg base f cdv A outer s Hl E) rest u) : PSs (TX P w K mg base f cdv A outer s Hl E) (suS 1 :: rest) (tMid p lc ln lp D cs ns H0 n m i u) := by
  have gL := T.fr "len" (by decide +kernel)
  have hr2 : Room 2 (A.deeper (envOfC "_law_streets_of" (defScope sStreetsOf) s.heap.objs.size f cdv)) := hr.mono (by decide)
  have hr3 : Room 3 (A.deeper (envOfC "_law_streets_of" (defScope sStreetsOf) s.heap.objs.size f cdv)) := hr.mono (by decide)
  have hu64 : (A.deeper (envOfC "_law_streets_of" (defScope sStreetsOf) s.heap.objs.size f cdv)).units + 64 < cLine := by
    have := hr.un
    omega
  refine weak (t := tSeq _ u) (pss_cons (ps_if (PW.pt (pw_and (pt_cmpR op_ge (pv 6) (pe_callB call_len_seq (by rfl) gL PySem.boot_len (pa_cons (pv 3) pa_nil)) (nomark _)) (pw_and (pt_cmpR (op_neD hu64) (pv 5) (pe_lst pa_nil) (nomark _))
      (pw_and1 (pt_cmpR op_eq (pe_fz G hr2 (by rfl) (pa_cons (pv 0) (pa_cons pe_int pa_nil))) pe_int (nomark _))))))
    (pss_cons (ps_set (i := 7) scStreetsOf.nd rfl (Or.inl rfl) (pe_slice sl_tup (pe_fz GO hr3 (by rfl) (pa_cons (pv 0) (pa_cons (pv 5) pa_nil))) (po_some pe_int) (po_some pe_int)))
    (pss_one (ps_set (i := 7) scStreetsOf.nd rfl (Or.inl rfl) (pe_ifExp (pt_cmpR op_eq (pe_fz G hr2 (by rfl) (pa_cons (pv 0) (pa_cons pe_int pa_nil))) pe_int (nomark _)) (pv 7) (pe_rev2 (pv 7)))))) pss_nil) hu) ?_
  rintro Z σ H ⟨a, x, y, ts, rfl, ha, hx, hy, hxy, hp, hn, I, q⟩
  have hlp : Prs H lp cs ps → True := fun _ => trivial
  have hLp : H lp = some (.lst (ps.map V.ref)) := I.bu _ _ B.np B.hp.1
  have sl := sizeLine_eq
  have pt0 : H0 p ≠ none := by
    obtain ⟨xs, h⟩ := B.pt
    rw [h]
    simp
  refine ⟨_, rfl, _, rfl, lp, _, rfl, Or.inl (SqL.of hLp), _, _, rfl, rfl, _, rfl, ?_⟩
  refine ite2 (fun _ => ?_) (fun _ => ifF (by decide) (q a x y H ha hx hy hxy (hp.mono (by omega)) I))
  refine ⟨_, rfl, Nat.zero_le _, fun N nN => ?_⟩
  have sN : Same H (upd H N (.lst [])) := same_upd nN
  have hN : upd H N (.lst []) N = some (.lst []) := upd_same
  generalize upd H N (.lst []) = H1 at sN hN ⊢
  have I1 := I.same sN
  have hp1 := hp.same sN
  have ha1 := sN _ _ ha
  have shp : SeqAt.shaped (.list (ts.map fun t => t.2.data)) = true := by
    have h := sts_shaped (ss := ts.map (·.2)) (fun s hs => by
      obtain ⟨t, ht, rfl⟩ := List.mem_map.mp hs
      exact (I.ok t ht).1)
    rw [List.map_map] at h
    exact h
  refine ⟨_, _, .lst (SqL.of I1.st.1) (dp_sts I1.st.2), .lst (SqL.of hN) .nil, shp, nil_shaped, _, rfl, ?_⟩
  rw [eqv_nil]
  by_cases hne : ts = []
  · subst hne
    exact ifF (by decide) (ifF (by decide) (q a x y H1 ha1 hx hy hxy (hp1.mono (by omega)) I1))
  · have hb : (!(ts.map fun t => t.2.data).isEmpty) = true := by
      cases ts with
      | nil => exact absurd rfl hne
      | cons => rfl
    have lpos : 0 < ts.length := List.length_pos_iff.mpr hne
    obtain ⟨xs1, hx1, hx2⟩ := hp1
    refine ifT hb ⟨_, rfl, p, 5, n, xs1, rfl, hx1, hx2, by omega, by decide, by decide, fun r ys r0 r1 hy5 => ⟨rfl, _, rfl, ?_⟩⟩
    have I2 := I1.but (but_self (o := .lst ys)) pt0
    have hp2 : upd H1 p (.lst ys) p = some (.lst ys) := upd_same
    have nap : a ≠ p := fun e => by
      rw [e, hx1] at ha1
      cases ha1
    have ha2 : upd H1 p (.lst ys) a = some (.tup [.str x, .str y]) := by rw [upd_ne nap]; exact ha1
    generalize upd H1 p (.lst ys) = H2 at I2 hp2 ha2 ⊢
    refine ite2 (fun _ => ?_) (fun _ => q a x y H2 ha2 hx hy hxy ⟨ys, hp2, hy5.mono (by omega)⟩ I2)
    have nDp : D ≠ p := fun e => pt0 (by rw [← e]; exact I.fD)
    refine ⟨_, rfl, _, rfl, p, D, n + 1, ys, _, rfl, hp2, hy5, by omega, I2.st.1, Ne.symm nDp, by rw [List.length_map]; exact lpos, by rw [List.length_map, I.ln]; omega, fun j z ys2 ej hy2 => ?_⟩
    rw [List.getElem?_map] at ej
    cases e2 : ts[j]? with
    | none =>
      rw [e2] at ej
      cases ej
    | some t =>
      rw [e2] at ej
      cases ej
      have tm := List.mem_of_getElem? e2
      obtain ⟨ok, st, se, fr⟩ := I.ok t tm
      have I3 := I2.but (but_self (o := .lst ys2)) pt0
      have hp3 : upd H2 p (.lst ys2) p = some (.lst ys2) := upd_same
      generalize upd H2 p (.lst ys2) = H3 at I3 hp3 ⊢
      have ht3 := I3.st.2 t tm
      refine ⟨_, rfl, _, rfl, t.1, _, rfl, SqT.of ht3, ?_, fun b nb => ?_⟩
      · intro z
        exact absurd (show (1 : Nat) = 0 from z.1) (by decide)
      have ec : cutV t.2.vals (some 1) (some 3) = [V.str t.2.st, V.str t.2.en] := rfl
      rw [ec]
      have s4 := same_upd (o := HO.tup [V.str t.2.st, V.str t.2.en]) nb
      have eb : upd H3 b (.tup [V.str t.2.st, V.str t.2.en]) b = some (.tup [V.str t.2.st, V.str t.2.en]) := upd_same
      have I4 := I3.same s4
      have hp4 := s4 _ _ hp3
      generalize upd H3 b (.tup [V.str t.2.st, V.str t.2.en]) = H4 at s4 eb I4 hp4 ⊢
      refine ⟨_, rfl, p, 2, n + 1 + 1, ys2, rfl, hp4, hy2, by omega, by decide, by decide, fun r' ys3 r0' r1' hy3 => ⟨rfl, _, rfl, ?_⟩⟩
      have nbp : b ≠ p := fun e => by
        rw [e, hp4] at eb
        cases eb
      have I5 := I4.but (but_self (o := .lst ys3)) pt0
      have hp5 : upd H4 p (.lst ys3) p = some (.lst ys3) := upd_same
      have eb5 : upd H4 p (.lst ys3) b = some (.tup [V.str t.2.st, V.str t.2.en]) := by rw [upd_ne nbp]; exact eb
      generalize upd H4 p (.lst ys3) = H5 at I5 hp5 eb5 ⊢
      refine ite2 (fun _ => ⟨_, rfl, q b _ _ H5 eb5 st se ok.2.2.2.1 ⟨ys3, hp5, hy3.mono (by omega)⟩ I5⟩) (fun _ => ⟨_, rfl, b, _, _, rfl, SqT.of eb5, fun c nc => ?_⟩)
      have s6 := same_upd (o := HO.tup [V.str t.2.en, V.str t.2.st]) nc
      exact q c _ _ _ upd_same se st (Ne.symm ok.2.2.2.1) ⟨ys3, s6 _ _ hp5, hy3.mono (by omega)⟩ (I5.same s6)
end
end K81
end
section
set_option Elab.async false
set_option linter.all false
set_option maxRecDepth 100000
set_option maxHeartbeats 8000000
namespace K81
open PySem PySem.Spec PyProof.Rows L2
def spStreetsOf : Sp := fun vs H Q _ => ∃ (p lc ln lp : Addr) (cs ns : List Str) (ps : List Addr) (n m : Int), vs = [.ref p, .ref lc, .ref ln, .ref lp, .int m] ∧ StG H p lc ln lp cs ns ps ∧ Pu H p n ∧ n ≤ 500000 ∧ 0 ≤ m ∧ m ≤ (ns.length : Int) ∧ m ≤ 90 ∧
  ∀ (D : Addr) (ts : List (Addr × S5)) (H' : Hp), Pu H' p (n + 8 * m) → But p H H' → H D = none → Sts H' D ts → (∀ t ∈ ts, t.2.Ok ∧ t.2.st ∈ cs ∧ t.2.en ∈ cs ∧ H t.1 = none) → ts.map (fun t => t.2.nm) = ns.take ts.length → (ts.length : Int) ≤ m → (2 ≤ cs.length → (ts.length : Int) = m) → Q (.ref D) H'
section
variable {P : Program} {w : World} {K : PySem.W.Frag} {mg : Str → Option Value} {base : Heap} {f : Addr} {cdv : Value} {A : Around} {outer : List Env} {s : Shared} {Hl : Hp} {E : XK} {p lc ln lp : Addr} {cs ns : List Str} {ps : List Addr} {H0 : Hp} {m : Int}
def tTl (p lc ln lp : Addr) (cs ns : List Str) (H0 : Hp) (m : Int) : TS := fun E σ H => ∃ (D : Addr) (i : Nat) (n : Int), i < ns.length ∧ i < 100 ∧ tMid p lc ln lp D cs ns H0 n m i (tPutS p lc ln lp D cs ns H0 (n + 3) m i) E σ H
theorem tailS (B : StG H0 p lc ln lp cs ns ps) (G : DrawZ P w K mg base) (GO : OneZ P w K mg base) (GW : WidthZ P w K mg base) (GL : LengthZ P w K mg base) (T : Tx K mg) (hr : Room 4 (A.deeper (envOfC "_law_streets_of" (defScope sStreetsOf) s.heap.objs.size f cdv))) :
    PSs (TX P w K mg base f cdv A outer s Hl E) [suS 1, suS 2] (tTl p lc ln lp cs ns H0 m) :=
  ⟨fun pins s' σ H Z I ⟨D, i, n, h1, h2, h⟩ => (midS (i := i) (n := n) B h2 G GO T hr (putS B h1 (by omega) GW GL hr)).run pins s' σ H Z I h⟩
theorem ok_streetsOf {f : Addr} {fd : FuncData} (F : FnP K "_law_streets_of" sStreetsOf f fd) (G : DrawZ P w K mg base) (GO : OneZ P w K mg base) (GP : PairZ P w K mg base) (GW : WidthZ P w K mg base) (GL : LengthZ P w K mg base) (T : Tx K mg) :
    FnOk P w K mg base CX0 5 f fd ["_law_purse_here", "_law_crossings", "_law_names", "_law_pairs", "_law_many"] spStreetsOf := by
  refine F.ok scStreetsOf (fun vs H Q E h => ?_) (fun cdv A outer s H vs Q E hr h => ?_)
  · obtain ⟨_, _, _, _, _, _, _, _, _, rfl, _⟩ := h
    rfl
  · obtain ⟨p, lc, ln, lp, cs, ns, ps, n, m, rfl, B, hp, hn, m0, mn, m90, q⟩ := h
    have gL := T.fr "len" (by decide +kernel)
    have gR := T.fr "range" (by decide +kernel)
    refine ⟨_, PSs.nox (pss_cons (ps_set (i := 5) scStreetsOf.nd rfl (Or.inl rfl) (pe_lst pa_nil))
      (pss_cons (ps_for PassesOwn.never rfl (pi_range1 rfl gR (pa_cons (pv 4) pa_nil)) (pg_name (i := 6) scStreetsOf.nd rfl (Or.inl rfl))
        (pss_one (ps_if (pt_cmpR op_gt (pe_callB call_len_seq (by rfl) gL PySem.boot_len (pa_cons (pv 1) pa_nil)) pe_int (nomark _))
          (pss_cons (ps_set (i := 7) scStreetsOf.nd rfl (Or.inl rfl) (pe_ifExp (pt_cmpR op_lt (pv 6) (pe_callB call_len_seq (by rfl) gL PySem.boot_len (pa_cons (pv 3) pa_nil)) (nomark _)) (pe_ix ix_list (pv 3) (pv 6) (fun _ _ => rfl)) (pe_fz GP hr (by rfl) (pa_cons (pv 0) (pa_cons (pv 1) pa_nil)))))
            (tailS (m := m) B G GO GW GL T hr)) pss_nil)))
      (pss_one (ps_ret (pv 5))))), ?_⟩
    have sl := sizeLine_eq
    refine ⟨Nat.zero_le _, fun D nD => ?_⟩
    have pt0 : H p ≠ none := by
      obtain ⟨xs, h⟩ := B.pt
      rw [h]
      simp
    have nDp : D ≠ p := fun e => pt0 (by rw [← e]; exact nD)
    have I0 : StI H (upd H D (.lst [])) p D cs ns 0 [] := ⟨but_new nD, nD, ⟨upd_same, fun t h => by simp at h⟩, fun t h => by simp at h, rfl, rfl⟩
    have hp0 := hp.same (same_upd (o := .lst []) nD)
    generalize upd H D (.lst []) = H1 at I0 hp0 ⊢
    refine ⟨_, rfl, _, rfl, by omega, by omega, ?_⟩
    by_cases h2 : 2 ≤ cs.length
    · refine for_range (n := m.toNat) (fun i σ H' => (∃ o6 o7, σ = [some (.ref p), some (.ref lc), some (.ref ln), some (.ref lp), some (.int m), some (.ref D), o6, o7]) ∧ Pu H' p (n + 8 * (i : Nat)) ∧ ∃ ts, StI H H' p D cs ns i ts)
        ⟨⟨_, _, rfl⟩, hp0.mono (by omega), [], I0⟩ ?_ ?_
      · rintro i σ H' hi ⟨⟨o6, o7, rfl⟩, hp1, ts, I⟩
        have hlc : Ws H' lc cs := I.bu _ _ B.nc B.hc
        have hlp : H' lp = some (.lst (ps.map V.ref)) := I.bu _ _ B.np B.hp.1
        have fin : ∀ (a : Addr) (x y : Str) (H2 : Hp), H2 a = some (.tup [.str x, .str y]) → x ∈ cs → y ∈ cs → x ≠ y → Pu H2 p (n + 8 * (i : Nat) + 2) → StI H H2 p D cs ns i ts →
            tTl p lc ln lp cs ns H m { nx := fun σ H' => (∃ o6 o7, σ = [some (.ref p), some (.ref lc), some (.ref ln), some (.ref lp), some (.int m), some (.ref D), o6, o7]) ∧ Pu H' p (n + 8 * ((i + 1 : Nat) : Int)) ∧ ∃ ts, StI H H' p D cs ns (i + 1) ts, rt := fun v H' => Q v H' } (stσ p lc ln lp D m i (some (.ref a))) H2 := fun a x y H2 h1 h2 h3 h4 h5 h6 =>
          ⟨D, i, _, by omega, by omega, a, x, y, ts, rfl, h1, h2, h3, h4, h5, by omega, h6, fun a' x' y' H3 k1 k2 k3 k4 k5 k6 => ⟨a', x', y', ts, rfl, k1, k2, k3, k4, k5, by omega, k6, fun ts' H4 l1 l2 => ⟨⟨_, _, rfl⟩, l1.mono (by push_cast; omega), ts', l2⟩⟩⟩
        refine ⟨_, rfl, lc, _, rfl, Or.inl (SqL.of hlc), _, _, rfl, rfl, _, rfl, ifT (decide_eq_true (by rw [List.length_map]; omega)) ?_⟩
        refine ⟨_, rfl, _, rfl, lp, _, rfl, Or.inl (SqL.of hlp), _, _, rfl, rfl, _, rfl, ?_⟩
        refine ite2 (fun hc => ?_) (fun _ => ?_)
        · have lt : i < ps.length := by
            have z := of_decide_eq_true hc
            rw [List.length_map] at z
            omega
          have ei : (ps.map V.ref)[i]? = some (V.ref ps[i]) := by
            rw [List.getElem?_map, List.getElem?_eq_getElem lt]
            rfl
          obtain ⟨x, y, e, hx, hy, ne⟩ := B.hp.2 ps[i] (List.getElem_mem lt)
          have e' : H' ps[i] = some (.tup [.str x, .str y]) := I.bu _ _ (fun z => by
            obtain ⟨xs, h⟩ := B.pt
            rw [z, h] at e
            cases e) e
          exact ⟨_, rfl, _, rfl, lp, _, ((i : Nat) : Int), _, rfl, by rw [Int.zero_add], SqL.of hlp, atI_nat ei, fin _ x y H' e' hx hy ne (hp1.mono (by omega)) I⟩
        · exact ⟨_, rfl, _, rfl, p, lc, _, cs, rfl, hp1, by omega, hlc, B.nc, B.cd, h2, B.l1, fun t a b H2 ha hb ne hp2 b2 nt et => fin t a b H2 et ha hb ne hp2 (I.but b2 pt0)⟩
      · rintro σ H' ⟨⟨o6, o7, rfl⟩, hp1, ts, I⟩
        refine ⟨_, rfl, q D ts H' (hp1.mono (by omega)) I.bu nD I.st I.ok (by rw [I.ln]; exact I.nm) (by have := I.ln; omega) fun _ => by have := I.ln; omega⟩
    · refine for_range (n := m.toNat) (fun i σ H' => (∃ o6 o7, σ = [some (.ref p), some (.ref lc), some (.ref ln), some (.ref lp), some (.int m), some (.ref D), o6, o7]) ∧ H' = H1) ⟨⟨_, _, rfl⟩, rfl⟩ ?_ ?_
      · rintro i σ H' hi ⟨⟨o6, o7, rfl⟩, rfl⟩
        exact ⟨_, rfl, lc, _, rfl, Or.inl (SqL.of (I0.bu _ _ B.nc B.hc)), _, _, rfl, rfl, _, rfl, ifF (fun z => by have z := of_decide_eq_true z; rw [List.length_map] at z; omega) ⟨⟨_, _, rfl⟩, rfl⟩⟩
      · rintro σ H' ⟨⟨o6, o7, rfl⟩, rfl⟩
        exact ⟨_, rfl, q D [] H' (hp0.mono (by omega)) I0.bu nD I0.st I0.ok rfl (by simpa using m0) fun z => absurd z h2⟩
end
end K81
end
section
set_option Elab.async false
set_option linter.all false
set_option maxRecDepth 100000
set_option maxHeartbeats 8000000
namespace K81
open PySem PySem.Spec PyProof.Rows L2
theorem cut_take (xs : List V) (k : Nat) : cutV xs none (some (k : Int)) = xs.take k := by
  show (xs.drop (HT.sIx xs.length 0 none)).take (HT.sIx xs.length xs.length (some (k : Int)) - HT.sIx xs.length 0 none) = _
  rw [HT.sIx_none, HT.sIx_nat, List.drop_zero, Nat.sub_zero]
  rcases Nat.le_total k xs.length with h | h
  · rw [Nat.min_eq_left h]
  · rw [Nat.min_eq_right h, List.take_length, List.take_of_length_le h]
theorem cut_drop (xs : List V) (k : Nat) : cutV xs (some (k : Int)) none = xs.drop k := by
  show (xs.drop (HT.sIx xs.length 0 (some (k : Int)))).take (HT.sIx xs.length xs.length none - HT.sIx xs.length 0 (some (k : Int))) = _
  rw [HT.sIx_none, HT.sIx_nat]
  rcases Nat.le_total k xs.length with h | h
  · rw [Nat.min_eq_left h]
    exact List.take_of_length_le (by rw [List.length_drop]; omega)
  · rw [Nat.min_eq_right h, List.drop_length, List.drop_of_length_le h]
    simp
theorem perm_map_inv {α β : Type} {g : α → β} : ∀ {us vs : List β}, us.Perm vs → ∀ l : List α, vs = l.map g → ∃ l' : List α, l'.Perm l ∧ us = l'.map g := by
  intro us vs h
  induction h with
  | nil => exact fun l e => ⟨l, List.Perm.refl _, e⟩
  | cons x _ ih =>
    intro l e
    match l, e with
    | y :: r, e =>
      rw [List.map_cons] at e
      obtain ⟨e1, e2⟩ := List.cons.inj e
      obtain ⟨l', p, e3⟩ := ih r e2
      exact ⟨y :: l', p.cons y, by rw [List.map_cons, e1, e3]⟩
  | swap x y l0 =>
    intro l e
    match l, e with
    | a :: b :: r, e =>
      rw [List.map_cons, List.map_cons] at e
      obtain ⟨e1, e2⟩ := List.cons.inj e
      obtain ⟨e3, e4⟩ := List.cons.inj e2
      exact ⟨b :: a :: r, List.Perm.swap a b r, by rw [List.map_cons, List.map_cons, e1, e3, e4]⟩
  | trans _ _ ih1 ih2 =>
    intro l e
    obtain ⟨l1, p1, e1⟩ := ih2 l e
    obtain ⟨l2, p2, e2⟩ := ih1 l1 e1
    exact ⟨l2, p2.trans p1, e2⟩
/-- a world's parts: streets, gates, crossings, names -/
structure Wo (H : Hp) (ls lg lc ln : Addr) (ts : List (Addr × S5)) (gs cs ns : List Str) : Prop where
  s : Sts H ls ts
  g : Ws H lg gs
  c : Ws H lc cs
  n : Ws H ln ns
  ok : ∀ t ∈ ts, t.2.Ok ∧ t.2.st ∈ cs ∧ t.2.en ∈ cs ∧ t.2.nm ∈ ns
  nd : (ts.map fun t => t.2.nm).Nodup
  gp : ∃ k : Nat, 1 ≤ k ∧ k ≤ 5 ∧ k ≤ cs.length ∧ gs = cs.take k
  cd : cs.Nodup
  nn : ns.Nodup
  cw : ∀ x ∈ cs, Wd x
  nw : ∀ x ∈ ns, Wd x
  l1 : cs.length ≤ 9
  l2 : ns.length ≤ 14
  l3 : ts.length ≤ ns.length
/-- all these were not there in H -/
def NewIn (H : Hp) (ls lg lc ln : Addr) (ts : List (Addr × S5)) : Prop := H ls = none ∧ H lg = none ∧ H lc = none ∧ H ln = none ∧ ∀ t ∈ ts, H t.1 = none
def spWorld : Sp := fun vs H Q _ => ∃ (p : Addr) (g i m n : Int), vs = [.ref p, .int g, .int i, .int m] ∧ Pu H p n ∧ n ≤ 400000 ∧ 1 ≤ g ∧ g ≤ 5 ∧ 0 ≤ i ∧ g + i ≤ 9 ∧ 0 ≤ m ∧ m ≤ 14 ∧
  ∀ (W ls lg lc ln : Addr) (ts : List (Addr × S5)) (gs cs ns : List Str) (H' : Hp), Pu H' p (n + 1000) → But p H H' → H W = none → H' W = some (.lst [.ref ls, .ref lg, .ref lc, .ref ln]) → Wo H' ls lg lc ln ts gs cs ns → NewIn H ls lg lc ln ts →
    (gs.length : Int) = g → (cs.length : Int) = g + i → (ns.length : Int) = m → Q (.ref W) H'
abbrev NO : List Str := ["_law_purse_here", "_law_gates", "_law_inner", "_law_top", "_law_words_here", "_law_crossings", "_law_names", "_law_pairs", "_law_many", "_law_streets"]
theorem scWorld : FnScope NO ["_law_purse_here", "_law_gates", "_law_inner", "_law_top"] (defScope sWorld) := ⟨rfl, rfl, rfl, by decide +kernel, rfl, by decide +kernel, by decide +kernel⟩
section
variable {P : Program} {w : World} {K : PySem.W.Frag} {mg : Str → Option Value} {base : Heap}
theorem ok_world {f : Addr} {fd : FuncData} (F : FnP K "_law_world" sWorld f fd) (G : DrawZ P w K mg base) (GWs : Fz P w K mg base "_law_words" 4 ["_law_purse_here", "_law_many"] spWords) (GSh : Fz P w K mg base "_law_shuffled" 3 ["_law_purse_here", "_law_some"] spShuffled)
    (GS : Fz P w K mg base "_law_shape" 3 ["_law_purse_here", "_law_gates", "_law_inner"] spShape) (GSt : Fz P w K mg base "_law_streets_of" 5 ["_law_purse_here", "_law_crossings", "_law_names", "_law_pairs", "_law_many"] spStreetsOf) (T : Tx K mg) :
    FnOk P w K mg base CX0 6 f fd ["_law_purse_here", "_law_gates", "_law_inner", "_law_top"] spWorld := by
  refine F.ok scWorld (fun vs H Q E h => ?_) (fun cdv A outer s H vs Q E hr h => ?_)
  · obtain ⟨_, _, _, _, _, rfl, _⟩ := h
    rfl
  · obtain ⟨p, g, i, m, n, rfl, hp, hn, g1, g5, i0, gi9, m0, m14, q⟩ := h
    have gL := T.fr "len" (by decide +kernel)
    have gMa := T.fr "max" (by decide +kernel)
    have r4 : Room 4 (A.deeper (envOfC "_law_world" (defScope sWorld) s.heap.objs.size f cdv)) := hr.mono (by decide)
    have r3 : Room 3 (A.deeper (envOfC "_law_world" (defScope sWorld) s.heap.objs.size f cdv)) := hr.mono (by decide)
    have r2 : Room 2 (A.deeper (envOfC "_law_world" (defScope sWorld) s.heap.objs.size f cdv)) := hr.mono (by decide)
    refine ⟨_, PSs.nox (pss_cons (ps_set (i := 4) scWorld.nd rfl (Or.inl rfl) (pe_fz GWs r4 (by rfl) (pa_cons (pv 0) (pa_cons (pe_callB (call_max2 rfl) (by rfl) gMa (by decide +kernel) (pa_cons (pe_op op_add (pv 1) (pv 2)) (pa_cons (pe_op op_add (pv 3) pe_int) pa_nil))) pa_nil))))
      (pss_cons (ps_par (i := 5) (j := 6) rfl scWorld.nd rfl rfl (by decide) rfl rfl (pa_cons (pe_slice sl_list (pv 4) po_none (po_some (pe_op op_add (pv 1) (pv 2)))) (pa_cons (pe_slice sl_list (pe_fz GSh r3 (by rfl) (pa_cons (pv 0) (pa_cons (pv 4) pa_nil))) po_none (po_some (pv 3))) pa_nil)) (by rfl))
      (pss_cons (ps_set (i := 7) scWorld.nd rfl (Or.inl rfl) (pe_slice sl_list (pe_fz GS r3 (by rfl) (pa_cons (pv 0) (pa_cons (pe_slice sl_list (pv 5) po_none (po_some (pv 1))) (pa_cons (pe_slice sl_list (pv 5) (po_some (pv 1)) po_none) pa_nil)))) po_none (po_some (pv 3))))
      (pss_cons (ps_set (i := 8) scWorld.nd rfl (Or.inl rfl) (pe_callB (call_max2 rfl) (by rfl) gMa (by decide +kernel) (pa_cons (pe_callB call_len_seq (by rfl) gL PySem.boot_len (pa_cons (pv 7) pa_nil)) (pa_cons (pe_fz G r2 (by rfl) (pa_cons (pv 0) (pa_cons (pe_op op_add (pv 3) pe_int) pa_nil))) pa_nil))))
      (pss_cons (ps_set (i := 9) scWorld.nd rfl (Or.inl rfl) (pe_fz GSt hr (by rfl) (pa_cons (pv 0) (pa_cons (pv 5) (pa_cons (pv 6) (pa_cons (pv 7) (pa_cons (pv 8) pa_nil)))))))
      (pss_one (ps_ret (pe_lst (pa_cons (pe_fz GSh r3 (by rfl) (pa_cons (pv 0) (pa_cons (pv 9) pa_nil))) (pa_cons (pe_slice sl_list (pv 5) po_none (po_some (pv 1))) (pa_cons (pv 5) (pa_cons (pv 6) pa_nil)))))))))))), ?_⟩
    have sl := sizeLine_eq
    have fr : ∀ {b : Addr} {X Y : Hp}, But p X Y → Y b = none → (∃ xs, X p = some (.lst xs)) → (∃ xs, Y p = some (.lst xs)) → X b = none := fun {b X Y} bu e hx hy => bu.free e fun z => by
      obtain ⟨ys, hy⟩ := hy
      rw [z, hy] at e
      cases e
    have np : ∀ {b : Addr} {X : Hp} {k : Int}, Pu X p k → X b = none → b ≠ p := fun {b X k} h e z => by
      obtain ⟨ys, hy, _⟩ := h
      rw [z, hy] at e
      cases e
    obtain ⟨g, rfl⟩ := Int.eq_ofNat_of_zero_le (show 0 ≤ g by omega)
    obtain ⟨i, rfl⟩ := Int.eq_ofNat_of_zero_le i0
    obtain ⟨m, rfl⟩ := Int.eq_ofNat_of_zero_le m0
    refine ⟨_, rfl, _, rfl, _, rfl, _, _, rfl, rfl, _, rfl, _, _, rfl, rfl, _, _, rfl, p, _, n, rfl, hp, by omega, ?_⟩
    have hk : ∃ k : Int, (if ((m : Int) + 2) > ((g : Int) + i) then ((m : Int) + 2) else ((g : Int) + i)) = k ∧ (g : Int) + i ≤ k ∧ (m : Int) + 2 ≤ k ∧ k ≤ 16 := by
      refine ⟨_, rfl, ?_⟩
      split <;> omega
    obtain ⟨k, ek, k1, k2, k3⟩ := hk
    rw [ek]
    refine ⟨by omega, by omega, fun D ws H1 hl nd wd hp1 b1 fD hw => ?_⟩
    have egi : (g : Int) + i = ((g + i : Nat) : Int) := by omega
    -- crossings
    refine ⟨_, rfl, _, rfl, _, rfl, _, _, rfl, rfl, _, rfl, D, _, rfl, SqL.of hw, fun lc nlc => ?_⟩
    rw [egi, cut_take, ← List.map_take]
    have s2 := same_upd (o := HO.lst ((ws.take (g + i)).map V.str)) nlc
    have hc2 : Ws (upd H1 lc (.lst ((ws.take (g + i)).map V.str))) lc (ws.take (g + i)) := upd_same
    have hp2 := hp1.same s2
    have b2 : But p H (upd H1 lc (.lst ((ws.take (g + i)).map V.str))) := b1.trans fun b o _ e => s2 b o e
    have nDp := np hp fD
    have nlcp := np hp1 nlc
    have fc : H lc = none := b1.free nlc nlcp
    generalize upd H1 lc (.lst ((ws.take (g + i)).map V.str)) = H2 at s2 hc2 hp2 b2 ⊢
    have hw2 := s2 _ _ hw
    -- names
    refine ⟨_, rfl, _, rfl, p, D, _, _, rfl, hp2, by omega, hw2, nDp, by rw [List.length_map]; omega, fun S us H3 pu hp3 b3 fS hS => ?_⟩
    obtain ⟨vs, pv, rfl⟩ := perm_map_inv pu ws rfl
    refine ⟨_, rfl, _, rfl, S, _, rfl, SqL.of hS, fun ln nln => ⟨_, _, rfl, ?_⟩⟩
    rw [cut_take, ← List.map_take]
    have s4 := same_upd (o := HO.lst ((vs.take m).map V.str)) nln
    have hn4 : Ws (upd H3 ln (.lst ((vs.take m).map V.str))) ln (vs.take m) := upd_same
    have hc4 := s4 _ _ (b3 _ _ nlcp hc2)
    have hp4 := hp3.same s4
    have b4 : But p H (upd H3 ln (.lst ((vs.take m).map V.str))) := (b2.trans b3).trans fun b o _ e => s4 b o e
    have nlnp := np hp3 nln
    have fn : H ln = none := (b2.trans b3).free nln nlnp
    generalize upd H3 ln (.lst ((vs.take m).map V.str)) = H4 at s4 hn4 hc4 hp4 b4 ⊢
    have hvl := pv.length_eq
    rw [List.length_map] at hp4
    have cl : (ws.take (g + i)).length = g + i := by rw [List.length_take]; omega
    have nl : (vs.take m).length = m := by rw [List.length_take]; omega
    have cd : (ws.take (g + i)).Nodup := (List.take_sublist _ _).nodup nd
    have nn : (vs.take m).Nodup := (List.take_sublist _ _).nodup (pv.nodup_iff.mpr nd)
    have cw : ∀ x ∈ ws.take (g + i), Wd x := fun x hx => wd x (List.mem_of_mem_take hx)
    have nw : ∀ x ∈ vs.take m, Wd x := fun x hx => wd x (pv.mem_iff.mp (List.mem_of_mem_take hx))
    generalize ws.take (g + i) = cs at hc2 hc4 cl cd cw
    generalize vs.take m = ns at hn4 nl nn nw
    -- the pairs
    refine ⟨_, rfl, _, rfl, _, rfl, _, rfl, lc, _, rfl, SqL.of hc4, fun lg nlg => ?_⟩
    rw [cut_take, ← List.map_take]
    have s5 := same_upd (o := HO.lst ((cs.take g).map V.str)) nlg
    have hg5 : Ws (upd H4 lg (.lst ((cs.take g).map V.str))) lg (cs.take g) := upd_same
    have hp5 := hp4.same s5
    have nlgp := np hp4 nlg
    have b5 := b4.trans (Same.but (p := p) s5)
    generalize upd H4 lg (.lst ((cs.take g).map V.str)) = H5 at s5 hg5 hp5 b5 ⊢
    refine ⟨_, rfl, _, rfl, _, rfl, lc, _, rfl, SqL.of (s5 _ _ hc4), fun li nli => ?_⟩
    rw [cut_drop, ← List.map_drop]
    have s6 := same_upd (o := HO.lst ((cs.drop g).map V.str)) nli
    have hi6 : Ws (upd H5 li (.lst ((cs.drop g).map V.str))) li (cs.drop g) := upd_same
    have hp6 := hp5.same s6
    have nlip := np hp5 nli
    have b6 := b5.trans (Same.but (p := p) s6)
    generalize upd H5 li (.lst ((cs.drop g).map V.str)) = H6 at s6 hi6 hp6 b6 ⊢
    have etd : cs.take g ++ cs.drop g = cs := List.take_append_drop g cs
    refine ⟨p, lg, li, cs.take g, cs.drop g, _, rfl, ⟨s6 _ _ hg5, hi6, nlgp, ?_, nlip, by rw [etd]; exact cd, by rw [etd]; exact cw, by rw [List.length_take]; omega, by rw [List.length_take]; omega, by rw [List.length_drop]; omega⟩, hp6, by omega, fun L ps H7 hp7 b67 fL hP hpl => ?_⟩
    · obtain ⟨xs, h, _⟩ := hp6
      exact ⟨xs, h⟩
    rw [etd] at hP
    have b7 := b6.trans b67
    have hc7 : Ws H7 lc cs := b67 _ _ nlcp (s6 _ _ (s5 _ _ hc4))
    have hn7 : Ws H7 ln ns := b67 _ _ nlnp (s6 _ _ (s5 _ _ hn4))
    refine ⟨_, rfl, _, rfl, L, _, rfl, SqL.of hP.1, fun lp nlp => ?_⟩
    rw [cut_take, ← List.map_take]
    have s8 := same_upd (o := HO.lst ((ps.take m).map V.ref)) nlp
    have hl8 : upd H7 lp (.lst ((ps.take m).map V.ref)) lp = some (.lst ((ps.take m).map V.ref)) := upd_same
    have hP8 : Prs (upd H7 lp (.lst ((ps.take m).map V.ref))) lp cs (ps.take m) := ⟨hl8, fun a ha => (hP.2 a (List.mem_of_mem_take ha)).keep s8⟩
    have hp8 := hp7.same s8
    have nlpp := np hp7 nlp
    have b8 := b7.trans (Same.but (p := p) s8)
    have hc8 := s8 _ _ hc7
    have hn8 := s8 _ _ hn7
    have pl : (ps.take m).length ≤ m := by rw [List.length_take]; omega
    generalize upd H7 lp (.lst ((ps.take m).map V.ref)) = H8 at s8 hl8 hP8 hp8 b8 hc8 hn8 ⊢
    generalize ps.take m = qs at hl8 hP8 pl ⊢
    obtain ⟨xs8, hx8, hu8⟩ := hp8
    refine ⟨_, rfl, lp, _, rfl, Or.inl (SqL.of hl8), _, rfl, _, rfl, _, _, rfl, rfl, p, _, _, xs8, rfl, hx8, hu8, by omega, by omega, by omega, fun r ys r0 r1 hy => ⟨_, _, rfl, ?_⟩⟩
    have b9 := b8.trans (but_self (p := p) (H := H8) (o := .lst ys))
    have hx9 : upd H8 p (.lst ys) p = some (.lst ys) := upd_same
    have hc9 : Ws (upd H8 p (.lst ys)) lc cs := by
      show upd H8 p (.lst ys) lc = _
      rw [upd_ne nlcp]
      exact hc8
    have hn9 : Ws (upd H8 p (.lst ys)) ln ns := by
      show upd H8 p (.lst ys) ln = _
      rw [upd_ne nlnp]
      exact hn8
    have hP9 : Prs (upd H8 p (.lst ys)) lp cs qs := ⟨by rw [upd_ne nlpp]; exact hl8, fun a ha => by
      obtain ⟨x, y, e, rr⟩ := hP8.2 a ha
      exact ⟨x, y, by rw [upd_ne (fun z => by rw [z, hx8] at e; cases e)]; exact e, rr⟩⟩
    generalize upd H8 p (.lst ys) = H9 at b9 hx9 hc9 hn9 hP9 ⊢
    have hk2 : ∃ k2 : Int, (if r > (((qs.map V.ref).length : Nat) : Int) then r else (((qs.map V.ref).length : Nat) : Int)) = k2 ∧ 0 ≤ k2 ∧ k2 ≤ m := by
      refine ⟨_, rfl, ?_⟩
      rw [List.length_map]
      split <;> omega
    obtain ⟨k2, ek2, k20, k2m⟩ := hk2
    rw [ek2]
    refine ⟨_, rfl, _, rfl, _, rfl, _, rfl, _, rfl, p, lc, ln, lp, cs, ns, qs, _, k2, rfl, ⟨hc9, hn9, hP9, nlcp, nlnp, nlpp, ⟨_, hx9⟩, cd, cw, nw, by omega, by omega⟩, ⟨ys, hx9, hy⟩, by omega, k20, by omega, by omega, fun T0 ts H10 hp10 b910 fT hT okT nmT lT _ => ?_⟩
    have b10 := b9.trans b910
    have hc10 : Ws H10 lc cs := b910 _ _ nlcp hc9
    have hn10 : Ws H10 ln ns := b910 _ _ nlnp hn9
    have p9 : ∀ {b : Addr}, H9 b = none → b ≠ p := fun {b} e z => by
      rw [z, hx9] at e
      cases e
    refine ⟨_, rfl, _, rfl, p, T0, _, _, rfl, hp10, by omega, hT.1, p9 fT, by rw [List.length_map]; omega, fun ls us2 H11 pu2 hp11 b11 fl hls => ?_⟩
    obtain ⟨ts2, pt2, rfl⟩ := perm_map_inv pu2 ts rfl
    have hc11 : Ws H11 lc cs := b11 _ _ nlcp hc10
    have hn11 : Ws H11 ln ns := b11 _ _ nlnp hn10
    have b011 := b10.trans b11
    rw [List.length_map] at hp11
    have nlsp := np hp10 fl
    refine ⟨_, rfl, _, rfl, _, rfl, lc, _, rfl, SqL.of hc11, fun lg2 nlg2 => ?_⟩
    rw [cut_take, ← List.map_take]
    have s12 := same_upd (o := HO.lst ((cs.take g).map V.str)) nlg2
    have hg12 : Ws (upd H11 lg2 (.lst ((cs.take g).map V.str))) lg2 (cs.take g) := upd_same
    have hp12 := hp11.same s12
    have nlg2p := np hp11 nlg2
    have b12 := b011.trans (Same.but (p := p) s12)
    have fl0 : H ls = none := b10.free fl nlsp
    have flg0 : H lg2 = none := b011.free nlg2 nlg2p
    generalize upd H11 lg2 (.lst ((cs.take g).map V.str)) = H12 at s12 hg12 hp12 b12 ⊢
    refine ⟨_, rfl, _, rfl, (by show 4 ≤ sizeLine; decide +kernel), fun W nW => ?_⟩
    have s13 := same_upd (o := HO.lst [V.ref ls, V.ref lg2, V.ref lc, V.ref ln]) nW
    have nWp := np hp12 nW
    have okN : ∀ t ∈ ts2, H9 t.1 = none := fun t ht => (okT t (pt2.mem_iff.mp ht)).2.2.2
    refine q W ls lg2 lc ln ts2 (cs.take g) cs ns _ ((hp12.same s13).mono (by omega)) (b12.trans (Same.but (p := p) s13)) (b12.free nW nWp) upd_same ⟨⟨s13 _ _ (s12 _ _ hls), fun t ht => s13 _ _ (s12 _ _ (b11 _ _ (p9 (okN t ht)) (hT.2 t (pt2.mem_iff.mp ht))))⟩, s13 _ _ hg12, s13 _ _ (s12 _ _ hc11), s13 _ _ (s12 _ _ hn11), fun t ht => ?_, ?_, ⟨g, by omega, by omega, by omega, rfl⟩, cd, nn, cw, nw, by omega, by omega, by have := pt2.length_eq; omega⟩
      ⟨fl0, flg0, fc, fn, fun t ht => b9.free (okN t ht) (p9 (okN t ht))⟩ (by rw [List.length_take]; omega) (by omega) (by omega)
    · obtain ⟨h1, h2, h3, _⟩ := okT t (pt2.mem_iff.mp ht)
      refine ⟨h1, h2, h3, ?_⟩
      have : t.2.nm ∈ ts.map fun t => t.2.nm := List.mem_map.mpr ⟨t, pt2.mem_iff.mp ht, rfl⟩
      rw [nmT] at this
      exact List.mem_of_mem_take this
    · have h1 : (ts.map fun t => t.2.nm).Nodup := by
        rw [nmT]
        exact (List.take_sublist _ _).nodup nn
      exact ((pt2.map fun t => t.2.nm).nodup_iff).mpr h1
end
end K81
end
section
set_option Elab.async false
set_option linter.all false
set_option maxRecDepth 100000
set_option maxHeartbeats 8000000
namespace K81
open PySem PySem.Spec PyProof.Rows L2
theorem one_lt {a b : Nat} (h : b ≤ a) : (!decide ((one a).cps.toList < (one b).cps.toList)) = true := by
  have : ¬ (one a).cps.toList < (one b).cps.toList := by
    show ¬ [a] < [b]
    rw [List.cons_lt_cons_iff]
    rintro (h1 | ⟨_, h2⟩)
    · omega
    · exact List.not_lt_nil _ h2
  rw [decide_eq_false this]
  rfl
theorem kfl {K : PySem.W.Frag} {a b : String} (h : kitB a b = some false) : PySem.W.kitOne K (.type a) (.type b) = some false := kit_ty h
theorem ktr {K : PySem.W.Frag} {a b : String} (h : kitB a b = some true) : PySem.W.kitOne K (.type a) (.type b) = some true := kit_ty h
section
variable {P : Program} {w : World} {K : PySem.W.Frag} {mg : Str → Option Value} {base : Heap}
/-! ### is_whole, is_count, of counts -/
def spIsWhole : Sp := fun vs H Q _ => ∃ i : Int, vs = [.int i] ∧ Q (.bl true) H
theorem scIsWhole : FnScope ["value"] ["value"] (defScope sWhole) := ⟨rfl, rfl, rfl, by decide +kernel, rfl, by decide +kernel, by decide +kernel⟩
theorem ok_isWhole {f : Addr} {fd : FuncData} (F : FnP K "is_whole" sWhole f fd) (T : Tx K mg) : FnOk P w K mg base CX0 1 f fd ["value"] spIsWhole := by
  refine F.ok scIsWhole (fun vs H Q E h => ?_) (fun cdv A outer s H vs Q E hr h => ?_)
  · obtain ⟨_, rfl, _⟩ := h
    rfl
  · obtain ⟨i, rfl, q⟩ := h
    have gIs := T.fr "isinstance" (by decide +kernel)
    have gI := T.fr "int" (by decide +kernel)
    have gB := T.fr "bool" (by decide +kernel)
    refine ⟨_, PSs.nox (pss_one (ps_ret (pe_and (pe_callB call_isi (by rfl) gIs (by decide +kernel) (pa_cons (pv 0) (pa_cons (pe_bltn (v := .ty "int") (by rfl) gI (by decide +kernel) rfl) pa_nil)))
      (pe_one (pe_not (pe_callB call_isi (by rfl) gIs (by decide +kernel) (pa_cons (pv 0) (pa_cons (pe_bltn (v := .ty "bool") (by rfl) gB (by decide +kernel) rfl) pa_nil)))))))), ?_⟩
    refine ⟨_, rfl, _, _, _, _, _, rfl, .ty _, .base (.int i), ktr (by decide +kernel), _, rfl, ifT rfl ?_⟩
    exact ⟨_, rfl, _, _, _, _, _, rfl, .ty _, .base (.int i), kfl (by decide +kernel), _, rfl, q⟩
def spIsCount : Sp := fun vs H Q _ => ∃ i : Int, vs = [.int i] ∧ 0 ≤ i ∧ Q (.bl true) H
theorem scIsCount : FnScope ["value"] ["value"] (defScope sCount) := ⟨rfl, rfl, rfl, by decide +kernel, rfl, by decide +kernel, by decide +kernel⟩
theorem ok_isCount {f : Addr} {fd : FuncData} (F : FnP K "is_count" sCount f fd) (GW : Fz P w K mg base "is_whole" 1 ["value"] spIsWhole) (T : Tx K mg) : FnOk P w K mg base CX0 2 f fd ["value"] spIsCount := by
  refine F.ok scIsCount (fun vs H Q E h => ?_) (fun cdv A outer s H vs Q E hr h => ?_)
  · obtain ⟨_, rfl, _⟩ := h
    rfl
  · obtain ⟨i, rfl, h0, q⟩ := h
    refine ⟨_, PSs.nox (pss_one (ps_ret (pe_and (pe_fz GW hr (by rfl) (pa_cons (pv 0) pa_nil)) (pe_one (pe_cmpR op_ge (pv 0) pe_int (nomark _)))))), ?_⟩
    refine ⟨_, rfl, i, rfl, _, rfl, ifT rfl ?_⟩
    refine ⟨_, rfl, _, _, rfl, rfl, ?_⟩
    show Q (.bl (decide ((0 : Int) ≤ i))) H
    rw [decide_eq_true h0]
    exact q
/-! ### is_word, of words -/
def spIsWord : Sp := fun vs H Q _ => ∃ z : Str, vs = [.str z] ∧ Wd z ∧ ∀ H', Same H H' → Q (.bl true) H'
theorem scIsWord : FnScope ["value", "letter"] ["value"] (defScope sIsWord) := ⟨rfl, rfl, rfl, by decide +kernel, rfl, by decide +kernel, by decide +kernel⟩
theorem ok_isWord {f : Addr} {fd : FuncData} (F : FnP K "is_word" sIsWord f fd) (T : Tx K mg) : FnOk P w K mg base CX0 1 f fd ["value"] spIsWord := by
  refine F.ok scIsWord (fun vs H Q E h => ?_) (fun cdv A outer s H vs Q E hr h => ?_)
  · obtain ⟨_, rfl, _⟩ := h
    rfl
  · obtain ⟨z, rfl, hz, q⟩ := h
    have gIs := T.fr "isinstance" (by decide +kernel)
    have gS := T.fr "str" (by decide +kernel)
    have gL := T.fr "len" (by decide +kernel)
    have gA := T.fr "all" (by decide +kernel)
    have lz := str_length z
    have h1 := hz.1
    have h8 := hz.2.1
    have sl := sizeLine_eq
    refine ⟨_, PSs.nox (pss_cons (ps_if (PW.pt (pw_or (pt_not (pt_val (pe_callB call_isi (by rfl) gIs (by decide +kernel) (pa_cons (pv 0) (pa_cons (pe_bltn (v := .ty "str") (by rfl) gS (by decide +kernel) rfl) pa_nil)))))
        (pw_or1 (pt_not (pt_chain op_le op_le pe_int (pe_callB call_len_str (by rfl) gL PySem.boot_len (pa_cons (pv 0) pa_nil)) pe_int))))) (pss_one (ps_ret pe_bl)) pss_nil)
      (pss_one (ps_ret (pe_callB (cr_all rfl) (by rfl) gA (by decide +kernel) (pa_cons (pe_lc (own := [("letter", 1)]) (g := gName 1) (tt := tYes) rfl scIsWord.nd (pi_str (pv 0)) (blkOk_by (own := [("letter", 1)]) (N := ["value", "letter"]) (sc := defScope sIsWord) (by decide +kernel))
        (fun _ _ _ _ _ => pg_name (i := 1) scIsWord.nd rfl (Or.inl rfl)) (fun _ _ _ _ _ => pts_nil) (fun _ _ _ _ _ => pe_chain op_le_str op_le_str pe_str (pv 1) pe_str)) pa_nil))))), ?_⟩
    refine ⟨_, rfl, _, _, _, _, _, rfl, .ty _, .base (.str z), ktr (by decide +kernel), _, rfl, ifF (by decide) ?_⟩
    refine ⟨_, rfl, z, rfl, by omega, _, _, rfl, rfl, _, rfl, ifT (decide_eq_true (by omega)) ⟨_, _, rfl, rfl, _, rfl, ?_⟩⟩
    rw [decide_eq_true (show (z.length : Int) ≤ 8 by omega)]
    refine ifF (by decide) ?_
    refine ⟨_, rfl, z, rfl, fun D nD => ?_⟩
    refine lc_it walk_str (fun j H' => Same H H' ∧ H' D = some (.lst ((List.replicate j true).map V.bl))) ⟨same_upd nD, upd_same⟩ (fun _ _ _ _ => trivial) ?_ ?_
    · rintro j x H1 H2 hj ⟨s1, hD⟩ ⟨rfl, c, hc, rfl⟩
      have mc : c ∈ z.cps.toList := by
        rw [← Array.getElem?_toList] at hc
        exact List.mem_of_getElem? hc
      have bc := hz.2.2 c mc
      refine ⟨rfl, _, rfl, _, _, rfl, rfl, _, rfl, ifT ?_ ⟨_, _, rfl, rfl, _, hD, ?_, ?_⟩⟩
      · exact one_lt (b := 97) bc.1
      · rw [List.length_map, List.length_replicate]
        have : z.cps.size = z.cps.toList.length := by simp
        omega
      · have e : (!decide (("z" : Str).cps.toList < (one c).cps.toList)) = true := one_lt (a := 122) bc.2
        have e2 : (V.bl (!decide (("z" : Str).cps.toList < (one c).cps.toList))) = V.bl true := by rw [e]
        refine ⟨fun b o eb => ?_, ?_⟩
        · rw [upd_ne (ne_of_none eb nD)]
          exact s1 _ _ eb
        · rw [upd_same, List.replicate_succ', List.map_append]
          exact congrArg (fun v => some (HO.lst ((List.replicate j true).map V.bl ++ [v]))) e2
    · rintro H' ⟨s1, hD⟩
      refine ⟨D, List.replicate z.cps.size true, rfl, SqL.of hD, ?_⟩
      have e : (List.replicate z.cps.size true).all id = true := by simp
      rw [e]
      exact q H' s1
end
end K81
end
section
set_option Elab.async false
set_option linter.all false
set_option maxRecDepth 100000
set_option maxHeartbeats 8000000
namespace K81
open PySem PySem.Spec PyProof.Rows L2
section
variable {P : Program} {w : World} {K : PySem.W.Frag} {mg : Str → Option Value} {base : Heap}
def spIsStreet : Sp := fun vs H Q _ => ∃ (t : Addr) (s : S5), vs = [.ref t] ∧ H t = some (.tup s.vals) ∧ s.Ok ∧ ∀ H', Same H H' → Q (.bl true) H'
abbrev NE : List Str := ["value", "name", "start", "end", "width", "length"]
theorem scIsStreet : FnScope NE ["value"] (defScope sIsStreet) := ⟨rfl, rfl, rfl, by decide +kernel, rfl, by decide +kernel, by decide +kernel⟩
theorem ok_isStreet {f : Addr} {fd : FuncData} (F : FnP K "is_street" sIsStreet f fd) (GC : Fz P w K mg base "is_count" 2 ["value"] spIsCount) (GW : Fz P w K mg base "is_word" 1 ["value"] spIsWord) (T : Tx K mg) : FnOk P w K mg base CX0 3 f fd ["value"] spIsStreet := by
  refine F.ok scIsStreet (fun vs H Q E h => ?_) (fun cdv A outer s H vs Q E hr h => ?_)
  · obtain ⟨_, _, rfl, _⟩ := h
    rfl
  · obtain ⟨t, z, rfl, ht, ⟨o1, o2, o3, o4, o5, o6, o7, o8⟩, q⟩ := h
    have gIs := T.fr "isinstance" (by decide +kernel)
    have gTu := T.fr "tuple" (by decide +kernel)
    have gL := T.fr "len" (by decide +kernel)
    refine ⟨_, PSs.nox (pss_cons (ps_if (PW.pt (pw_or (pt_not (pt_val (pe_callB call_isi (by rfl) gIs (by decide +kernel) (pa_cons (pv 0) (pa_cons (pe_bltn (v := .ty "tuple") (by rfl) gTu (by decide +kernel) rfl) pa_nil)))))
        (pw_or1 (pt_cmpR op_ne (pe_callB call_len_seq (by rfl) gL PySem.boot_len (pa_cons (pv 0) pa_nil)) pe_int (nomark _))))) (pss_one (ps_ret pe_bl)) pss_nil)
      (pss_cons (ps_asg (pv 0) (pg_tup rfl (pgs_cons (pg_name (i := 1) scIsStreet.nd rfl (Or.inl rfl)) (pgs_cons (pg_name (i := 2) scIsStreet.nd rfl (Or.inl rfl)) (pgs_cons (pg_name (i := 3) scIsStreet.nd rfl (Or.inl rfl)) (pgs_cons (pg_name (i := 4) scIsStreet.nd rfl (Or.inl rfl)) (pgs_cons (pg_name (i := 5) scIsStreet.nd rfl (Or.inl rfl)) pgs_nil)))))))
      (pss_cons (ps_if (pt_not (PW.pt (pw_and (pt_val (pe_fz GW (hr.mono (by decide)) (by rfl) (pa_cons (pv 1) pa_nil))) (pw_and (pt_val (pe_fz GW (hr.mono (by decide)) (by rfl) (pa_cons (pv 2) pa_nil))) (pw_and1 (pt_val (pe_fz GW (hr.mono (by decide)) (by rfl) (pa_cons (pv 3) pa_nil)))))))) (pss_one (ps_ret pe_bl)) pss_nil)
      (pss_one (ps_ret (pe_and (pe_cmpR op_ne (pv 2) (pv 3) (nomark _)) (pe_and (pe_fz GC hr (by rfl) (pa_cons (pv 4) pa_nil)) (pe_one (pe_fz GC hr (by rfl) (pa_cons (pv 5) pa_nil)))))))))), ?_⟩
    refine ⟨_, rfl, _, _, _, _, _, rfl, .ty _, .base (.tup ht), ktr (by decide +kernel), _, rfl, ifF (by decide) ?_⟩
    refine ⟨_, rfl, t, _, rfl, Or.inr (SqT.of ht), rfl, _, rfl, ifF ?_ ?_⟩
    · show ¬ (!decide (V.int 5 = V.int 5)) = true
      decide
    refine ⟨_, rfl, t, _, rfl, SqT.of ht, rfl, _, _, rfl, _, _, rfl, _, _, rfl, _, _, rfl, _, _, rfl, rfl, ?_⟩
    refine ⟨_, rfl, z.nm, rfl, o1, fun H1 s1 => ⟨_, rfl, ifT rfl ⟨_, rfl, z.st, rfl, o2, fun H2 s2 => ⟨_, rfl, ifT rfl ⟨_, rfl, z.en, rfl, o3, fun H3 s3 => ⟨_, rfl, ifF (by decide) ?_⟩⟩⟩⟩⟩⟩
    exact ⟨_, rfl, _, rfl, rfl, _, rfl, ifT (by simpa using o4) ⟨_, rfl, z.wd, rfl, o5, _, rfl, ifT rfl ⟨_, rfl, z.ln, rfl, o7, q H3 (same_trans s1 (same_trans s2 s3))⟩⟩⟩
end
end K81
end
section
set_option Elab.async false
set_option linter.all false
set_option maxRecDepth 100000
set_option maxHeartbeats 8000000
namespace K81
open PySem PySem.Spec PyProof.Rows L2
section
variable {P : Program} {w : World} {K : PySem.W.Frag} {mg : Str → Option Value} {base : Heap}
/-- a list of streets with unlike names is let -/
def spChkStreets (K : PySem.W.Frag) : Sp := fun vs H Q _ => ∃ (l : Addr) (ts : List (Addr × S5)), vs = [.ref l] ∧ Sts H l ts ∧ (∀ t ∈ ts, t.2.Ok) ∧ (ts.map fun t => t.2.nm).Nodup ∧ ts.length ≤ 100 ∧ ∀ H', Same H H' → Q .non H'
/-- are_streets -/
def spAreStreets (K : PySem.W.Frag) : Sp := fun vs H Q _ => ∃ (l : Addr) (ts : List (Addr × S5)), vs = [.ref l] ∧ Sts H l ts ∧ (∀ t ∈ ts, t.2.Ok) ∧ (ts.map fun t => t.2.nm).Nodup ∧ ts.length ≤ 100 ∧ ∀ H', Same H H' → Q (.bl true) H'
abbrev NC : List Str := ["value", "street"]
theorem scAreStreets : FnScope NC ["value"] (defScope sAreStreets) := ⟨rfl, rfl, rfl, by decide +kernel, rfl, by decide +kernel, by decide +kernel⟩
theorem ok_areStreets {f : Addr} {fd : FuncData} (F : FnP K "are_streets" sAreStreets f fd) (GS : Fz P w K mg base "is_street" 3 ["value"] spIsStreet) (T : Tx K mg) : FnOk P w K mg base CX0 4 f fd ["value"] (spAreStreets K) := by
  refine F.ok scAreStreets (fun vs H Q E h => ?_) (fun cdv A outer s H vs Q E hr h => ?_)
  · obtain ⟨_, _, rfl, _⟩ := h
    rfl
  · obtain ⟨l, ts, rfl, hl, ok, nd, h100, q⟩ := h
    have gIs := T.fr "isinstance" (by decide +kernel)
    have gLi := T.fr "list" (by decide +kernel)
    have gL := T.fr "len" (by decide +kernel)
    have gA := T.fr "all" (by decide +kernel)
    have sl := sizeLine_eq
    refine ⟨_, PSs.nox (pss_cons (ps_if (PW.pt (pw_or (pt_not (pt_val (pe_callB call_isi (by rfl) gIs (by decide +kernel) (pa_cons (pv 0) (pa_cons (pe_bltn (v := .ty "list") (by rfl) gLi (by decide +kernel) rfl) pa_nil)))))
        (pw_or1 (pt_not (pt_val (pe_callB (cr_all rfl) (by rfl) gA (by decide +kernel) (pa_cons (pe_lc (own := [("street", 1)]) (g := gName 1) (tt := tYes) rfl scAreStreets.nd (pi_list (pv 0)) (blkOk_by (own := [("street", 1)]) (N := NC) (sc := defScope sAreStreets) (by decide +kernel))
          (fun _ _ _ _ _ => pg_name (i := 1) scAreStreets.nd rfl (Or.inl rfl)) (fun _ _ _ _ _ => pts_nil) (fun _ _ _ _ _ => pe_fz GS hr (by rfl) (pa_cons (pv 1) pa_nil))) pa_nil))))))) (pss_one (ps_ret pe_bl)) pss_nil)
      (pss_one (ps_ret (pe_cmpR op_eq (pe_callB cr_lenX (by rfl) gL PySem.boot_len (pa_cons
          (pe_scX (own := [("street", 1)]) (g := gName 1) (tt := tYes) (te := tOp (rIxT K) (tVar 1) (tC (.int 0))) rfl scAreStreets.nd (pi_list (pv 0)) (blkOk_by (own := [("street", 1)]) (N := NC) (sc := defScope sAreStreets) (by decide +kernel))
            (fun _ _ _ _ _ => pg_name (i := 1) scAreStreets.nd rfl (Or.inl rfl)) (fun _ _ _ _ _ => pts_nil) (fun _ _ _ _ _ => pe_ix ix_tup (pv 1) pe_int (fun _ _ => rfl))) pa_nil)) (pe_callB call_len_seq (by rfl) gL PySem.boot_len (pa_cons (pv 0) pa_nil)) (nomark _))))), ?_⟩
    refine ⟨_, rfl, _, _, _, _, _, rfl, .ty _, .base (.lst hl.1), ktr (by decide +kernel), _, rfl, ifF (by decide) ?_⟩
    refine ⟨_, rfl, l, rfl, ⟨_, SqL.of hl.1⟩, fun D nD => ?_⟩
    refine lc_list (K := K) (a := l) (xs := ts.map fun t => V.ref t.1) (fun j H' => Same H H' ∧ H' D = some (.lst ((List.replicate j true).map V.bl))) ⟨same_upd nD, upd_same⟩ (fun j H' _ h => SqL.of (h.1 _ _ hl.1)) ?_ ?_
    · rintro j x H' hj ⟨s1, hD⟩
      rw [List.getElem?_map] at hj
      cases e : ts[j]? with
      | none =>
        rw [e] at hj
        cases hj
      | some t =>
        rw [e] at hj
        cases hj
        have tm := List.mem_of_getElem? e
        have lt := (List.getElem?_eq_some_iff.mp e).1
        refine ⟨rfl, _, rfl, t.1, t.2, rfl, s1 _ _ (hl.2 t tm), ok t tm, fun H2 s2 => ⟨_, s2 _ _ hD, by rw [List.length_map, List.length_replicate]; omega, fun b o eb => ?_, ?_⟩⟩
        · rw [upd_ne (ne_of_none eb nD)]
          exact s2 _ _ (s1 _ _ eb)
        · rw [upd_same, List.replicate_succ', List.map_append]
          rfl
    · rintro H1 ⟨s1, hD⟩
      refine ⟨D, List.replicate _ true, rfl, SqL.of hD, ?_⟩
      have e : (List.replicate (ts.map fun t => V.ref t.1).length true).all id = true := by simp
      rw [e]
      refine ⟨_, rfl, ifF (by decide) ?_⟩
      have hl1 := sts_keep hl s1
      refine ⟨_, rfl, l, rfl, ⟨_, SqL.of hl1.1⟩, fun S nS => ?_⟩
      refine scX_list (K := K) (a := l) (xs := ts.map fun t => V.ref t.1) (fun j H' => Same H1 H' ∧ H' S = some (SetX w S (((ts.map fun t => t.2.nm).take j).foldl TxSet.addL []))) ⟨same_upd nS, upd_same⟩ (fun j H' _ h => SqL.of (h.1 _ _ hl1.1)) ?_ ?_
      · rintro j x H' hj ⟨s2, hS⟩
        rw [List.getElem?_map] at hj
        cases e : ts[j]? with
        | none =>
          rw [e] at hj
          cases hj
        | some t =>
          rw [e] at hj
          cases hj
          have tm := List.mem_of_getElem? e
          have lt := (List.getElem?_eq_some_iff.mp e).1
          have en : (ts.map fun t => t.2.nm)[j]? = some t.2.nm := by
            rw [List.getElem?_map, e]
            rfl
          have et : (ts.map fun t => t.2.nm).take (j + 1) = (ts.map fun t => t.2.nm).take j ++ [t.2.nm] := by
            rw [List.take_add_one, en]
            rfl
          have ndj : ((ts.map fun t => t.2.nm).take j).Nodup := (List.take_sublist _ _).nodup nd
          have fl := TxSet.fold_fresh (ks := (ts.map fun t => t.2.nm).take j) (L := []) (by rw [List.append_nil]; exact ndj)
          refine ⟨rfl, _, rfl, t.1, _, ((0 : Nat) : Int), _, rfl, rfl, SqT.of (s2 _ _ (hl1.2 t tm)), atI_nat rfl, t.2.nm, _, rfl, hS, ?_, fun b o eb => ?_, ?_⟩
          · rw [fl, List.length_take, List.length_map]
            unfold scanBound
            simp only [List.length_nil]
            omega
          · rw [upd_ne (ne_of_none eb nS)]
            exact s2 _ _ eb
          · rw [upd_same, et, List.foldl_append]
            rfl
      · rintro H2 ⟨s2, hS⟩
        have fl := TxSet.fold_fresh (ks := ts.map fun t => t.2.nm) (L := []) (by rw [List.append_nil]; exact nd)
        have tk : (ts.map fun t => t.2.nm).take (ts.map fun t => V.ref t.1).length = ts.map fun t => t.2.nm := by
          rw [List.take_of_length_le]
          rw [List.length_map, List.length_map]
          exact Nat.le_refl _
        rw [tk] at hS
        have e3 : decide (V.int ((((ts.map fun t => t.2.nm).foldl TxSet.addL []).length : Nat) : Int) = V.int (((ts.map fun t => V.ref t.1).length : Nat) : Int)) = true := by
          rw [fl, List.length_map]
          simp
        refine ⟨S, _, rfl, hS, ?_, _, rfl, l, _, rfl, Or.inl (SqL.of (s2 _ _ hl1.1)), rfl, ?_⟩
        · rw [fl, List.length_map]
          unfold scanBound
          simp only [List.length_nil]
          omega
        · show Q (.bl (decide (V.int _ = V.int _))) H2
          rw [e3]
          exact q H2 (same_trans s1 s2)
theorem scChkStreets : FnScope ["value"] ["value"] (defScope sChkStreets) := ⟨rfl, rfl, rfl, by decide +kernel, rfl, by decide +kernel, by decide +kernel⟩
theorem ok_chkStreets {f : Addr} {fd : FuncData} (F : FnP K "check_streets" sChkStreets f fd) (GS : Fz P w K mg base "are_streets" 4 ["value"] (spAreStreets K)) (T : Tx K mg) : FnOk P w K mg base CX0 5 f fd ["value"] (spChkStreets K) := by
  refine F.ok scChkStreets (fun vs H Q E h => ?_) (fun cdv A outer s H vs Q E hr h => ?_)
  · obtain ⟨_, _, rfl, _⟩ := h
    rfl
  · obtain ⟨l, ts, rfl, hl, ok, nd, h100, q⟩ := h
    refine ⟨_, PSs.nox (pss_one (ps_if (pt_not (pt_val (pe_fz GS hr (by rfl) (pa_cons (pv 0) pa_nil)))) (pss_one ps_never) pss_nil)), ?_⟩
    exact ⟨_, rfl, l, ts, rfl, hl, ok, nd, h100, fun H' s => ⟨_, rfl, ifF (by decide) (q H' s)⟩⟩
end
end K81
end
section
set_option Elab.async false
set_option linter.all false
set_option maxRecDepth 100000
set_option maxHeartbeats 4000000
namespace K81
open PySem PySem.Spec PyProof.Rows L2
instance : DecidableEq S5 := fun a b => decidable_of_iff (a.nm = b.nm ∧ a.st = b.st ∧ a.en = b.en ∧ a.wd = b.wd ∧ a.ln = b.ln)
  ⟨fun h => by
    cases a
    cases b
    obtain ⟨h1, h2, h3, h4, h5⟩ := h
    cases h1
    cases h2
    cases h3
    cases h4
    cases h5
    rfl, fun h => by
    rw [h]
    exact ⟨rfl, rfl, rfl, rfl, rfl⟩⟩
/-! ### ascending lists -/
theorem perm_sorted {α : Type} {r : α → α → Prop} : ∀ {us vs : List α}, (∀ x ∈ us, ∀ y ∈ us, r x y → r y x → x = y) → us.Perm vs → us.Pairwise r → vs.Pairwise r → us = vs
  | [], vs, _, p, _, _ => (List.Perm.nil_eq p)
  | a :: us, [], _, p, _, _ => by
    have := p.length_eq
    simp at this
  | a :: us, b :: vs, h, p, h1, h2 => by
    have hab : a = b := by
      have ma : a ∈ b :: vs := p.mem_iff.mp List.mem_cons_self
      have mb : b ∈ a :: us := p.mem_iff.mpr List.mem_cons_self
      rcases List.mem_cons.mp ma with e | ma
      · exact e
      · rcases List.mem_cons.mp mb with e | mb
        · exact e.symm
        · exact h a List.mem_cons_self b (List.mem_cons_of_mem _ mb) ((List.pairwise_cons.mp h1).1 b mb) ((List.pairwise_cons.mp h2).1 a ma)
    subst hab
    rw [perm_sorted (fun x hx y hy => h x (List.mem_cons_of_mem _ hx) y (List.mem_cons_of_mem _ hy)) (List.Perm.cons_inv p) (List.pairwise_cons.mp h1).2 (List.pairwise_cons.mp h2).2]
/-- a is not behind b -/
abbrev leS (a b : Str) : Prop := SrtX.ltS b a = false
theorem str_ext {a b : Str} (h : a.cps.toList = b.cps.toList) : a = b := by
  cases a with
  | mk x =>
    cases b with
    | mk y =>
      have : x = y := Array.toList_inj.mp h
      rw [this]
theorem leS_antisymm {a b : Str} (h1 : leS a b) (h2 : leS b a) : a = b := by
  have a1 := List.not_lt.mp (of_decide_eq_false h1)
  have a2 := List.not_lt.mp (of_decide_eq_false h2)
  exact str_ext (List.le_antisymm a1 a2)
theorem leS_trans {a b c : Str} (h1 : leS a b) (h2 : leS b c) : leS a c := by
  have a1 := List.not_lt.mp (of_decide_eq_false h1)
  have a2 := List.not_lt.mp (of_decide_eq_false h2)
  exact decide_eq_false (List.not_lt.mpr (List.le_trans a1 a2))
abbrev Asc (ws : List Str) : Prop := ws.Pairwise leS
theorem asc_rising : ∀ {r : List Str} {p : Str}, risingS p r = true → (∀ x ∈ r, leS p x) ∧ Asc r
  | [], _, _ => ⟨fun x h => by simp at h, List.Pairwise.nil⟩
  | x :: r, p, h => by
    have h := Bool.and_eq_true_iff.mp h
    have h1 : leS p x := by
      have e := h.1
      rw [ltCps_eq] at e
      show decide (x.cps.toList < p.cps.toList) = false
      revert e
      cases decide (x.cps.toList < p.cps.toList) <;> simp
    obtain ⟨h2, h3⟩ := asc_rising h.2
    refine ⟨fun y hy => ?_, List.pairwise_cons.mpr ⟨h2, h3⟩⟩
    rcases List.mem_cons.mp hy with e | hy
    · rw [e]
      exact h1
    · exact leS_trans h1 (h2 y hy)
theorem asc_of_sortedS : ∀ {ws : List Str}, sortedS ws = true → Asc ws
  | [], _ => List.Pairwise.nil
  | x :: r, h => List.pairwise_cons.mpr (asc_rising h)
theorem asc_uniq {us vs : List Str} (p : us.Perm vs) (h1 : Asc us) (h2 : Asc vs) : us = vs := perm_sorted (fun _ _ _ _ a b => leS_antisymm a b) p h1 h2
theorem perm_of_mem {α : Type} {us vs : List α} (n1 : us.Nodup) (n2 : vs.Nodup) (h : ∀ x, x ∈ us ↔ x ∈ vs) : us.Perm vs := (List.perm_ext_iff_of_nodup n1 n2).mpr (fun {x} => h x)
theorem asc_ext {us vs : List Str} (n1 : us.Nodup) (n2 : vs.Nodup) (h : ∀ x, x ∈ us ↔ x ∈ vs) (h1 : Asc us) (h2 : Asc vs) : us = vs := asc_uniq (perm_of_mem n1 n2 h) h1 h2
theorem nodup_inj {α β : Type} {g : α → β} : ∀ {l : List α}, (l.map g).Nodup → ∀ x ∈ l, ∀ y ∈ l, g x = g y → x = y
  | [], _, x, hx, _, _, _ => by simp at hx
  | a :: l, h, x, hx, y, hy, e => by
    rw [List.map_cons] at h
    obtain ⟨h1, h2⟩ := List.nodup_cons.mp h
    rcases List.mem_cons.mp hx with ex | hx
    · rcases List.mem_cons.mp hy with ey | hy
      · rw [ex, ey]
      · exact absurd (List.mem_map.mpr ⟨y, hy, by rw [← e, ex]⟩) h1
    · rcases List.mem_cons.mp hy with ey | hy
      · exact absurd (List.mem_map.mpr ⟨x, hx, by rw [e, ey]⟩) h1
      · exact nodup_inj h2 x hx y hy e
abbrev nms (ss : List S5) : List Str := ss.map S5.nm
abbrev Asc5 (ss : List S5) : Prop := ss.Pairwise fun a b => leS a.nm b.nm
theorem asc5_uniq {us vs : List S5} (n : (nms us).Nodup) (p : us.Perm vs) (h1 : Asc5 us) (h2 : Asc5 vs) : us = vs := perm_sorted (fun x hx y hy a b => nodup_inj n x hx y hy (leS_antisymm a b)) p h1 h2
/-! ### streets as data -/
theorem eqv_s5 (a b : S5) : PyData.eqv a.data b.data = decide (a = b) := by
  obtain ⟨n, s, e, w, l⟩ := a
  obtain ⟨n', s', e', w', l'⟩ := b
  have k : PyData.eqv (S5.data ⟨n, s, e, w, l⟩) (S5.data ⟨n', s', e', w', l'⟩) = ((n == n') && ((s == s') && ((e == e') && ((w == w') && ((l == l') && true))))) := by
    simp only [S5.data, PyData.eqv, PyData.eqvAll]
  rw [k]
  by_cases h : (⟨n, s, e, w, l⟩ : S5) = ⟨n', s', e', w', l'⟩
  · cases h
    simp
  · rw [decide_eq_false h]
    apply Bool.eq_false_iff.mpr
    intro z
    simp only [Bool.and_eq_true, beq_iff_eq, and_true] at z
    obtain ⟨rfl, rfl, rfl, rfl, rfl⟩ := z
    exact h rfl
theorem eqvAll_s5 : ∀ ss ss' : List S5, PyData.eqvAll (ss.map S5.data) (ss'.map S5.data) = decide (ss = ss')
  | [], [] => by simp [PyData.eqvAll]
  | [], _ :: _ => by simp [PyData.eqvAll]
  | _ :: _, [] => by simp [PyData.eqvAll]
  | a :: ss, b :: ss' => by
    rw [List.map_cons, List.map_cons, PyData.eqvAll, eqv_s5, eqvAll_s5 ss ss']
    by_cases h1 : a = b
    · by_cases h2 : ss = ss'
      · simp [h1, h2]
      · simp [h1, h2]
    · simp [h1]
theorem eqv_sts (ss ss' : List S5) : PyData.eqv (.list (ss.map S5.data)) (.list (ss'.map S5.data)) = decide (ss = ss') := by
  rw [PyData.eqv, eqvAll_s5]
theorem eqvAll_strs : ∀ us vs : List Str, PyData.eqvAll (us.map PyData.str) (vs.map PyData.str) = decide (us = vs)
  | [], [] => by simp [PyData.eqvAll]
  | [], _ :: _ => by simp [PyData.eqvAll]
  | _ :: _, [] => by simp [PyData.eqvAll]
  | a :: ss, b :: ss' => by
    rw [List.map_cons, List.map_cons, PyData.eqvAll, eqvAll_strs ss ss', PyData.eqv]
    by_cases h1 : a = b
    · by_cases h2 : ss = ss'
      · simp [h1, h2]
      · simp [h1, h2]
    · simp [h1]
theorem eqv_strs (us vs : List Str) : PyData.eqv (.list (us.map PyData.str)) (.list (vs.map PyData.str)) = decide (us = vs) := by
  rw [PyData.eqv, eqvAll_strs]
end K81
end
section
set_option Elab.async false
set_option linter.all false
set_option maxRecDepth 100000
set_option maxHeartbeats 8000000
namespace K81
open PySem PySem.Spec PyProof.Rows L2
/-! ### values that are data, told by the heap -/
mutual
inductive Dt (H : Hp) : V → PyData → Prop
  | bl (b : Bool) : Dt H (.bl b) (.bool b)
  | int (i : Int) : Dt H (.int i) (.int i)
  | str (x : Str) : Dt H (.str x) (.str x)
  | lst {a : Addr} {xs : List V} {ds : List PyData} (h : H a = some (.lst xs)) (hs : DtAll H xs ds) : Dt H (.ref a) (.list ds)
  | tup {a : Addr} {xs : List V} {ds : List PyData} (h : H a = some (.tup xs)) (hs : DtAll H xs ds) : Dt H (.ref a) (.tuple ds)
inductive DtAll (H : Hp) : List V → List PyData → Prop
  | nil : DtAll H [] []
  | cons {v : V} {vs : List V} {d : PyData} {ds : List PyData} (h : Dt H v d) (hs : DtAll H vs ds) : DtAll H (v :: vs) (d :: ds)
end
mutual
theorem Dt.keep {H H' : Hp} (s : Same H H') : ∀ (d : PyData) (v : V), Dt H v d → Dt H' v d
  | .none, _, h => by cases h
  | .bool b, _, h => by cases h; exact .bl b
  | .int i, _, h => by cases h; exact .int i
  | .str x, _, h => by cases h; exact .str x
  | .list ds, _, h => by
    cases h with
    | lst h hs => exact .lst (s _ _ h) (DtAll.keep s ds _ hs)
  | .tuple ds, _, h => by
    cases h with
    | tup h hs => exact .tup (s _ _ h) (DtAll.keep s ds _ hs)
  | .dict ds, _, h => by cases h
theorem DtAll.keep {H H' : Hp} (s : Same H H') : ∀ (ds : List PyData) (vs : List V), DtAll H vs ds → DtAll H' vs ds
  | [], _, h => by cases h; exact .nil
  | d :: ds, _, h => by
    cases h with
    | cons h hs => exact .cons (Dt.keep s d _ h) (DtAll.keep s ds _ hs)
end
theorem DtAll.len {H : Hp} : ∀ {vs : List V} {ds : List PyData}, DtAll H vs ds → vs.length = ds.length
  | [], _, h => by cases h; rfl
  | _ :: _, _, h => by
    cases h with
    | cons _ hs => rw [List.length_cons, List.length_cons, hs.len]
theorem DtAll.get {H : Hp} : ∀ {vs : List V} {ds : List PyData} {i : Nat} {v : V}, DtAll H vs ds → vs[i]? = some v → ∃ d, ds[i]? = some d ∧ Dt H v d
  | [], _, i, v, _, e => by simp at e
  | x :: vs, _, 0, v, h, e => by
    cases h with
    | cons h hs =>
      cases e
      exact ⟨_, rfl, h⟩
  | x :: vs, _, i + 1, v, h, e => by
    cases h with
    | cons h hs =>
      obtain ⟨d, e2, h2⟩ := hs.get (i := i) (v := v) (by simpa using e)
      exact ⟨d, by simpa using e2, h2⟩
theorem depthAll_get : ∀ {ds : List PyData} {i : Nat} {d : PyData}, ds[i]? = some d → PyData.depth d ≤ PyData.depthAll ds
  | [], i, d, e => by simp at e
  | x :: ds, 0, d, e => by
    cases e
    exact Nat.le_max_left _ _
  | x :: ds, i + 1, d, e => Nat.le_trans (depthAll_get (i := i) (by simpa using e)) (Nat.le_max_right _ _)
mutual
/-- no list of it is longer -/
def wid : PyData → Nat
  | .list ds => max ds.length (widAll ds)
  | .tuple ds => max ds.length (widAll ds)
  | _ => 0
def widAll : List PyData → Nat
  | [] => 0
  | d :: ds => max (wid d) (widAll ds)
end
theorem widAll_get : ∀ {ds : List PyData} {i : Nat} {d : PyData}, ds[i]? = some d → wid d ≤ widAll ds
  | [], i, d, e => by simp at e
  | x :: ds, 0, d, e => by
    cases e
    rw [widAll]
    exact Nat.le_max_left _ _
  | x :: ds, i + 1, d, e => by
    rw [widAll]
    exact Nat.le_trans (widAll_get (i := i) (by simpa using e)) (Nat.le_max_right _ _)
/-- the tuples of a zip -/
theorem walk_zipT {K : PySem.W.Frag} {a b : Addr} {xs ys : List V} {n : Nat} (hn : n = min xs.length ys.length) : Walk (RZ.ItzT K a b) n (fun H => SqT K H a xs ∧ SqT K H b ys) (YPair (fun i => xs[i]?) (fun i => ys[i]?)) := by
  subst hn
  refine ⟨fun i _ hi q => ?_, fun _ q => ⟨xs, ys, q.1, q.2, by omega⟩, fun i H v H' _ q y => ?_⟩
  · have h1 : i < xs.length := by omega
    have h2 : i < ys.length := by omega
    exact ⟨xs, ys, xs[i], ys[i], q.1, q.2, by simp [h1], by simp [h2]⟩
  · obtain ⟨T, x, z, h1, h2, h3, h4, h5⟩ := y
    exact ⟨T, x, z, h1, h2, h3, h4 xs q.1, h5 ys q.2⟩
/-- both are the same data of at most n levels -/
def spExact (n : Nat) : Sp := fun vs H Q _ => ∃ (x y : V) (d : PyData), vs = [x, y] ∧ Dt H x d ∧ Dt H y d ∧ PyData.depth d ≤ n ∧ wid d ≤ 1000 ∧ ∀ H', Same H H' → Q (.bl true) H'
abbrev NX : List Str := ["_law_one", "_law_other", "_law_alike", "_law_a", "_law_b"]
theorem scExact : FnScope NX ["_law_one", "_law_other"] (defScope sExact) := ⟨rfl, rfl, rfl, by decide +kernel, rfl, by decide +kernel, by decide +kernel⟩
inductive TyD : V → PyData → String → Prop
  | bl (b : Bool) : TyD (.bl b) (.bool b) "bool"
  | int (i : Int) : TyD (.int i) (.int i) "int"
  | str (x : Str) : TyD (.str x) (.str x) "str"
section
variable {P : Program} {w : World} {K : PySem.W.Frag} {mg : Str → Option Value} {base : Heap}
theorem same_new {H H' : Hp} {a : Addr} {o : HO} (s : Same H H') (n : H' a = none) : Same H (upd H' a o) := same_trans s (same_upd n)
theorem ok_exact {f : Addr} {fd : FuncData} (F : FnP K "_law_exact" sExact f fd) (hm : mg "_law_exact" = some (.ref f)) (hk : PySem.W.keepIn K (.ref f) = true) (hb : Binds K fd ["_law_one", "_law_other"] []) (T : Tx K mg) :
    ∀ n, FnOk P w K mg base CX0 (n + 1) f fd ["_law_one", "_law_other"] (spExact n) := by
  intro n
  induction n with
  | zero =>
    refine F.ok scExact (fun vs H Q E h => ?_) (fun cdv A outer s H vs Q E hr h => ?_)
    · obtain ⟨_, _, _, rfl, _⟩ := h
      rfl
    · obtain ⟨x, y, d, rfl, hx, hy, hd, hw, q⟩ := h
      have gIs := T.fr "isinstance" (by decide +kernel)
      have gLi := T.fr "list" (by decide +kernel)
      have gTu := T.fr "tuple" (by decide +kernel)
      have gDi := T.fr "dict" (by decide +kernel)
      have gBo := T.fr "bool" (by decide +kernel)
      refine ⟨_, PSs.nox (pss_cons (ps_if (pt_val (pe_callB call_isiT (by rfl) gIs (by decide +kernel) (pa_cons (pv 0) (pa_cons (pe_tup (pa_cons (pe_bltn (v := .ty "list") (by rfl) gLi (by decide +kernel) rfl) (pa_cons (pe_bltn (v := .ty "tuple") (by rfl) gTu (by decide +kernel) rfl) pa_nil))) pa_nil)))) (pss_cons ps_never (pss_one ps_never)) pss_nil)
        (pss_cons (ps_if (pt_val (pe_callB call_isi (by rfl) gIs (by decide +kernel) (pa_cons (pv 0) (pa_cons (pe_bltn (v := .ty "dict") (by rfl) gDi (by decide +kernel) rfl) pa_nil)))) (pss_cons ps_never (pss_one ps_never)) pss_nil)
        (pss_one (ps_ret (pe_and (pe_cmpR op_eq (pe_callB call_isi (by rfl) gIs (by decide +kernel) (pa_cons (pv 0) (pa_cons (pe_bltn (v := .ty "bool") (by rfl) gBo (by decide +kernel) rfl) pa_nil))) (pe_callB call_isi (by rfl) gIs (by decide +kernel) (pa_cons (pv 1) (pa_cons (pe_bltn (v := .ty "bool") (by rfl) gBo (by decide +kernel) rfl) pa_nil))) (nomark _)) (pe_one (pe_cmpR op_eq (pv 0) (pv 1) (nomark _)))))))), ?_⟩
      have kd : ∃ (t : String) (b : Bool), (∀ H, TyX K H x (.type t)) ∧ x = y ∧ scal x x = true ∧ kitB t "list" = some false ∧ kitB t "tuple" = some false ∧ kitB t "dict" = some false ∧ kitB t "bool" = some b := by
        cases hx with
        | bl b =>
          cases hy
          exact ⟨"bool", true, fun H => .base (.bl b), rfl, rfl, by decide +kernel, by decide +kernel, by decide +kernel, by decide +kernel⟩
        | int b =>
          cases hy
          exact ⟨"int", false, fun H => .base (.int b), rfl, rfl, by decide +kernel, by decide +kernel, by decide +kernel, by decide +kernel⟩
        | str b =>
          cases hy
          exact ⟨"str", false, fun H => .base (.str b), rfl, rfl, by decide +kernel, by decide +kernel, by decide +kernel, by decide +kernel⟩
        | lst h hs =>
          simp [PyData.depth] at hd
        | tup h hs =>
          simp [PyData.depth] at hd
      obtain ⟨t, b, ty, e, e2, k1, k2, k3, k4⟩ := kd
      subst e
      refine ⟨_, rfl, (by show 2 ≤ sizeLine; decide +kernel), fun tp ntp => ?_⟩
      refine ⟨_, _, _, _, _, _, rfl, upd_same, .cons (.ty _) (.cons (.ty _) .nil), ty _, kitAny_cons (kit_ty k1) (fun _ => kitAny_cons (kit_ty k2) (fun _ => kitAny_nil) (fun z => nomatch z)) (fun z => nomatch z), _, rfl, ifF (by decide) ?_⟩
      refine ⟨_, rfl, _, _, _, _, _, rfl, .ty _, ty _, kit_ty k3, _, rfl, ifF (by decide) ?_⟩
      refine ⟨_, rfl, _, _, _, _, _, rfl, .ty _, ty _, kit_ty k4, _, rfl, _, _, _, _, _, rfl, .ty _, ty _, kit_ty k4, rfl, _, rfl, ifT (by simp) ?_⟩
      refine ⟨_, rfl, _, rfl, e2, ?_⟩
      rw [decide_eq_true rfl]
      exact q _ (same_upd ntp)
  | succ n ih =>
    refine F.ok scExact (fun vs H Q E h => ?_) (fun cdv A outer s H vs Q E hr h => ?_)
    · obtain ⟨_, _, _, rfl, _⟩ := h
      rfl
    · obtain ⟨x, y, d, rfl, hx, hy, hd, hw, q⟩ := h
      have gIs := T.fr "isinstance" (by decide +kernel)
      have gLi := T.fr "list" (by decide +kernel)
      have gTu := T.fr "tuple" (by decide +kernel)
      have gDi := T.fr "dict" (by decide +kernel)
      have gL := T.fr "len" (by decide +kernel)
      have gA := T.fr "all" (by decide +kernel)
      have gZ := T.fr "zip" (by decide +kernel)
      have GR : Fz P w K mg base "_law_exact" (n + 1) ["_law_one", "_law_other"] (spExact n) := ⟨f, fd, ih, hm, hk, hb⟩
      have gBo := T.fr "bool" (by decide +kernel)
      refine ⟨_, PSs.nox (pss_cons (ps_if (pt_val (pe_callB call_isiT (by rfl) gIs (by decide +kernel) (pa_cons (pv 0) (pa_cons (pe_tup (pa_cons (pe_bltn (v := .ty "list") (by rfl) gLi (by decide +kernel) rfl) (pa_cons (pe_bltn (v := .ty "tuple") (by rfl) gTu (by decide +kernel) rfl) pa_nil))) pa_nil)))) (pss_cons (ps_set (i := 2) scExact.nd rfl (Or.inl rfl) (pe_and (pe_cmpR op_eq (pe_callB call_isi (by rfl) gIs (by decide +kernel) (pa_cons (pv 1) (pa_cons (pe_bltn (v := .ty "list") (by rfl) gLi (by decide +kernel) rfl) pa_nil))) (pe_callB call_isi (by rfl) gIs (by decide +kernel) (pa_cons (pv 0) (pa_cons (pe_bltn (v := .ty "list") (by rfl) gLi (by decide +kernel) rfl) pa_nil))) (nomark _)) (pe_one (pe_cmpR op_eq (pe_callB call_isi (by rfl) gIs (by decide +kernel) (pa_cons (pv 1) (pa_cons (pe_bltn (v := .ty "tuple") (by rfl) gTu (by decide +kernel) rfl) pa_nil))) (pe_callB call_isi (by rfl) gIs (by decide +kernel) (pa_cons (pv 0) (pa_cons (pe_bltn (v := .ty "tuple") (by rfl) gTu (by decide +kernel) rfl) pa_nil))) (nomark _)))))
          (pss_one (ps_ret (pe_and (pv 2) (pe_and (pe_cmpR op_eq (pe_callB call_len_seq (by rfl) gL PySem.boot_len (pa_cons (pv 0) pa_nil)) (pe_callB call_len_seq (by rfl) gL PySem.boot_len (pa_cons (pv 1) pa_nil)) (nomark _)) (pe_one (pe_callB (cr_all rfl) (by rfl) gA (by decide +kernel)
            (pa_cons (pe_lc (own := [("_law_a", 3), ("_law_b", 4)]) (g := gTup K 2 (gCons (gName 3) (gCons (gName 4) gNil))) (tt := tYes) rfl scExact.nd (RZ.pi_zipA (by rfl) gZ (pa_cons (pv 0) (pa_cons (pv 1) pa_nil))) (blkOk_by (own := [("_law_a", 3), ("_law_b", 4)]) (N := NX) (sc := defScope sExact) (by decide +kernel))
              (fun _ _ _ _ _ => pg_tup rfl (pgs_cons (pg_name (i := 3) scExact.nd rfl (Or.inl rfl)) (pgs_cons (pg_name (i := 4) scExact.nd rfl (Or.inl rfl)) pgs_nil))) (fun _ _ _ _ _ => pts_nil) (fun _ _ _ _ _ => pe_fz GR hr (by rfl) (pa_cons (pv 3) (pa_cons (pv 4) pa_nil)))) pa_nil)))))))) pss_nil)
        (pss_cons (ps_if (pt_val (pe_callB call_isi (by rfl) gIs (by decide +kernel) (pa_cons (pv 0) (pa_cons (pe_bltn (v := .ty "dict") (by rfl) gDi (by decide +kernel) rfl) pa_nil)))) (pss_cons ps_never (pss_one ps_never)) pss_nil)
        (pss_one (ps_ret (pe_and (pe_cmpR op_eq (pe_callB call_isi (by rfl) gIs (by decide +kernel) (pa_cons (pv 0) (pa_cons (pe_bltn (v := .ty "bool") (by rfl) gBo (by decide +kernel) rfl) pa_nil))) (pe_callB call_isi (by rfl) gIs (by decide +kernel) (pa_cons (pv 1) (pa_cons (pe_bltn (v := .ty "bool") (by rfl) gBo (by decide +kernel) rfl) pa_nil))) (nomark _)) (pe_one (pe_cmpR op_eq (pv 0) (pv 1) (nomark _)))))))), ?_⟩
      have kd : (∃ (t : String) (b : Bool), (∀ H, TyX K H x (.type t)) ∧ x = y ∧ scal x x = true ∧ kitB t "list" = some false ∧ kitB t "tuple" = some false ∧ kitB t "dict" = some false ∧ kitB t "bool" = some b) ∨ (∃ a b xs ys ds, x = .ref a ∧ y = .ref b ∧ H a = some (.lst xs) ∧ H b = some (.lst ys) ∧ DtAll H xs ds ∧ DtAll H ys ds ∧ PyData.depthAll ds ≤ n ∧ ds.length ≤ 1000 ∧ widAll ds ≤ 1000) ∨ (∃ a b xs ys ds, x = .ref a ∧ y = .ref b ∧ H a = some (.tup xs) ∧ H b = some (.tup ys) ∧ DtAll H xs ds ∧ DtAll H ys ds ∧ PyData.depthAll ds ≤ n ∧ ds.length ≤ 1000 ∧ widAll ds ≤ 1000) := by
        cases hx with
        | bl b =>
          cases hy
          exact .inl ⟨"bool", true, fun H => .base (.bl b), rfl, rfl, by decide +kernel, by decide +kernel, by decide +kernel, by decide +kernel⟩
        | int b =>
          cases hy
          exact .inl ⟨"int", false, fun H => .base (.int b), rfl, rfl, by decide +kernel, by decide +kernel, by decide +kernel, by decide +kernel⟩
        | str b =>
          cases hy
          exact .inl ⟨"str", false, fun H => .base (.str b), rfl, rfl, by decide +kernel, by decide +kernel, by decide +kernel, by decide +kernel⟩
        | lst h hs =>
          cases hy with
          | lst h2 hs2 =>
            rw [PyData.depth] at hd
            rw [wid] at hw
            exact .inr (.inl ⟨_, _, _, _, _, rfl, rfl, h, h2, hs, hs2, by omega, by omega, by omega⟩)
        | tup h hs =>
          cases hy with
          | tup h2 hs2 =>
            rw [PyData.depth] at hd
            rw [wid] at hw
            exact .inr (.inr ⟨_, _, _, _, _, rfl, rfl, h, h2, hs, hs2, by omega, by omega, by omega⟩)
      rcases kd with kd | ⟨a, b, xs, ys, ds, rfl, rfl, ha, hb', hs, hs2, hd, hl, hw⟩ | ⟨a, b, xs, ys, ds, rfl, rfl, ha, hb', hs, hs2, hd, hl, hw⟩
      · obtain ⟨t, b, ty, e, e2, k1, k2, k3, k4⟩ := kd
        subst e
        refine ⟨_, rfl, (by show 2 ≤ sizeLine; decide +kernel), fun tp ntp => ?_⟩
        refine ⟨_, _, _, _, _, _, rfl, upd_same, .cons (.ty _) (.cons (.ty _) .nil), ty _, kitAny_cons (kit_ty k1) (fun _ => kitAny_cons (kit_ty k2) (fun _ => kitAny_nil) (fun z => nomatch z)) (fun z => nomatch z), _, rfl, ifF (by decide) ?_⟩
        refine ⟨_, rfl, _, _, _, _, _, rfl, .ty _, ty _, kit_ty k3, _, rfl, ifF (by decide) ?_⟩
        refine ⟨_, rfl, _, _, _, _, _, rfl, .ty _, ty _, kit_ty k4, _, rfl, _, _, _, _, _, rfl, .ty _, ty _, kit_ty k4, rfl, _, rfl, ifT (by simp) ?_⟩
        refine ⟨_, rfl, _, rfl, e2, ?_⟩
        rw [decide_eq_true rfl]
        exact q _ (same_upd ntp)
      · have sl := sizeLine_eq
        have lx := hs.len
        have ly := hs2.len
        refine ⟨_, rfl, (by show 2 ≤ sizeLine; decide +kernel), fun tp ntp => ?_⟩
        have s0 := same_upd (o := HO.tup [V.ty "list", V.ty "tuple"]) ntp
        refine ⟨_, _, _, _, _, _, rfl, upd_same, .cons (.ty _) (.cons (.ty _) .nil), .base (.lst (s0 _ _ ha)), kitAny_cons (kit_ty (r := true) (by decide +kernel)) (fun z => nomatch z) (fun _ => rfl), _, rfl, ifT rfl ?_⟩
        generalize upd H tp (.tup [V.ty "list", V.ty "tuple"]) = H1 at s0 ⊢
        have ha1 := s0 _ _ ha
        have hb1 := s0 _ _ hb'
        refine ⟨_, rfl, _, _, _, _, _, rfl, .ty _, .base (.lst hb1), kit_ty (r := true) (by decide +kernel), _, rfl, _, _, _, _, _, rfl, .ty _, .base (.lst ha1), kit_ty (r := true) (by decide +kernel), rfl, _, rfl, ifT (by simp) ?_⟩
        refine ⟨_, rfl, _, _, _, _, _, rfl, .ty _, .base (.lst hb1), kit_ty (r := false) (by decide +kernel), _, rfl, _, _, _, _, _, rfl, .ty _, .base (.lst ha1), kit_ty (r := false) (by decide +kernel), rfl, ?_⟩
        refine ⟨_, rfl, _, rfl, ifT (by simp) ?_⟩
        refine ⟨_, rfl, a, xs, rfl, Or.inl (SqL.of ha1), _, rfl, b, ys, rfl, Or.inl (SqL.of hb1), rfl, _, rfl, ifT ?_ ?_⟩
        · rw [lx, ly]
          simp
        refine ⟨_, rfl, _, rfl, a, b, xs, ys, rfl, Or.inl ⟨SqL.of ha1, SqL.of hb1, fun D nD => ?_⟩⟩
        refine lc_it (walk_zip (K := K) (a := a) (b := b) (xs := xs) (ys := ys) (n := ds.length) (by omega)) (fun j H' => Same H1 H' ∧ H' D = some (.lst ((List.replicate j true).map V.bl))) ⟨same_upd nD, upd_same⟩ (fun j H' _ h => ⟨SqL.of (h.1 _ _ ha1), SqL.of (h.1 _ _ hb1)⟩) ?_ ?_
        · rintro j v H2 H3 hj ⟨s1, hD⟩ ⟨Tp, u, z, rfl, nT, rfl, hu, hz⟩
          obtain ⟨d, hd1, hd2⟩ := hs.get hu
          obtain ⟨d', hd3, hd4⟩ := hs2.get hz
          rw [hd1] at hd3
          cases hd3
          have s3 := same_upd (o := HO.tup [u, z]) nT
          have hT : upd H2 Tp (.tup [u, z]) Tp = some (.tup [u, z]) := upd_same
          generalize upd H2 Tp (.tup [u, z]) = H3 at s3 hT ⊢
          have s13 := same_trans s0 (same_trans s1 s3)
          refine ⟨Tp, _, rfl, SqT.of hT, rfl, _, _, rfl, _, _, rfl, rfl, rfl, _, rfl, _, rfl, u, z, d, rfl, hd2.keep s13, hd4.keep s13, Nat.le_trans (depthAll_get hd1) hd, Nat.le_trans (widAll_get hd1) hw, fun H4 s4 => ?_⟩
          have hD4 := s4 _ _ (s3 _ _ hD)
          refine ⟨_, hD4, by rw [List.length_map, List.length_replicate]; omega, fun b o eb => ?_, ?_⟩
          · rw [upd_ne (ne_of_none eb nD)]
            exact s4 _ _ (s3 _ _ (s1 _ _ eb))
          · rw [upd_same, List.replicate_succ', List.map_append]
            rfl
        · rintro H2 ⟨s1, hD⟩
          refine ⟨D, List.replicate _ true, rfl, SqL.of hD, ?_⟩
          have e : (List.replicate ds.length true).all id = true := by simp
          rw [e]
          exact q H2 (same_trans s0 s1)
      · have sl := sizeLine_eq
        have lx := hs.len
        have ly := hs2.len
        refine ⟨_, rfl, (by show 2 ≤ sizeLine; decide +kernel), fun tp ntp => ?_⟩
        have s0 := same_upd (o := HO.tup [V.ty "list", V.ty "tuple"]) ntp
        refine ⟨_, _, _, _, _, _, rfl, upd_same, .cons (.ty _) (.cons (.ty _) .nil), .base (.tup (s0 _ _ ha)), kitAny_cons (kit_ty (r := false) (by decide +kernel)) (fun _ => kitAny_cons (kit_ty (r := true) (by decide +kernel)) (fun z => nomatch z) (fun _ => rfl)) (fun z => nomatch z), _, rfl, ifT rfl ?_⟩
        generalize upd H tp (.tup [V.ty "list", V.ty "tuple"]) = H1 at s0 ⊢
        have ha1 := s0 _ _ ha
        have hb1 := s0 _ _ hb'
        refine ⟨_, rfl, _, _, _, _, _, rfl, .ty _, .base (.tup hb1), kit_ty (r := false) (by decide +kernel), _, rfl, _, _, _, _, _, rfl, .ty _, .base (.tup ha1), kit_ty (r := false) (by decide +kernel), rfl, _, rfl, ifT (by simp) ?_⟩
        refine ⟨_, rfl, _, _, _, _, _, rfl, .ty _, .base (.tup hb1), kit_ty (r := true) (by decide +kernel), _, rfl, _, _, _, _, _, rfl, .ty _, .base (.tup ha1), kit_ty (r := true) (by decide +kernel), rfl, ?_⟩
        refine ⟨_, rfl, _, rfl, ifT (by simp) ?_⟩
        refine ⟨_, rfl, a, xs, rfl, Or.inr (SqT.of ha1), _, rfl, b, ys, rfl, Or.inr (SqT.of hb1), rfl, _, rfl, ifT ?_ ?_⟩
        · rw [lx, ly]
          simp
        refine ⟨_, rfl, _, rfl, a, b, xs, ys, rfl, Or.inr ⟨SqT.of ha1, SqT.of hb1, fun D nD => ?_⟩⟩
        refine lc_it (walk_zipT (K := K) (a := a) (b := b) (xs := xs) (ys := ys) (n := ds.length) (by omega)) (fun j H' => Same H1 H' ∧ H' D = some (.lst ((List.replicate j true).map V.bl))) ⟨same_upd nD, upd_same⟩ (fun j H' _ h => ⟨SqT.of (h.1 _ _ ha1), SqT.of (h.1 _ _ hb1)⟩) ?_ ?_
        · rintro j v H2 H3 hj ⟨s1, hD⟩ ⟨Tp, u, z, rfl, nT, rfl, hu, hz⟩
          obtain ⟨d, hd1, hd2⟩ := hs.get hu
          obtain ⟨d', hd3, hd4⟩ := hs2.get hz
          rw [hd1] at hd3
          cases hd3
          have s3 := same_upd (o := HO.tup [u, z]) nT
          have hT : upd H2 Tp (.tup [u, z]) Tp = some (.tup [u, z]) := upd_same
          generalize upd H2 Tp (.tup [u, z]) = H3 at s3 hT ⊢
          have s13 := same_trans s0 (same_trans s1 s3)
          refine ⟨Tp, _, rfl, SqT.of hT, rfl, _, _, rfl, _, _, rfl, rfl, rfl, _, rfl, _, rfl, u, z, d, rfl, hd2.keep s13, hd4.keep s13, Nat.le_trans (depthAll_get hd1) hd, Nat.le_trans (widAll_get hd1) hw, fun H4 s4 => ?_⟩
          have hD4 := s4 _ _ (s3 _ _ hD)
          refine ⟨_, hD4, by rw [List.length_map, List.length_replicate]; omega, fun b o eb => ?_, ?_⟩
          · rw [upd_ne (ne_of_none eb nD)]
            exact s4 _ _ (s3 _ _ (s1 _ _ eb))
          · rw [upd_same, List.replicate_succ', List.map_append]
            rfl
        · rintro H2 ⟨s1, hD⟩
          refine ⟨D, List.replicate _ true, rfl, SqL.of hD, ?_⟩
          have e : (List.replicate ds.length true).all id = true := by simp
          rw [e]
          exact q H2 (same_trans s0 s1)
end
end K81
end
section
set_option Elab.async false
set_option linter.all false
set_option maxRecDepth 100000
set_option maxHeartbeats 4000000
/-! == and != where one side is an instance of a class with an own == (and no own !=), the other side anything of the common kinds. -/
namespace OwnQ
open PySem PySem.Spec PyProof.Rows PySem.W
/-- what is known of the class -/
structure Facts (K : Frag) (C fE : Addr) : Prop where
  eq : findIn K (.ref C) "__eq__" = some (some (.ref fE))
  fn : isFn K (.ref fE) = true
  ne : findIn K (.ref C) "__ne__" = some (some (.builtin "object.__ne__"))
  ob : subIn K (.ref C) (.type "object") = some true
  sN : subIn K (.ref C) (.type "NoneType") = some false
  sI : subIn K (.ref C) (.type "int") = some false
  sB : subIn K (.ref C) (.type "bool") = some false
  sS : subIn K (.ref C) (.type "str") = some false
  sL : subIn K (.ref C) (.type "list") = some false
  sT : subIn K (.ref C) (.type "tuple") = some false
  sD : subIn K (.ref C) (.type "dict") = some false
section
variable {prog : Program} {w : World} {A : Around} {E : Value → Shared → Prop} {s : Shared} {K : Frag} {x y C f : Addr} {ox oy : Obj} {od : Option Obj} {name : Str} {b tb : Value} {id : String}
theorem ifBound_B {M : Model} {args : List Value} {Q : Option Value → Shared → Prop} (X : K.In s.heap) (I : InstAt s.heap x ox C od) (hs : findIn K (.ref C) name = some (some (.builtin id))) (hb : ∀ self, bindSpecial (.builtin id) self = pure (.builtin id, [self]))
    (h : wpAny M A (call (.builtin id) (.ref x :: args)) (fun v => Q (some v)) E s) : wpAny M A (callSpecialIfBound? (.ref x) name args) Q E s := by
  simp only [callSpecialIfBound?, bindSpecialIfBound?]
  refine wpAny_holding (wpAny_bind (wpAny_bind (wpAny_bind (I.type.here ((looks_findIn X hs).here ?_)))))
  simp only [hb]
  refine wpAny_bind (wpAny_askSetting (wpAny_ite ?_))
  have fin : wpAny M A (call (.builtin id) ([.ref x] ++ args) >>= fun v => pure (some v)) Q E s := wpAny_bind (wpAny_mono h (fun v s' h' => wpAny_pure h') fun _ _ h' => h')
  split
  · exact wpAny_bind (wpAny_pure (wpAny_pure fin))
  · exact wpAny_tryCatch (wpAny_bind (wpAny_pure (wpAny_pure fin)))
theorem check_inst {M : Model} {owner n : String} {rest : List Value} {Q : Unit → Shared → Prop} (X : K.In s.heap) (I : InstAt s.heap x ox C od) (hk : builtinKind id = some .slot) (hs : splitId id = some (owner, n))
    (ha : argsOk id ⟨.ref x :: rest, []⟩) (hob : subIn K (.ref C) (.type owner) = some true) (hq : Q () s) : wpAny M A (checkBuiltinCall id ⟨.ref x :: rest, []⟩) Q E s := by
  simp only [checkBuiltinCall, hk, hs]
  refine wpAny_bind ?_
  unfold isInstance
  refine wpAny_bind (I.type.here ((looks_subIn X hob).here ?_))
  simp only [Bool.not_true, Bool.false_eq_true, if_false]
  cases hsig : Manifest.signature? id with
  | none => exact wpAny_pure hq
  | some sig =>
    simp only [argsOk, hsig] at ha
    have h2 : Bind.checkArgs id sig ⟨.ref x :: rest, []⟩ = pure () := ha
    show wpAny M A (Bind.checkArgs id sig ⟨.ref x :: rest, []⟩) Q E _
    rw [h2]; exact wpAny_pure hq
theorem ne_entry (X : K.In s.heap) (I : InstAt s.heap x ox C od) (Fa : Facts K C f) (hu : A.units < cLine) {Q : Fin → Shared → Prop}
    (hcall : wpAny (model prog w) A (call (.ref f) [.ref x, b]) (fun v s' => ∃ k, v = .bool k ∧ Q (.done (.ret (.bool (!k)))) s') E s) :
    wpAny (model prog w) A (Builtin.«object.__ne__» ⟨[.ref x, b], []⟩) Q E s := by
  unfold Builtin.«object.__ne__»
  repeat (first
    | with_reducible refine wpAny_cRoomFor hu ?_
    | (refine wpAny_bind (m := callSpecialIfBound? (.ref x) (Str.ofString "__eq__") [b])
        (ifBound_K X I Fa.eq Fa.fn (wpAny_mono hcall (fun r s' hr => by
          obtain ⟨k, rfl, hq⟩ := hr
          repeat (first | exact hq | exact wpAny_pure hq | exact wpAny_truthy_bool hq | (refine wpAny_bind (m := truthy (.bool _)) (wpAny_truthy_bool ?_)) | wp_step)) fun _ _ e => e)))
    | wp_step)
/-- how the instance's own way of comparing ends -/
theorem try_ne (X : K.In s.heap) (I : InstAt s.heap x ox C od) (Fa : Facts K C f) (hu : A.units + 1 < cLine) {Q : Option Value → Shared → Prop}
    (hcall : wpAny (model prog w) A.in1 (call (.ref f) [.ref x, b]) (fun v s' => ∃ k, v = .bool k ∧ Q (some (.bool (!k))) s') E s) : wpAny (model prog w) A (tryCompare (.ref x) "__ne__" b) Q E s := by
  simp only [tryCompare]
  refine wpAny_bind (ifBound_B X I Fa.ne F.cmp_object.ne.bind (wpAny_call (codeAny_call_builtin F.cmp_object.ne.plain F.cmpEntry_ne
    (check_inst X I F.cmpKind_ne F.cmpSplit_ne (F.cmpArgs_ne _ _) Fa.ob (ne_entry (A := A.in1) X I Fa hu (wpAny_mono hcall (fun v s' hv => ?_) fun _ _ e => e))))))
  obtain ⟨k, rfl, hq⟩ := hv
  first | exact ⟨k, rfl, wpAny_pure hq⟩ | exact ⟨k, rfl, wpAny_pure (wpAny_pure hq)⟩ | exact ⟨k, rfl, hq⟩
end
end OwnQ
namespace OwnQ
open PySem PySem.Spec PyProof.Rows PySem.W
section
variable {prog : Program} {w : World} {A : Around} {E : Value → Shared → Prop} {s : Shared} {K : Frag} {x y C f : Addr} {ox oy : Obj} {od : Option Obj} {name : Str} {a b tb : Value} {id T : String}
/-- the instance stands left -/
theorem cmp_left {op : CmpOp} {Q : Value → Shared → Prop} (hu : A.units < cLine) (X : K.In s.heap) (I : InstAt s.heap x ox C od) (hb : Looks (model prog w) s.heap (typeOf b) tb) (hn : notFirst K C tb = true)
    (one : wpAny (model prog w) A (tryCompare (.ref x) (cmpInfo op).2.1 b) (fun r s' => ∃ v, r = some v ∧ Q v s') E s) : wpAny (model prog w) A (richCompare op (.ref x) b) Q E s := by
  unfold richCompare
  simp only [oneThing_ref]
  refine wpAny_holding (wpAny_bind (wpAny_cRoomFor hu ?_))
  refine wpAny_bind (I.type.here (wpAny_bind (hb.here ?_)))
  split
  · rename_i q
    have e : subIn K tb (.ref C) = some false := by
      rcases Bool.or_eq_true_iff.mp hn with e | e
      · rw [beq_iff_eq.mp e] at q; simp at q
      · exact beq_iff_eq.mp e
    refine wpAny_bind ((looks_subIn X e).here ?_)
    simp only [Bool.false_eq_true, if_false]
    refine wpAny_bind (wpAny_mono one (fun r s' z => ?_) fun _ _ e => e)
    obtain ⟨v, rfl, hq⟩ := z
    exact wpAny_pure hq
  · refine wpAny_bind (wpAny_pure ?_)
    simp only [Bool.false_eq_true, if_false]
    refine wpAny_bind (wpAny_mono one (fun r s' z => ?_) fun _ _ e => e)
    obtain ⟨v, rfl, hq⟩ := z
    exact wpAny_pure hq
/-- the instance stands right of a value of a built-in type that declines -/
theorem cmp_right {op : CmpOp} {Q : Value → Shared → Prop} (hu : A.units < cLine) (X : K.In s.heap) (I : InstAt s.heap x ox C od) (ha : s.TypeIs a T) (hn : subIn K (.ref C) (.type T) = some false) (h1 : Slot T (cmpInfo op).2.1 id)
    (dec : ∀ Q' : Value → Shared → Prop, Q' .notImplemented s → wpAny (model prog w) A (call (.builtin id) [a, .ref x]) Q' E s)
    (one : wpAny (model prog w) A (tryCompare (.ref x) (cmpInfo op).2.2 a) (fun r s' => ∃ v, r = some v ∧ Q v s') E s) : wpAny (model prog w) A (richCompare op a (.ref x)) Q E s := by
  rcases hi : cmpInfo op with ⟨sym, g, r⟩
  rw [hi] at h1 one
  simp only [richCompare, hi, ha.oneThing_none]
  refine wpAny_holding (wpAny_bind (wpAny_cRoomFor hu ?_))
  refine wpAny_bind (wpAny_typeOf ha (wpAny_bind (I.type.here ?_)))
  have hne : (Value.type T != Value.ref C) = true := by
    simp
  simp only [hne, if_true]
  refine wpAny_bind ((looks_subIn X hn).here ?_)
  simp only [Bool.false_eq_true, if_false, Bool.not_false, if_true]
  refine wpAny_bind (m := tryCompare a _ _) (wpAny_tryCompare_declines ha h1 (dec _ ⟨rfl, ?_⟩))
  refine wpAny_bind (wpAny_mono one (fun r s' z => ?_) fun _ _ e => e)
  obtain ⟨v, rfl, hq⟩ := z
  exact wpAny_pure hq
/-- isinstance of the instance by a built-in type that it isn't of -/
theorem inst_no {M : Model} {U : String} {Q : Bool → Shared → Prop} (X : K.In s.heap) (I : InstAt s.heap x ox C od) (h : subIn K (.ref C) (.type U) = some false) (hq : Q false s) : wpAny M A (isInstance (.ref x) (.type U)) Q E s := by
  unfold isInstance
  exact wpAny_bind (I.type.here ((looks_subIn X h).here hq))
end
section
variable {prog : Program} {w : World} {A : Around} {E : Value → Shared → Prop} {s : Shared} {K : Frag} {x C f : Addr} {dx : Addr} {od : Option Obj}
open Builtin
theorem dec_none (i : String) {B : Builtin} {op : CmpOp} (S : Slot "NoneType" (cmpInfo op).2.1 i) (hB : entryFor table i = some B) (ha : argsOk i ⟨[.none, .ref x], []⟩) (hb : B = Builtin.«NoneType.__eq__» ∨ B = Builtin.«NoneType.__ne__»)
    (Q : Value → Shared → Prop) (q : Q .notImplemented s) : wpAny (model prog w) A (call (.builtin i) [.none, .ref x]) Q E s := by
  refine GQ.call_here S rfl hB ha ?_
  rcases hb with rfl | rfl
  · obtain ⟨hp, g, d, tk, os⟩ := s
    wp_walk
    exact q
  · obtain ⟨hp, g, d, tk, os⟩ := s
    wp_walk
    exact q
theorem dec_int {a : Value} {T : String} (hT : s.TypeIs a T) (hv : (∃ k t, a = .int k t) ∨ ∃ k, a = .bool k) (I : InstAt s.heap x (instObj C dx) C od) (i : String) {B : Builtin} {op : CmpOp} (S : Slot T (cmpInfo op).2.1 i) (hB : entryFor table i = some B) (ha : argsOk i ⟨[a, .ref x], []⟩) (hb : B = Builtin.«int.__eq__» ∨ B = Builtin.«int.__ne__»)
    (Q : Value → Shared → Prop) (q : Q .notImplemented s) : wpAny (model prog w) A (call (.builtin i) [a, .ref x]) Q E s := by
  refine GQ.call_here S hT hB ha ?_
  obtain ⟨hx, _, _, _⟩ := I
  rcases hb with rfl | rfl <;> rcases hv with ⟨k, t, rfl⟩ | ⟨k, rfl⟩ <;>
  · obtain ⟨hp, g, d, tk, os⟩ := s
    wp_walk using MeetsSeq.wpAny_loadPart' hx
    exact q
theorem dec_str {a : Str} {t : Tok} (I : InstAt s.heap x (instObj C dx) C od) (i : String) {B : Builtin} {op : CmpOp} (S : Slot "str" (cmpInfo op).2.1 i) (hB : entryFor table i = some B) (ha : argsOk i ⟨[.str a t, .ref x], []⟩) (hb : B = Builtin.«str.__eq__» ∨ B = Builtin.«str.__ne__»)
    (Q : Value → Shared → Prop) (q : Q .notImplemented s) : wpAny (model prog w) A (call (.builtin i) [.str a t, .ref x]) Q E s := by
  refine GQ.call_here S (typeIs_str _ _ _) hB ha ?_
  obtain ⟨hx, _, _, _⟩ := I
  rcases hb with rfl | rfl <;>
  · obtain ⟨hp, g, d, tk, os⟩ := s
    wp_walk using MeetsSeq.wpAny_loadPart' hx
    exact q
theorem dec_list {l : Addr} (X : K.In s.heap) (I : InstAt s.heap x (instObj C dx) C od) (hn : subIn K (.ref C) (.type "list") = some false) (hl : s.TypeIs (.ref l) "list") (i : String) {B : Builtin} {op : CmpOp} (S : Slot "list" (cmpInfo op).2.1 i) (hB : entryFor table i = some B) (ha : argsOk i ⟨[.ref l, .ref x], []⟩)
    (hb : B = Builtin.«list.__eq__» ∨ B = Builtin.«list.__ne__») (Q : Value → Shared → Prop) (q : Q .notImplemented s) : wpAny (model prog w) A (call (.builtin i) [.ref l, .ref x]) Q E s := by
  refine GQ.call_here S hl hB ha ?_
  have one : ∀ (A : Around) (E : Value → Shared → Prop) (Q : Bool → Shared → Prop), Q false s → wpAny (model prog w) A (isInstance (.ref x) (.type "list")) Q E s := fun A E Q q => inst_no X I hn q
  obtain ⟨hp, g, d, tk, os⟩ := s
  rcases hb with rfl | rfl <;>
  · wp_walk using one
    exact q
theorem dec_tuple {l : Addr} (X : K.In s.heap) (I : InstAt s.heap x (instObj C dx) C od) (hn : subIn K (.ref C) (.type "tuple") = some false) (hl : s.TypeIs (.ref l) "tuple") (i : String) {B : Builtin} {op : CmpOp} (S : Slot "tuple" (cmpInfo op).2.1 i) (hB : entryFor table i = some B) (ha : argsOk i ⟨[.ref l, .ref x], []⟩)
    (hb : B = Builtin.«tuple.__eq__» ∨ B = Builtin.«tuple.__ne__») (Q : Value → Shared → Prop) (q : Q .notImplemented s) : wpAny (model prog w) A (call (.builtin i) [.ref l, .ref x]) Q E s := by
  refine GQ.call_here S hl hB ha ?_
  have one : ∀ (A : Around) (E : Value → Shared → Prop) (Q : Bool → Shared → Prop), Q false s → wpAny (model prog w) A (isInstance (.ref x) (.type "tuple")) Q E s := fun A E Q q => inst_no X I hn q
  obtain ⟨hp, g, d, tk, os⟩ := s
  rcases hb with rfl | rfl <;>
  · wp_walk using one
    exact q
theorem dec_dict {l : Addr} (X : K.In s.heap) (I : InstAt s.heap x (instObj C dx) C od) (hn : subIn K (.ref C) (.type "dict") = some false) (hl : s.TypeIs (.ref l) "dict") (i : String) {B : Builtin} {op : CmpOp} (S : Slot "dict" (cmpInfo op).2.1 i) (hB : entryFor table i = some B) (ha : argsOk i ⟨[.ref l, .ref x], []⟩)
    (hb : B = Builtin.«dict.__eq__» ∨ B = Builtin.«dict.__ne__») (Q : Value → Shared → Prop) (q : Q .notImplemented s) : wpAny (model prog w) A (call (.builtin i) [.ref l, .ref x]) Q E s := by
  refine GQ.call_here S hl hB ha ?_
  have one : ∀ (A : Around) (E : Value → Shared → Prop) (Q : Bool → Shared → Prop), Q false s → wpAny (model prog w) A (isInstance (.ref x) (.type "dict")) Q E s := fun A E Q q => inst_no X I hn q
  obtain ⟨hp, g, d, tk, os⟩ := s
  rcases hb with rfl | rfl <;>
  · wp_walk using one
    exact q
end
end OwnQ
end
section


set_option Elab.async false
set_option linter.all false
set_option maxRecDepth 100000
set_option maxHeartbeats 4000000
namespace L2
open PySem PySem.Spec PyProof.Rows PySem.W
/-- of which type a value is, told by the abstract heap -/
inductive KindV (H : Hp) : V → Value → Prop
  | non : KindV H .non (.type "NoneType")
  | int (i : Int) : KindV H (.int i) (.type "int")
  | bl (b : Bool) : KindV H (.bl b) (.type "bool")
  | str (z : PySem.Str) : KindV H (.str z) (.type "str")
  | lst {a : Addr} {xs : List V} (h : H a = some (.lst xs)) : KindV H (.ref a) (.type "list")
  | tup {a : Addr} {xs : List V} (h : H a = some (.tup xs)) : KindV H (.ref a) (.type "tuple")
  | dct {a : Addr} {kvs : List (Key × V)} (h : H a = some (.dK kvs)) : KindV H (.ref a) (.type "dict")
  | ins {a D dx : Addr} {fs : List (PySem.Str × V)} (h : H a = some (.ins D dx fs)) : KindV H (.ref a) (.ref D)
theorem KindV.keep {H H' : Hp} {x : V} {t : Value} (k : KindV H x t) (h : ∀ a o, H a = some o → H' a = some o) : KindV H' x t := by
  cases k with
  | non => exact .non
  | int i => exact .int i
  | bl b => exact .bl b
  | str z => exact .str z
  | lst e => exact .lst (h _ _ e)
  | tup e => exact .tup (h _ _ e)
  | dct e => exact .dct (h _ _ e)
  | ins e => exact .ins (h _ _ e)
section
variable {X : Cx} {pins : List (Addr × Obj)} {σ : St} {H : Hp} {s : Shared} {x : V} {u t : Value} {T : String}
theorem kind_type (I : Inv X pins σ H s) (r : RelV x u) (k : KindV H x (.type T)) : s.TypeIs u T := by
  cases k with
  | non => cases r; rfl
  | int i => obtain ⟨t, rfl⟩ := r; exact typeIs_int s i t
  | bl b => cases r; rfl
  | str z => obtain ⟨t, rfl⟩ := r; exact typeIs_str s z t
  | lst e =>
    cases r
    obtain ⟨_, its, n, _, ho⟩ := I.hok _ _ e
    exact ⟨_, ho, rfl⟩
  | tup e =>
    cases r
    obtain ⟨_, its, _, ho⟩ := I.hok _ _ e
    exact ho.typeIs
  | dct e =>
    cases r
    obtain ⟨_, _, vs, _, ho⟩ := I.hok _ _ e
    exact ho.typeIs
theorem kind_looks {M : Model} (I : Inv X pins σ H s) (r : RelV x u) (k : KindV H x t) : Looks M s.heap (typeOf u) t := by
  have rf : ∀ (a : Addr) (T : String), s.TypeIs (.ref a) T → Looks M s.heap (typeOf (.ref a)) (.type T) := fun a T h => by
    obtain ⟨o, ho, hc⟩ := h
    exact hc ▸ (Looks.ld ho).andThen .now
  cases k with
  | non => cases r; exact Looks.of_pure rfl
  | int i => obtain ⟨t, rfl⟩ := r; exact Looks.of_pure rfl
  | bl b => cases r; exact Looks.of_pure rfl
  | str z => obtain ⟨t, rfl⟩ := r; exact Looks.of_pure rfl
  | lst e => have h := kind_type I r (.lst e); cases r; exact rf _ _ h
  | tup e => have h := kind_type I r (.tup e); cases r; exact rf _ _ h
  | dct e => have h := kind_type I r (.dct e); cases r; exact rf _ _ h
  | ins e =>
    cases r
    obtain ⟨mA, J, _⟩ := ins_get I.hok e
    obtain ⟨od, J, _⟩ := J.look
    exact J.type
end
/-- == (neg: !=) where the left or the right one is an instance of C with its own == -/
def rOwnEq (K : PySem.W.Frag) (C : Addr) (sp : Sp) (E : XK) (neg : Bool) : R2 := fun x y H Q =>
  (∃ a dx fs t, x = .ref a ∧ H a = some (.ins C dx fs) ∧ KindV H y t ∧ notFirst K C t = true ∧ sp [x, y] H (fun v H' => ∃ k, v = .bl k ∧ Q (.bl (k != neg)) H') E) ∨
  (∃ b dx fs T, y = .ref b ∧ H b = some (.ins C dx fs) ∧ KindV H x (.type T) ∧ sp [y, x] H (fun v H' => ∃ k, v = .bl k ∧ Q (.bl (k != neg)) H') E)
section
variable {X : Cx} {CX : CXT} {n : Nat} {C f : Addr} {fd : FuncData} {ps : List PySem.Str} {sp : Sp} {E : XK} {pins : List (Addr × Obj)} {σ : St} {H : Hp} {s : Shared} {A : Around}
theorem run_eqf (F : FnOk X.prog X.w X.K X.mg X.base CX n f fd ps sp) (hb : Binds X.K fd ps []) (hx : Passes CX X E) (sb : Sub X n A) (I : Inv X pins σ H s) {x y : V} {u v : Value} (ru : RelV x u) (rv : RelV y v) {Qv : VK} {R : Value → Shared → Prop}
    (h : sp [x, y] H Qv E) (fin : ∀ z w H' s', Inv X pins σ H' s' → RelV z w → Qv z H' → R w s') : wpAny (model X.prog X.w) A (call (.ref f) [u, v]) R X.xe s := by
  have e0 : Env0 X.prog X.w X.K X.mg X.base A X.stack s H := by
    have e := I.env0
    exact ⟨by rw [sb.fr]; exact e.frames, e.mod, e.bs, e.bsz, e.funs, e.frf, e.hok, e.bare⟩
  have hl := F.len _ _ _ _ h
  have r2 : Vals [x, y] [u, v] := .cons ru (.cons rv .nil)
  refine wpAny_call (codeAny_mono (F.run A X.stack s H ⟨[u, v], []⟩ [u, v] [x, y] _ E sb.room e0 (by
    have := hb s [u, v] I.kIn (by simpa using hl)
    simpa using this) r2 h) fun r s' hq => ?_)
  cases r with
  | error e => exact hx pins σ H s e s' I hq
  | ok fl =>
    cases fl with
    | ret w =>
      obtain ⟨z, H', I', rz, q⟩ := I.after hq
      exact fin z w H' s' I' rz q
    | next => exact False.elim hq
    | brk => exact False.elim hq
    | cont => exact False.elim hq
theorem call_decl {B : Builtin} {T id : String} {op : CmpOp} (Fa : OwnQ.Facts X.K C f) {x : V} {u : Value} {b dx : Addr} {fs : List (PySem.Str × V)} (I : Inv X pins σ H s) (r : RelV x u) (k : KindV H x (.type T)) (e : H b = some (.ins C dx fs)) (ho : op = .Eq ∨ op = .NotEq) :
    subIn X.K (.ref C) (.type T) = some false ∧ ∃ id, Slot T (cmpInfo op).2.1 id ∧ ∀ (A : Around) (E' Q' : Value → Shared → Prop), Q' .notImplemented s → wpAny (model X.prog X.w) A (call (.builtin id) [u, .ref b]) Q' E' s := by
  have hT := kind_type I r k
  obtain ⟨mA, J, _⟩ := ins_get I.hok e
  obtain ⟨od, J, _⟩ := J.look
  cases k with
  | non =>
    cases r
    rcases ho with rfl | rfl
    · exact ⟨Fa.sN, _, PySem.F.slot_NoneType_eq, fun A E' Q' q => OwnQ.dec_none _ (op := .Eq) PySem.F.slot_NoneType_eq PySem.F.entry_NoneType_eq (PySem.F.args_NoneType_eq_2 _ _) (.inl rfl) Q' q⟩
    · exact ⟨Fa.sN, _, PySem.F.slot_NoneType_ne, fun A E' Q' q => OwnQ.dec_none _ (op := .NotEq) PySem.F.slot_NoneType_ne PySem.F.entry_NoneType_ne (PySem.F.args_NoneType_ne_2 _ _) (.inr rfl) Q' q⟩
  | int i =>
    obtain ⟨t, rfl⟩ := r
    rcases ho with rfl | rfl
    · exact ⟨Fa.sI, _, PySem.F.slot_int_eq, fun A E' Q' q => OwnQ.dec_int hT (.inl ⟨_, _, rfl⟩) J _ (op := .Eq) PySem.F.slot_int_eq PySem.F.entry_int_eq (PySem.F.args_int_eq_2 _ _) (.inl rfl) Q' q⟩
    · exact ⟨Fa.sI, _, PySem.F.slot_int_ne, fun A E' Q' q => OwnQ.dec_int hT (.inl ⟨_, _, rfl⟩) J _ (op := .NotEq) PySem.F.slot_int_ne PySem.F.entry_int_ne (PySem.F.args_int_ne_2 _ _) (.inr rfl) Q' q⟩
  | bl b =>
    cases r
    rcases ho with rfl | rfl
    · exact ⟨Fa.sB, _, PySem.F.slot_bool_eq, fun A E' Q' q => OwnQ.dec_int hT (.inr ⟨_, rfl⟩) J _ (op := .Eq) PySem.F.slot_bool_eq PySem.F.entry_int_eq (PySem.F.args_int_eq_2 _ _) (.inl rfl) Q' q⟩
    · exact ⟨Fa.sB, _, PySem.F.slot_bool_ne, fun A E' Q' q => OwnQ.dec_int hT (.inr ⟨_, rfl⟩) J _ (op := .NotEq) PySem.F.slot_bool_ne PySem.F.entry_int_ne (PySem.F.args_int_ne_2 _ _) (.inr rfl) Q' q⟩
  | str z =>
    obtain ⟨t, rfl⟩ := r
    rcases ho with rfl | rfl
    · exact ⟨Fa.sS, _, PySem.F.slot_str_eq, fun A E' Q' q => OwnQ.dec_str J _ (op := .Eq) PySem.F.slot_str_eq PySem.F.entry_str_eq (PySem.F.args_str_eq_2 _ _) (.inl rfl) Q' q⟩
    · exact ⟨Fa.sS, _, PySem.F.slot_str_ne, fun A E' Q' q => OwnQ.dec_str J _ (op := .NotEq) PySem.F.slot_str_ne PySem.F.entry_str_ne (PySem.F.args_str_ne_2 _ _) (.inr rfl) Q' q⟩
  | lst e =>
    cases r
    rcases ho with rfl | rfl
    · exact ⟨Fa.sL, _, PySem.F.slot_list_eq, fun A E' Q' q => OwnQ.dec_list I.kIn J Fa.sL hT _ (op := .Eq) PySem.F.slot_list_eq PySem.F.entry_list_eq (PySem.F.args_list_eq_2 _ _) (.inl rfl) Q' q⟩
    · exact ⟨Fa.sL, _, PySem.F.slot_list_ne, fun A E' Q' q => OwnQ.dec_list I.kIn J Fa.sL hT _ (op := .NotEq) PySem.F.slot_list_ne PySem.F.entry_list_ne (PySem.F.args_list_ne_2 _ _) (.inr rfl) Q' q⟩
  | tup e =>
    cases r
    rcases ho with rfl | rfl
    · exact ⟨Fa.sT, _, PySem.F.slot_tuple_eq, fun A E' Q' q => OwnQ.dec_tuple I.kIn J Fa.sT hT _ (op := .Eq) PySem.F.slot_tuple_eq PySem.F.entry_tuple_eq (PySem.F.args_tuple_eq_2 _ _) (.inl rfl) Q' q⟩
    · exact ⟨Fa.sT, _, PySem.F.slot_tuple_ne, fun A E' Q' q => OwnQ.dec_tuple I.kIn J Fa.sT hT _ (op := .NotEq) PySem.F.slot_tuple_ne PySem.F.entry_tuple_ne (PySem.F.args_tuple_ne_2 _ _) (.inr rfl) Q' q⟩
  | dct e =>
    cases r
    rcases ho with rfl | rfl
    · exact ⟨Fa.sD, _, PySem.F.slot_dict_eq, fun A E' Q' q => OwnQ.dec_dict I.kIn J Fa.sD hT _ (op := .Eq) PySem.F.slot_dict_eq PySem.F.entry_dict_eq (PySem.F.args_dict_eq_2 _ _) (.inl rfl) Q' q⟩
    · exact ⟨Fa.sD, _, PySem.F.slot_dict_ne, fun A E' Q' q => OwnQ.dec_dict I.kIn J Fa.sD hT _ (op := .NotEq) PySem.F.slot_dict_ne PySem.F.entry_dict_ne (PySem.F.args_dict_ne_2 _ _) (.inr rfl) Q' q⟩
theorem op_ownEq (F : FnOk X.prog X.w X.K X.mg X.base CX n f fd ps sp) (Fa : OwnQ.Facts X.K C f) (hb : Binds X.K fd ps []) (hx : Passes CX X E) (hr : Room n X.A) : OpR X (compareOp .Eq) (rOwnEq X.K C sp E false) := by
  intro pins s σ H x y v u Q I rx ry h
  have sb : Sub X n X.A := ⟨hr, rfl⟩
  have fin : ∀ z w H' s', Inv X pins σ H' s' → RelV z w → (∃ k, z = .bl k ∧ Q (.bl (k != false)) H') → ∃ v', some w = some v' ∧ EP X pins σ Q v' s' := fun z w H' s' I' rz q => by
    obtain ⟨k, rfl, q⟩ := q
    cases rz
    rw [Bool.bne_false] at q
    exact ⟨_, rfl, .bl k, H', I', rfl, q⟩
  show wpAny (model X.prog X.w) X.A (richCompare .Eq v u) (EP X pins σ Q) X.xe s
  rcases h with ⟨a, dx, fs, t, rfl, ha, hk, hn, q⟩ | ⟨b, dx, fs, T, rfl, hb', hk, q⟩
  · cases rx
    obtain ⟨mA, J, _⟩ := ins_get I.hok ha
    obtain ⟨od, J, _⟩ := J.look
    refine OwnQ.cmp_left (op := .Eq) hr.units0 I.kIn J (kind_looks I ry hk) hn ?_
    unfold tryCompare
    refine wpAny_bind (ifBound_K I.kIn J Fa.eq Fa.fn (run_eqf (x := .ref a) F hb hx sb I rfl ry q fun z w H' s' I' rz q' => ?_))
    obtain ⟨k, rfl, q'⟩ := q'
    cases rz
    exact wpAny_pure (fin (.bl k) _ _ _ I' rfl ⟨k, rfl, q'⟩)
  · cases ry
    obtain ⟨mA, J, _⟩ := ins_get I.hok hb'
    obtain ⟨od, J, _⟩ := J.look
    obtain ⟨hs, id, S, dec⟩ := call_decl (B := Builtin.«object.__ne__») (T := T) (id := "") Fa I rx hk hb' (op := .Eq) (.inl rfl)
    refine OwnQ.cmp_right (op := .Eq) hr.units0 I.kIn J (kind_type I rx hk) hs S (fun Q' q' => dec X.A X.xe Q' q') ?_
    unfold tryCompare
    refine wpAny_bind (ifBound_K I.kIn J Fa.eq Fa.fn (run_eqf (x := .ref b) F hb hx sb I rfl rx q fun z w H' s' I' rz q' => ?_))
    obtain ⟨k, rfl, q'⟩ := q'
    cases rz
    exact wpAny_pure (fin (.bl k) _ _ _ I' rfl ⟨k, rfl, q'⟩)
theorem op_ownNe (F : FnOk X.prog X.w X.K X.mg X.base CX n f fd ps sp) (Fa : OwnQ.Facts X.K C f) (hb : Binds X.K fd ps []) (hx : Passes CX X E) (hr : Room (n + 1) X.A) : OpR X (compareOp .NotEq) (rOwnEq X.K C sp E true) := by
  intro pins s σ H x y v u Q I rx ry h
  have sb : Sub X n X.A.in1 := ⟨hr.in1, rfl⟩
  have hu : X.A.units + 1 < cLine := by
    have := hr.units
    omega
  have fin : ∀ z w H' s', Inv X pins σ H' s' → RelV z w → (∃ k, z = .bl k ∧ Q (.bl (k != true)) H') → ∃ k, w = .bool k ∧ ∃ v', some (Value.bool (!k)) = some v' ∧ EP X pins σ Q v' s' := fun z w H' s' I' rz q => by
    obtain ⟨k, rfl, q⟩ := q
    cases rz
    rw [Bool.bne_true] at q
    exact ⟨k, rfl, _, rfl, .bl (!k), H', I', rfl, q⟩
  show wpAny (model X.prog X.w) X.A (richCompare .NotEq v u) (EP X pins σ Q) X.xe s
  rcases h with ⟨a, dx, fs, t, rfl, ha, hk, hn, q⟩ | ⟨b, dx, fs, T, rfl, hb', hk, q⟩
  · cases rx
    obtain ⟨mA, J, _⟩ := ins_get I.hok ha
    obtain ⟨od, J, _⟩ := J.look
    refine OwnQ.cmp_left (op := .NotEq) hr.units0 I.kIn J (kind_looks I ry hk) hn ?_
    exact OwnQ.try_ne I.kIn J Fa hu (run_eqf (x := .ref a) F hb hx sb I rfl ry q fun z w H' s' I' rz q' => fin z w H' s' I' rz q')
  · cases ry
    obtain ⟨mA, J, _⟩ := ins_get I.hok hb'
    obtain ⟨od, J, _⟩ := J.look
    obtain ⟨hs, id, S, dec⟩ := call_decl (B := Builtin.«object.__ne__») (T := T) (id := "") Fa I rx hk hb' (op := .NotEq) (.inr rfl)
    refine OwnQ.cmp_right (op := .NotEq) hr.units0 I.kIn J (kind_type I rx hk) hs S (fun Q' q' => dec X.A X.xe Q' q') ?_
    exact OwnQ.try_ne I.kIn J Fa hu (run_eqf (x := .ref b) F hb hx sb I rfl rx q fun z w H' s' I' rz q' => fin z w H' s' I' rz q')
end
end L2
end
section
set_option Elab.async false
set_option linter.all false
set_option maxRecDepth 100000
set_option maxHeartbeats 8000000
namespace K81
open PySem PySem.Spec PyProof.Rows L2
abbrev sQInit : Stmt := inClass (top 24) 0
abbrev sQStreets : Stmt := inClass (top 24) 1
abbrev sQGates : Stmt := inClass (top 24) 2
abbrev sQEq : Stmt := inClass (top 24) 3
abbrev FnM (K : PySem.W.Frag) (x q : Str) (st : Stmt) (f : Addr) (fd : FuncData) : Prop := FunD K x q (defArgs st) (defBody st) (defScope st) [] [] f fd
def kinds : List String := ["NoneType", "int", "bool", "str", "list", "tuple", "dict"]
/-- what is known of a class of the text -/
structure ClsF (K : PySem.W.Frag) (C fI fE : Addr) : Prop where
  cl : Cls K C
  mkr : Mk K C fI
  ow : OwnQ.Facts K C fE
  n1 : NoAttr K C "_streets"
  n2 : NoAttr K C "_gates"
  ha : PySem.W.findIn K (.ref C) "__class__" = some (some (.builtin "object.__class__"))
  hn : PySem.W.specialIn K (.builtin "object.__class__") "__get__" = some (some (.builtin "getset_descriptor.__get__"))
  htk : PySem.W.takesIn K (.builtin "object.__class__") = some true
  hm : PySem.W.mroIn K C (.type "object") = some true
  kC : PySem.W.kitOne K (.ref C) (.ref C) = some true
  kk : ∀ T ∈ kinds, PySem.W.kitOne K (.type T) (.ref C) = some false ∧ PySem.W.notFirst K C (.type T) = true
/-- the class -/
structure Klz (K : PySem.W.Frag) (mg : Str → Option Value) (CQ iQ eQ sQ gQ : Addr) : Prop where
  q : ClsF K CQ iQ eQ
  mQ : mg "Quarter" = some (.ref CQ)
  qs : Meth K CQ "streets" sQ
  qg : Meth K CQ "gates" gQ
theorem ClsF.ty {K : PySem.W.Frag} {C fI fE a dx : Addr} {fs : List (Str × V)} {H : Hp} (c : ClsF K C fI fE) (e : H a = some (.ins C dx fs)) : TyX K H (.ref a) (.ref C) := .base (.ins e c.cl c.ha c.hn c.htk c.hm)
theorem kind_ty {K : PySem.W.Frag} {H : Hp} {x : V} {T : String} (k : KindV H x (.type T)) : TyX K H x (.type T) ∧ T ∈ kinds := by
  cases k with
  | non => exact ⟨.base .non, by decide +kernel⟩
  | int i => exact ⟨.base (.int i), by decide +kernel⟩
  | bl i => exact ⟨.base (.bl i), by decide +kernel⟩
  | str i => exact ⟨.base (.str i), by decide +kernel⟩
  | lst e => exact ⟨.base (.lst e), by decide +kernel⟩
  | tup e => exact ⟨.base (.tup e), by decide +kernel⟩
  | dct e => exact ⟨.base (.dK e), by decide +kernel⟩
/-- a quarter at q -/
structure QuP (H : Hp) (C q dx l g : Addr) (ts : List (Addr × S5)) (gs : List Str) : Prop where
  at_ : H q = some (.ins C dx [("_streets", .ref l), ("_gates", .ref g)])
  s : Sts H l ts
  g : Ws H g gs
/-- right streets -/
structure SOk (ss : List S5) : Prop where
  ok : ∀ s ∈ ss, s.Ok
  nd : (nms ss).Nodup
  l : ss.length ≤ 60
/-- right gates -/
structure GOk (gs : List Str) : Prop where
  wd : ∀ x ∈ gs, Wd x
  nd : gs.Nodup
  ne : gs ≠ []
  l : gs.length ≤ 60
abbrev snds (ts : List (Addr × S5)) : List S5 := ts.map fun t => t.2
theorem nms_snds (ts : List (Addr × S5)) : (ts.map fun t => t.2.nm) = nms (snds ts) := by
  show _ = (ts.map fun t => t.2).map S5.nm
  rw [List.map_map]
  rfl
def nameAt (H : Hp) : V → Str
  | .ref a => match H a with
    | some (.tup (.str z :: _)) => z
    | _ => ""
  | _ => ""
theorem nameAt_sts {H : Hp} {l : Addr} {ts : List (Addr × S5)} (h : Sts H l ts) : ∀ t ∈ ts, nameAt H (.ref t.1) = t.2.nm := fun t ht => by
  have e := h.2 t ht
  unfold nameAt
  simp only [e, S5.vals]
theorem Sts.keep {H H' : Hp} {l : Addr} {ts : List (Addr × S5)} (h : Sts H l ts) (s : Same H H') : Sts H' l ts := ⟨s _ _ h.1, fun t ht => s _ _ (h.2 t ht)⟩
theorem QuP.keep {H H' : Hp} {C q dx l g : Addr} {ts : List (Addr × S5)} {gs : List Str} (h : QuP H C q dx l g ts gs) (s : Same H H') : QuP H' C q dx l g ts gs := ⟨s _ _ h.at_, h.s.keep s, s _ _ h.g⟩
section
variable {P : Program} {w : World} {K : PySem.W.Frag} {mg : Str → Option Value} {base : Heap}
/-! ### check_gates, of right ones -/
def spChkGates : Sp := fun vs H Q _ => ∃ (l : Addr) (gs : List Str), vs = [.ref l] ∧ Ws H l gs ∧ GOk gs ∧ ∀ H', Same H H' → Q .non H'
abbrev NCG : List Str := ["value", "gate"]
/-- are_gates -/
def spAreGates : Sp := fun vs H Q _ => ∃ (l : Addr) (gs : List Str), vs = [.ref l] ∧ Ws H l gs ∧ GOk gs ∧ ∀ H', Same H H' → Q (.bl true) H'
theorem scAreGates : FnScope NCG ["value"] (defScope sAreGates) := ⟨rfl, rfl, rfl, by decide +kernel, rfl, by decide +kernel, by decide +kernel⟩
theorem ok_areGates {f : Addr} {fd : FuncData} (F : FnP K "are_gates" sAreGates f fd) (GW : Fz P w K mg base "is_word" 1 ["value"] spIsWord) (T : Tx K mg) : FnOk P w K mg base CX0 2 f fd ["value"] spAreGates := by
  refine F.ok scAreGates (fun vs H Q E h => ?_) (fun cdv A outer s H vs Q E hr h => ?_)
  · obtain ⟨_, _, rfl, _⟩ := h
    rfl
  · obtain ⟨l, gs, rfl, hl, ok, q⟩ := h
    have gIs := T.fr "isinstance" (by decide +kernel)
    have gLi := T.fr "list" (by decide +kernel)
    have gL := T.fr "len" (by decide +kernel)
    have gA := T.fr "all" (by decide +kernel)
    have gS := T.fr "set" (by decide +kernel)
    have sl := sizeLine_eq
    have h60 := ok.l
    refine ⟨_, PSs.nox (pss_cons (ps_if (PW.pt (pw_or (pt_not (pt_val (pe_callB call_isi (by rfl) gIs (by decide +kernel) (pa_cons (pv 0) (pa_cons (pe_bltn (v := .ty "list") (by rfl) gLi (by decide +kernel) rfl) pa_nil)))))
        (pw_or1 (pt_not (pt_val (pe_callB (cr_all rfl) (by rfl) gA (by decide +kernel) (pa_cons (pe_lc (own := [("gate", 1)]) (g := gName 1) (tt := tYes) rfl scAreGates.nd (pi_list (pv 0)) (blkOk_by (own := [("gate", 1)]) (N := NCG) (sc := defScope sAreGates) (by decide +kernel))
          (fun _ _ _ _ _ => pg_name (i := 1) scAreGates.nd rfl (Or.inl rfl)) (fun _ _ _ _ _ => pts_nil) (fun _ _ _ _ _ => pe_fz GW hr (by rfl) (pa_cons (pv 1) pa_nil))) pa_nil))))))) (pss_one (ps_ret pe_bl)) pss_nil)
      (pss_one (ps_ret (pe_chain op_lt op_eq pe_int (pe_callB call_len_seq (by rfl) gL PySem.boot_len (pa_cons (pv 0) pa_nil)) (pe_callB cr_lenX (by rfl) gL PySem.boot_len (pa_cons (pe_callTy (cr_setX rfl) (by rfl) gS (by decide +kernel) (pa_cons (pv 0) pa_nil)) pa_nil)))))), ?_⟩
    refine ⟨_, rfl, _, _, _, _, _, rfl, .ty _, .base (.lst hl), ktr (by decide +kernel), _, rfl, ifF (by decide) ?_⟩
    refine ⟨_, rfl, l, rfl, ⟨_, SqL.of hl⟩, fun D nD => ?_⟩
    refine lc_list (K := K) (a := l) (xs := gs.map V.str) (fun j H' => Same H H' ∧ H' D = some (.lst ((List.replicate j true).map V.bl))) ⟨same_upd nD, upd_same⟩ (fun j H' _ h => SqL.of (h.1 _ _ hl)) ?_ ?_
    · rintro j x H' hj ⟨s1, hD⟩
      rw [List.getElem?_map] at hj
      cases e : gs[j]? with
      | none =>
        rw [e] at hj
        cases hj
      | some t =>
        rw [e] at hj
        cases hj
        have tm := List.mem_of_getElem? e
        have lt := (List.getElem?_eq_some_iff.mp e).1
        refine ⟨rfl, _, rfl, t, rfl, ok.wd t tm, fun H2 s2 => ⟨_, s2 _ _ hD, by rw [List.length_map, List.length_replicate]; omega, fun b o eb => ?_, ?_⟩⟩
        · rw [upd_ne (ne_of_none eb nD)]
          exact s2 _ _ (s1 _ _ eb)
        · rw [upd_same, List.replicate_succ', List.map_append]
          rfl
    · rintro H1 ⟨s1, hD⟩
      refine ⟨D, List.replicate _ true, rfl, SqL.of hD, ?_⟩
      have e : (List.replicate (gs.map V.str).length true).all id = true := by simp
      rw [e]
      have hl1 := s1 _ _ hl
      have fl := TxSet.fold_fresh (ks := gs) (L := []) (by rw [List.append_nil]; exact ok.nd)
      have ne : 0 < gs.length := List.length_pos_iff.mpr ok.ne
      refine ⟨_, rfl, ifF (by decide) ?_⟩
      refine ⟨_, rfl, l, _, rfl, Or.inl (SqL.of hl1), _, _, rfl, rfl, _, rfl, ifT (decide_eq_true (by rw [List.length_map]; omega)) ?_⟩
      refine ⟨_, rfl, l, gs, rfl, SqL.of hl1, by unfold scanBound; omega, fun S nS => ?_⟩
      refine ⟨S, _, rfl, upd_same, by rw [fl]; unfold scanBound; simp only [List.length_nil]; omega, rfl, ?_⟩
      have e3 : decide (V.int ((gs.map V.str).length : Nat) = V.int (((gs.foldl TxSet.addL []).length : Nat) : Int)) = true := by
        rw [fl, List.length_map]
        simp
      show Q (.bl (decide (V.int _ = V.int _))) _
      rw [e3]
      exact q _ (same_trans s1 (same_upd nS))
theorem scChkGates : FnScope ["value"] ["value"] (defScope sChkGates) := ⟨rfl, rfl, rfl, by decide +kernel, rfl, by decide +kernel, by decide +kernel⟩
theorem ok_chkGates {f : Addr} {fd : FuncData} (F : FnP K "check_gates" sChkGates f fd) (GA : Fz P w K mg base "are_gates" 2 ["value"] spAreGates) (T : Tx K mg) : FnOk P w K mg base CX0 3 f fd ["value"] spChkGates := by
  refine F.ok scChkGates (fun vs H Q E h => ?_) (fun cdv A outer s H vs Q E hr h => ?_)
  · obtain ⟨_, _, rfl, _⟩ := h
    rfl
  · obtain ⟨l, gs, rfl, hl, ok, q⟩ := h
    refine ⟨_, PSs.nox (pss_one (ps_if (pt_not (pt_val (pe_fz GA hr (by rfl) (pa_cons (pv 0) pa_nil)))) (pss_one ps_never) pss_nil)), ?_⟩
    exact ⟨_, rfl, l, gs, rfl, hl, ok, fun H' s => ⟨_, rfl, ifF (by decide) (q H' s)⟩⟩
/-! ### Quarter and Town -/
def spInitQ (C : Addr) : Sp := fun vs H Q _ => ∃ (x dx l g : Addr) (ts : List (Addr × S5)) (gs : List Str), vs = [.ref x, .ref l, .ref g] ∧ H x = some (.ins C dx []) ∧ Sts H l ts ∧ SOk (snds ts) ∧ Ws H g gs ∧ GOk gs ∧
  ∀ H' l' g' ts' gs', But x H H' → H l' = none → H g' = none → QuP H' C x dx l' g' ts' gs' → ts'.Perm ts → Asc5 (snds ts') → gs'.Perm gs → Asc gs' → Q .non H'
theorem scQInit : FnScope ["self", "streets", "gates"] ["self", "streets", "gates"] (defScope sQInit) := ⟨rfl, rfl, rfl, by decide +kernel, rfl, by decide +kernel, by decide +kernel⟩
/-- what sorted(streets) asks and tells -/
theorem sort_a {H : Hp} {l : Addr} {ts : List (Addr × S5)} (h : Sts H l ts) : ∀ x ∈ ts.map (fun t => V.ref t.1), ∃ t r, x = V.ref t ∧ SqT K H t (V.str (nameAt H x) :: r) := fun x hx => by
  have nm := nameAt_sts h
  obtain ⟨t, ht, rfl⟩ := List.mem_map.mp hx
  refine ⟨t.1, [.str t.2.st, .str t.2.en, .int t.2.wd, .int t.2.ln], rfl, ?_⟩
  rw [nm t ht]
  exact SqT.of (h.2 t ht)
theorem sort_b {H : Hp} {l : Addr} {ts : List (Addr × S5)} (h : Sts H l ts) (nd : (nms (snds ts)).Nodup) : ∀ x ∈ ts.map (fun t => V.ref t.1), ∀ y ∈ ts.map (fun t => V.ref t.1), nameAt H x = nameAt H y → x = y := fun x hx y hy e => by
  have nm := nameAt_sts h
  obtain ⟨t, ht, rfl⟩ := List.mem_map.mp hx
  obtain ⟨u, hu, rfl⟩ := List.mem_map.mp hy
  rw [nm t ht, nm u hu] at e
  rw [← nms_snds] at nd
  rw [nodup_inj nd t ht u hu e]
theorem sort_c {H : Hp} {l : Addr} {ts : List (Addr × S5)} {ys : List V} (h : Sts H l ts) (pm : ys.Perm (ts.map fun t => V.ref t.1)) (pw : ys.Pairwise fun x y => SrtX.ltS (nameAt H y) (nameAt H x) = false) : ∃ ts' : List (Addr × S5), ts'.Perm ts ∧ Asc5 (snds ts') ∧ ys = ts'.map fun t => V.ref t.1 := by
  have nm := nameAt_sts h
  obtain ⟨ts', pt, rfl⟩ := perm_map_inv pm ts rfl
  refine ⟨ts', pt, ?_, rfl⟩
  rw [List.pairwise_map] at pw
  show ((ts'.map fun t => t.2).Pairwise fun a b => leS a.nm b.nm)
  rw [List.pairwise_map]
  refine List.Pairwise.imp_of_mem (fun {a b} ha hb hab => ?_) pw
  rw [nm a (pt.mem_iff.mp ha), nm b (pt.mem_iff.mp hb)] at hab
  exact hab
theorem ok_qInit {C iQ eQ : Addr} {f : Addr} {fd : FuncData} (F : FnM K "__init__" "Quarter.__init__" sQInit f fd) (c : ClsF K C iQ eQ) (GS : Fz P w K mg base "check_streets" 5 ["value"] (spChkStreets K)) (GG : Fz P w K mg base "check_gates" 3 ["value"] spChkGates) (T : Tx K mg) :
    FnOk P w K mg base CX0 6 f fd ["self", "streets", "gates"] (spInitQ C) := by
  refine F.ok scQInit (fun vs H Q E h => ?_) (fun cdv A outer s H vs Q E hr h => ?_)
  · obtain ⟨_, _, _, _, _, _, rfl, _⟩ := h
    rfl
  · obtain ⟨x, dx, l, g, ts, gs, rfl, hx, hl, so, hg, go, q⟩ := h
    have gSo := T.fr "sorted" (by decide +kernel)
    have h60 := go.l
    have s60 := so.l
    refine ⟨_, PSs.nox (pss_cons (ps_expr (pe_fz GS hr (by rfl) (pa_cons (pv 1) pa_nil))) (pss_cons (ps_expr (pe_fz GG (hr.mono (by decide)) (by rfl) (pa_cons (pv 2) pa_nil)))
      (pss_cons (ps_fld (pv 0) (pe_callB cr_sortedTx (by rfl) gSo (by decide +kernel) (pa_cons (pv 1) pa_nil)) rfl) (pss_one (ps_fld (pv 0) (pe_callB cr_sortedS (by rfl) gSo (by decide +kernel) (pa_cons (pv 2) pa_nil)) rfl))))), ?_⟩
    refine ⟨_, rfl, l, ts, rfl, hl, fun t ht => so.ok _ (List.mem_map.mpr ⟨t, ht, rfl⟩), by rw [nms_snds]; exact so.nd, by rw [List.length_map] at s60; omega, fun H1 s1 => ?_⟩
    refine ⟨_, rfl, g, gs, rfl, s1 _ _ hg, go, fun H2 s2 => ?_⟩
    have s02 := same_trans s1 s2
    have hl2 := hl.keep s02
    refine ⟨_, rfl, l, _, nameAt H2, rfl, SqL.of hl2.1, sort_a hl2, sort_b hl2 so.nd, fun ys l' pm pw nl' => ?_⟩
    obtain ⟨ts', pt, as, rfl⟩ := sort_c hl2 pm pw
    have s3 := same_upd (o := .lst (ts'.map fun t => V.ref t.1)) nl'
    refine ⟨_, rfl, x, C, dx, _, rfl, s3 _ _ (s02 _ _ hx), c.cl, c.n1, by decide, ?_⟩
    have hl3 : upd H2 l' (.lst (ts'.map fun t => V.ref t.1)) l' = some (.lst (ts'.map fun t => V.ref t.1)) := upd_same
    have hx2 := s02 _ _ hx
    have s03 := same_trans s02 s3
    have nlx : l' ≠ x := fun e => by rw [e, hx2] at nl'; cases nl'
    have nl0 := s02.free nl'
    have hts : ∀ t ∈ ts', H t.1 = some (.tup t.2.vals) := fun t ht => hl.2 t (pt.mem_iff.mp ht)
    generalize upd H2 l' (.lst (ts'.map fun t => V.ref t.1)) = H3 at hl3 s03 ⊢
    have hg3 := s03 _ _ hg
    have ngx : g ≠ x := fun e => by rw [e] at hg; rw [hg] at hx; cases hx
    have b4 : But x H (upd H3 x (.ins C dx (putF "_streets" (.ref l') []))) := fun b o nb e => by
      rw [upd_ne nb]
      exact s03 _ _ e
    have hx4 : upd H3 x (.ins C dx (putF "_streets" (.ref l') [])) x = some (.ins C dx [("_streets", .ref l')]) := upd_same
    have hl4 : upd H3 x (.ins C dx (putF "_streets" (.ref l') [])) l' = some (.lst (ts'.map fun t => V.ref t.1)) := by
      rw [upd_ne nlx]
      exact hl3
    have hg4 := b4 _ _ ngx hg
    generalize upd H3 x (.ins C dx (putF "_streets" (.ref l') [])) = H4 at b4 hx4 hl4 hg4 ⊢
    refine ⟨_, rfl, g, gs, rfl, SqL.of hg4, by omega, fun gs' g' pg sg ng' => ?_⟩
    have s5 := same_upd (o := .lst (gs'.map V.str)) ng'
    refine ⟨_, rfl, x, C, dx, _, rfl, s5 _ _ hx4, c.cl, c.n2, (by show 1 < 1000; omega), ?_⟩
    have ngx' : g' ≠ x := fun e => by rw [e, hx4] at ng'; cases ng'
    have ng0 : H g' = none := b4.free ng' ngx'
    have b5 := b4.trans (Same.but (p := x) s5)
    have hg5 : upd H4 g' (.lst (gs'.map V.str)) g' = some (.lst (gs'.map V.str)) := upd_same
    have hl5 := s5 _ _ hl4
    generalize upd H4 g' (.lst (gs'.map V.str)) = H5 at b5 hg5 hl5 ⊢
    have b6 := b5.trans (but_self (p := x) (H := H5) (o := .ins C dx (putF "_gates" (.ref g') [("_streets", .ref l')])))
    refine q _ l' g' ts' gs' b6 nl0 ng0 ⟨?_, ⟨?_, fun t ht => b6 _ _ (fun e => ?_) (hts t ht)⟩, ?_⟩ pt as pg (asc_of_sortedS sg)
    · rw [upd_same]
      rfl
    · rw [upd_ne nlx]
      exact hl5
    · have h1 := hts t ht
      rw [e, hx] at h1
      cases h1
    · show upd _ _ _ g' = _
      rw [upd_ne ngx']
      exact hg5
end
end K81
end
section
set_option Elab.async false
set_option linter.all false
set_option maxRecDepth 100000
set_option maxHeartbeats 8000000
namespace K81
open PySem PySem.Spec PyProof.Rows L2
section
variable {P : Program} {w : World} {K : PySem.W.Frag} {mg : Str → Option Value} {base : Heap}
/-! ### streets(), gates() -/
/-- the list of the field comes back as a new one -/
def spFld (C : Addr) (fl : Str) : Sp := fun vs H Q _ => ∃ (x dx l : Addr) (fs : List (Str × V)) (xs : List V), vs = [.ref x] ∧ H x = some (.ins C dx fs) ∧ fs.lookup fl = some (.ref l) ∧ H l = some (.lst xs) ∧ ∀ D, H D = none → Q (.ref D) (upd H D (.lst xs))
theorem scQS : FnScope ["self"] ["self"] (defScope sQStreets) := ⟨rfl, rfl, rfl, by decide +kernel, rfl, by decide +kernel, by decide +kernel⟩
theorem scQG : FnScope ["self"] ["self"] (defScope sQGates) := ⟨rfl, rfl, rfl, by decide +kernel, rfl, by decide +kernel, by decide +kernel⟩
theorem ok_qStreets {C iQ eQ : Addr} {f : Addr} {fd : FuncData} (F : FnM K "streets" "Quarter.streets" sQStreets f fd) (c : ClsF K C iQ eQ) (T : Tx K mg) : FnOk P w K mg base CX0 1 f fd ["self"] (spFld C "_streets") := by
  refine F.ok scQS (fun vs H Q E h => ?_) (fun cdv A outer s H vs Q E hr h => ?_)
  · obtain ⟨_, _, _, _, _, rfl, _⟩ := h
    rfl
  · obtain ⟨x, dx, l, fs, xs, rfl, hx, hf, hl, q⟩ := h
    have gLi := T.fr "list" (by decide +kernel)
    refine ⟨_, PSs.nox (pss_one (ps_ret (pe_callTy call_list_of (by rfl) gLi (by decide +kernel) (pa_cons (pe_fld (pv 0) rfl) pa_nil)))), ?_⟩
    exact ⟨_, rfl, x, C, dx, fs, _, rfl, hx, c.cl, c.n1, hf, l, _, rfl, Or.inl (SqL.of hl), fun D nD => q D nD⟩
theorem ok_qGates {C iQ eQ : Addr} {f : Addr} {fd : FuncData} (F : FnM K "gates" "Quarter.gates" sQGates f fd) (c : ClsF K C iQ eQ) (T : Tx K mg) : FnOk P w K mg base CX0 1 f fd ["self"] (spFld C "_gates") := by
  refine F.ok scQG (fun vs H Q E h => ?_) (fun cdv A outer s H vs Q E hr h => ?_)
  · obtain ⟨_, _, _, _, _, rfl, _⟩ := h
    rfl
  · obtain ⟨x, dx, l, fs, xs, rfl, hx, hf, hl, q⟩ := h
    have gLi := T.fr "list" (by decide +kernel)
    refine ⟨_, PSs.nox (pss_one (ps_ret (pe_callTy call_list_of (by rfl) gLi (by decide +kernel) (pa_cons (pe_fld (pv 0) rfl) pa_nil)))), ?_⟩
    exact ⟨_, rfl, x, C, dx, fs, _, rfl, hx, c.cl, c.n2, hf, l, _, rfl, Or.inl (SqL.of hl), fun D nD => q D nD⟩
/-! ### == -/
/-- of two quarters, of a quarter and something else -/
def spEqQ (CQ : Addr) : Sp := fun vs H Q _ => ∃ (a : Addr) (y : V) (dx l g : Addr) (ts : List (Addr × S5)) (gs : List Str), vs = [.ref a, y] ∧ QuP H CQ a dx l g ts gs ∧ SOk (snds ts) ∧ GOk gs ∧
  ∃ b dx' l' g' ts' gs', y = .ref b ∧ QuP H CQ b dx' l' g' ts' gs' ∧ SOk (snds ts') ∧ GOk gs' ∧ Q (.bl (decide (snds ts = snds ts' ∧ gs = gs'))) H
theorem scQEq : FnScope ["self", "other"] ["self", "other"] (defScope sQEq) := ⟨rfl, rfl, rfl, by decide +kernel, rfl, by decide +kernel, by decide +kernel⟩
theorem dp_of {H : Hp} {l : Addr} {ts : List (Addr × S5)} (h : Sts H l ts) : Dp K H (.ref l) (.list ((snds ts).map S5.data)) := by
  refine .lst (SqL.of h.1) ?_
  have := dp_sts (K := K) h.2
  show DpAll K H _ ((ts.map fun t => t.2).map S5.data)
  rw [List.map_map]
  exact this
theorem dp_ws {H : Hp} {l : Addr} {gs : List Str} (h : Ws H l gs) : Dp K H (.ref l) (.list (gs.map PyData.str)) := .lst (SqL.of h) (dp_strs gs)
theorem ok_qEq {CQ iQ eQ sQ gQ : Addr} {f : Addr} {fd : FuncData} (F : FnM K "__eq__" "Quarter.__eq__" sQEq f fd) (Z : Klz K mg CQ iQ eQ sQ gQ) (T : Tx K mg) : FnOk P w K mg base CX0 1 f fd ["self", "other"] (spEqQ CQ) := by
  refine F.ok scQEq (fun vs H Q E h => ?_) (fun cdv A outer s H vs Q E hr h => ?_)
  · obtain ⟨_, _, _, _, _, _, _, rfl, _⟩ := h
    rfl
  · obtain ⟨a, y, dx, l, g, ts, gs, rfl, ha, so, go, h⟩ := h
    have gIs := T.fr "isinstance" (by decide +kernel)
    refine ⟨_, PSs.nox (pss_one (ps_ret (pe_and (pe_callB call_isi (by rfl) gIs (by decide +kernel) (pa_cons (pv 1) (pa_cons (C8.pe_gc (v := .ref CQ) (by rfl) ⟨_, Z.mQ, rfl⟩) pa_nil)))
      (pe_and (pe_cmpR (op_eqD hr.units) (pe_fld (pv 0) rfl) (pe_fld (pv 1) rfl) (nomark _)) (pe_one (pe_cmpR (op_eqD hr.units) (pe_fld (pv 0) rfl) (pe_fld (pv 1) rfl) (nomark _))))))), ?_⟩
    obtain ⟨b, dx', l', g', ts', gs', rfl, hb, so', go', q⟩ := h
    · refine ⟨_, rfl, _, _, _, _, _, rfl, .own _, Z.q.ty hb.at_, Z.q.kC, _, rfl, ifT rfl ?_⟩
      refine ⟨_, rfl, a, CQ, dx, _, _, rfl, ha.at_, Z.q.cl, Z.q.n1, rfl, _, rfl, b, CQ, dx', _, _, rfl, hb.at_, Z.q.cl, Z.q.n1, rfl, _, _, dp_of ha.s, dp_of hb.s, sts_shaped so.ok, sts_shaped so'.ok, ?_⟩
      rw [eqv_sts]
      refine ⟨_, rfl, ite2 (fun e => ?_) (fun e => ?_)⟩
      · have e1 := of_decide_eq_true e
        refine ⟨_, rfl, a, CQ, dx, _, _, rfl, ha.at_, Z.q.cl, Z.q.n2, rfl, _, rfl, b, CQ, dx', _, _, rfl, hb.at_, Z.q.cl, Z.q.n2, rfl, _, _, dp_ws ha.g, dp_ws hb.g, strs_shaped go.wd, strs_shaped go'.wd, ?_⟩
        rw [eqv_strs]
        have e2 : decide (gs = gs') = decide (snds ts = snds ts' ∧ gs = gs') := by
          congr 1
          exact propext ⟨fun z => ⟨e1, z⟩, fun z => z.2⟩
        rw [e2]
        exact q
      · have e1 : ¬ (snds ts = snds ts') := fun z => e (decide_eq_true z)
        rw [decide_eq_false (fun z => e1 z.1)] at q
        exact q
end
end K81
end
section
set_option Elab.async false
set_option linter.all false
set_option maxRecDepth 100000
set_option maxHeartbeats 8000000
namespace K81
open PySem PySem.Spec PyProof.Rows L2
/-- a method of the class as it is called -/
def Mz (P : Program) (w : World) (K : PySem.W.Frag) (mg : Str → Option Value) (base : Heap) (C : Addr) (m : Str) (k : Nat) (sp : Sp) : Prop :=
  Cls K C ∧ ∃ (g : Addr) (fd : FuncData), Meth K C m g ∧ FnOk P w K mg base CX0 k g fd ["self"] sp ∧ Binds K fd ["self"] []
section
variable {X : Cx} {m : Str} {k : Nat} {C : Addr} {sp : Sp} {pos apos : Pos} {o : Expr} {ta : TE}
theorem pe_mz {pl : Sem Bool} (Z : Mz X.prog X.w X.K X.mg X.base C m k sp) (he : PE X o ta) (hr : Room k X.A)
    (ht : eval (.Call (.Attribute o m apos) [] [] pos) X.env = (do
      let ov ← eval o X.env
      standAt apos.atName
      let (f, first) ← holding [ov] (getMethod ov m pl)
      callWith pos f first (backTo pos (starEach [] X.env)) (backToKw pos (keywordEach [] X.env))) := by rfl) :
    PE X (.Call (.Attribute o m apos) [] [] pos) (tMeth C m sp [] E0 ta tNil) := by
  obtain ⟨c, g, fd, M, F, b⟩ := Z
  exact pe_meth0 he c M F hr b .nil pass0 ht
end
section
variable {P : Program} {w : World} {K : PySem.W.Frag} {mg : Str → Option Value} {base : Heap}
/-! ### check_quarter, check_town -/
def spIns (C : Addr) : Sp := fun vs H Q _ => ∃ (q dx : Addr) (fs : List (Str × V)), vs = [.ref q] ∧ H q = some (.ins C dx fs) ∧ Q .non H
theorem scChkQ : FnScope ["value"] ["value"] (defScope sChkQuarter) := ⟨rfl, rfl, rfl, by decide +kernel, rfl, by decide +kernel, by decide +kernel⟩
theorem ok_chkQ {CQ iQ eQ : Addr} {f : Addr} {fd : FuncData} (F : FnP K "check_quarter" sChkQuarter f fd) (c : ClsF K CQ iQ eQ) (hm : mg "Quarter" = some (.ref CQ)) (T : Tx K mg) : FnOk P w K mg base CX0 1 f fd ["value"] (spIns CQ) := by
  refine F.ok scChkQ (fun vs H Q E h => ?_) (fun cdv A outer s H vs Q E hr h => ?_)
  · obtain ⟨_, _, _, rfl, _⟩ := h
    rfl
  · obtain ⟨q, dx, fs, rfl, hq, z⟩ := h
    have gIs := T.fr "isinstance" (by decide +kernel)
    refine ⟨_, PSs.nox (pss_one (ps_if (pt_not (pt_val (pe_callB call_isi (by rfl) gIs (by decide +kernel) (pa_cons (pv 0) (pa_cons (C8.pe_gc (v := .ref CQ) (by rfl) ⟨_, hm, rfl⟩) pa_nil))))) (pss_one ps_never) pss_nil)), ?_⟩
    exact ⟨_, rfl, _, _, _, _, _, rfl, .own _, c.ty hq, c.kC, _, rfl, ifF (by decide) z⟩
end
end K81
end
section
set_option Elab.async false
set_option linter.all false
set_option maxRecDepth 100000
set_option maxHeartbeats 4000000
/-! list(reversed(xs)), xs a list: a new list. -/
namespace RT
open PySem PySem.Spec PyProof.Rows
section
variable {prog : Program} {w : World} {A : Around} {E : Value → Shared → Prop} {s : Shared} {R : Result → Shared → Prop}
theorem extend_rev {it l : Addr} {items : Array Value} (hh : A.handled = none) (hit : s.heap.IsRevIter it l ((items.size : Int) - 1)) (hl : s.heap.IsList l items) (hne : l ≠ it) (hn : items.size ≤ sizeLine) (S : Addr) (res : Value) (c₀ : Nat)
    (hSi : S ≠ it) (hSl : S ≠ l) (hS : s.heap.get? S = some { cls := .type "list", data := .seq #[] c₀ })
    (hR : ∀ s' acc' c', Moved [S, it] (fun a b => b = a) s s' → s'.heap.get? S = some { cls := .type "list", dict := none, data := .seq acc' c', slots := #[] } → ItemsOf (fun i v => items[items.size - 1 - i]? = some v) acc' items.size → R (.ok (.ret res)) s') :
    wpAny (model prog w) A.in1 (Builtin.List.listExtendWith (.ref S) (.ref it) res)
      (fun fin s' => match fin with | .done f => R (.ok f) s' | .again c' => c'.quiet = true ∧ codeAny (model prog w) A c' R s') (fun e s' => R (.error e) s') s := by
  have W := (Walks.listRev (prog := prog) (w := w) (A := A.in1) hh it l hne items).toS
  have hSf : S ∉ [it, l] := by simp only [List.mem_cons, List.not_mem_nil, or_false, not_or]; exact ⟨hSi, hSl⟩
  have hT : s.TypeIs (.ref it) "list_reverseiterator" := hit.typeIs
  have h1 : Builtin.List.listSameRef (.ref S) (.ref it) = false := by simp [Builtin.List.listSameRef, hSi]
  unfold Builtin.List.listExtendWith
  refine wpAny_bind (wpAny_typeOf hT ?_)
  rw [if_neg (by rw [h1]; decide)]
  refine wpAny_bind (wpAny_pyIter_revIter hit ?_)
  refine wpAny_bind (wpAny_holding ?_)
  unfold Builtin.List.listLengthHint
  refine wpAny_bind (wpAny_specialOf hT nolen_lri ?_)
  show wpAny _ A.in1 (specialOf (Value.ref it) (Str.ofString "__length_hint__") >>= _) _ _ _
  refine wpAny_bind (wpAny_specialOf hT hint_lri ?_)
  generalize hid : ("list_reverseiterator.__length_hint__" : String) = id0
  wp_delta
  rw [show splitId id0 = some ("list_reverseiterator", "__length_hint__") from by subst hid; decide +kernel]
  subst hid
  refine wpAny_bind (wpAny_isInstance (b := true) hT (by rw [isSubtype_type]; kernel_rfl) ?_)
  refine wpAny_pure ?_
  rw [if_neg (by decide)]
  have e0 : ((items.size : Nat) : Int) - 1 - ((0 : Nat) : Int) = (items.size : Int) - 1 := by omega
  refine wpAny_pure ⟨plainId_quiet F.plain_extend_loop _, codeAny_extend_loopS W hn _ hSf _ items.size 0 _ _ _ rfl (Nat.zero_le _) ⟨Nat.zero_le _, by rw [e0]; exact hit, hl⟩ hS (ItemsOf.nil _) fun s' acc' c' hm hS' hacc => ?_⟩
  exact hR s' acc' c' hm hS' hacc
theorem call_list_rev {it l : Addr} {items : Array Value} {Q : Value → Shared → Prop} (hh : A.handled = none) (hit : s.heap.IsRevIter it l ((items.size : Int) - 1)) (hl : s.heap.IsList l items) (hne : l ≠ it) (hn : items.size ≤ sizeLine)
    (hQ : ∀ (h' : Heap) (tk : Nat) (acc : Array Value) (c : Nat), (∀ b o, b ≠ it → s.heap.get? b = some o → h'.get? b = some o) → h'.get? s.heap.objs.size = some { cls := .type "list", dict := none, data := .seq acc c, slots := #[] } → ItemsOf (fun i v => items[items.size - 1 - i]? = some v) acc items.size →
      Q (.ref s.heap.objs.size) { s with heap := h', toks := tk }) :
    wpAny (model prog w) A (call (.type "list") [.ref it]) Q E s := by
  obtain ⟨oi, hoi, _⟩ := id hit
  obtain ⟨ol, hol, _⟩ := id hl
  have hSi : s.heap.objs.size ≠ it := Nat.ne_of_gt (Heap.lt_size hoi)
  have hSl : s.heap.objs.size ≠ l := Nat.ne_of_gt (Heap.lt_size hol)
  refine callType_codes (Q₁ := fun obj s₁ => obj = .ref s.heap.objs.size ∧ s₁ = { s with heap := s.heap.push { cls := .type "list", data := .seq #[] } }) F.called_list (F.typeCall_list_1 _) F.entry_list_init
    (code_list_new _ ⟨rfl, rfl⟩) fun obj s₁ h₁ => ?_
  obtain ⟨rfl, rfl⟩ := h₁
  have hS : (s.heap.push { cls := .type "list", data := .seq #[] }).get? s.heap.objs.size = some { cls := .type "list", data := .seq #[] } := Heap.get?_push_size _ rfl
  refine ⟨⟨_, hS, rfl⟩, F.args_list_init_2 _ _, ?_⟩
  show wpAny _ A.in1.in1 (do let old ← Builtin.List.listItems (.ref s.heap.objs.size); Builtin.List.listUpdate (.ref s.heap.objs.size) (fun _ => #[]); letGo old.toList.reverse; Builtin.List.listExtendWith (.ref s.heap.objs.size) (.ref it) .none) _ _ _
  refine wpAny_bind ?_
  unfold Builtin.List.listItems
  refine wpAny_bind (wpAny_seqItems hS rfl (wpAny_pure ?_))
  show wpAny _ A.in1.in1 (updateSeq s.heap.objs.size (fun _ => #[]) >>= fun _ => letGo (#[] : Array Value).toList.reverse >>= fun _ => Builtin.List.listExtendWith (.ref s.heap.objs.size) (.ref it) .none) _ _ _
  refine wpAny_bind (wpAny_updateSeq hS rfl ?_)
  have hS₂ := Heap.get?_update_self (Obj.mapSeq (fun _ => (#[] : Array Value))) hS rfl
  have oth : ∀ b o, b ≠ s.heap.objs.size → s.heap.get? b = some o → ((s.heap.push { cls := .type "list", data := .seq #[] }).update s.heap.objs.size (Obj.mapSeq (fun _ => (#[] : Array Value)))).get? b = some o :=
    fun b o hb e => (Heap.get?_update_other _ _ (Ne.symm hb)).trans (Heap.get?_push_of_some _ e)
  refine wpAny_bind (wpAny_letGo ?_)
  have hit1 : ((s.heap.push { cls := .type "list", data := .seq #[] }).update s.heap.objs.size (Obj.mapSeq (fun _ => (#[] : Array Value)))).IsRevIter it l ((items.size : Int) - 1) := hit.at fun o e => oth _ _ (Ne.symm hSi) e
  have hl1 : ((s.heap.push { cls := .type "list", data := .seq #[] }).update s.heap.objs.size (Obj.mapSeq (fun _ => (#[] : Array Value)))).IsList l items := by
    obtain ⟨o, ho, r⟩ := hl
    exact ⟨o, oth _ _ (Ne.symm hSl) ho, r⟩
  refine extend_rev (A := A.in1) (s := { s with heap := (s.heap.push { cls := .type "list", data := .seq #[] }).update s.heap.objs.size (Obj.mapSeq (fun _ => (#[] : Array Value))) }) (R := wants (fun r s₂ => r = .none ∧ Q (.ref s.heap.objs.size) s₂) E) hh hit1 hl1 hne hn _ .none _ hSi hSl hS₂ fun s' acc' c' hm hS' hacc => ?_
  refine ⟨rfl, ?_⟩
  rw [Moved.eq_with hm]
  refine hQ s'.heap s'.toks acc' c' (fun b o hb e => hm.heap b o (fun hmem => ?_) (oth b o ?_ e)) hS' hacc
  · rcases List.mem_cons.mp hmem with e' | hmem
    · exact absurd (Heap.lt_size e) (by rw [e']; exact Nat.lt_irrefl _)
    · exact hb (List.mem_singleton.mp hmem)
  · exact Nat.ne_of_lt (Heap.lt_size e)
end
end RT
namespace L2
open PySem PySem.Spec PyProof.Rows RT
/-- list(reversed(x)), x a list -/
def tLstRev (K : PySem.W.Frag) (te : TE) : TE := fun σ H Q => te σ H fun v H1 => ∃ (a : Addr) (xs : List V), v = .ref a ∧ SqL K H1 a xs ∧ ∀ q, H1 q = none → Q (.ref q) (upd H1 q (.lst xs.reverse))
section
variable {X : Cx}
theorem pe_lstRev {e : Expr} {te : TE} {p p2 pos pos2 : Pos} (hc : X.calm = true) (hg : Gl X "list") (hm : X.mg "list" = none) (hg2 : Gl X "reversed") (hm2 : X.mg "reversed" = none) (he : PE X e te)
    (hs : starEach [e] X.env = (false, eval e X.env) :: starEach [] X.env := by rfl)
    (hs2 : starEach [.Call (.Name "reversed" p2) [e] [] pos2] X.env = (false, eval (.Call (.Name "reversed" p2) [e] [] pos2) X.env) :: starEach [] X.env := by rfl) :
    PE X (.Call (.Name "list" p) [.Call (.Name "reversed" p2) [e] [] pos2] [] pos) (tLstRev X.K te) := by
  refine ⟨fun pins s σ H Q I h => ?_⟩
  refine Call_ (ld_blt I hg hm boot_list (PyProof.Rows.callWith_type1 (args_cons (Call_ (ld_blt I hg2 hm2 PyProof.Rows.boot_reversed (PyProof.Rows.callWith_type1 (args_cons (thn (he.run pins s σ H _ I h) fun u s1 ⟨v, H1, I1, r1, q1⟩ => args_nil ?_) hs) hs rfl))) hs2) hs2 rfl))
  obtain ⟨a, xs, ev, hq, q⟩ := q1
  subst ev
  obtain rfl : u = Value.ref a := r1
  obtain ⟨its, rv, p', hz⟩ := I1.list hq
  refine call_reversed_list p'.isList (args_nil ?_)
  have k0 : ∀ b o, s1.heap.get? b = some o → (s1.heap.push (revObj a ((its.toArray.size : Int) - 1))).get? b = some o := fun b o e => Heap.get?_push_of_some _ e
  have I2 : Inv X pins σ H1 { s1 with heap := s1.heap.push (revObj a ((its.toArray.size : Int) - 1)) } := I1.kept (t' := s1.toks) k0
  obtain ⟨f0, f1, f2, f3, f4, f5⟩ := I1.fpOk (H' := H1) (b := s1.heap.objs.size) (Nat.le_refl _) (I1.hok.fresh (Nat.le_refl _))
  have hl := p'.isList
  obtain ⟨ol, hol, _⟩ := id hl
  have hne : a ≠ s1.heap.objs.size := Nat.ne_of_lt (Heap.lt_size hol)
  have hn : its.toArray.size ≤ sizeLine := by rw [List.size_toArray, ← rv.length]; exact hz
  refine call_list_rev (s := { s1 with heap := s1.heap.push (revObj a ((its.toArray.size : Int) - 1)) }) (I1.ok.hd hc) ⟨_, Heap.get?_push_size _ rfl, rfl, rfl⟩ (hl.push _) hne hn fun h' tk acc c hk hS hi => ?_
  have I3 : Inv X pins σ (upd H1 (s1.heap.push (revObj a ((its.toArray.size : Int) - 1))).objs.size (.lst xs.reverse)) { s1 with heap := h', toks := tk } := by
    refine I2.turnedNew (t' := tk) (ch := [s1.heap.objs.size]) (fun b o hb e => hk b o (fun z => hb (by rw [z]; simp)) e) (fun b hb => ?_) (Nat.le_refl _) ?_
    · rw [List.mem_singleton.mp hb]
      exact ⟨f0, f1, f2, f3, f4, f5⟩
    · exact ⟨by rw [List.length_reverse]; exact hz, acc.toList, c, vals_rev rv hi, by rw [Array.toArray_toList]; exact hS⟩
  exact ⟨.ref _, _, I3, rfl, q _ (I2.hok.fresh (Nat.le_refl _))⟩
end
end L2
end
section
set_option Elab.async false
set_option linter.all false
set_option maxRecDepth 100000
set_option maxHeartbeats 8000000
namespace K81
open PySem PySem.Spec PyProof.Rows L2
theorem kbN {K : PySem.W.Frag} {x qual : Str} {params : Arguments} {body : List Stmt} {scope : Scope} {f : Addr} {fd : FuncData} {ps ks : List Str} {n : Nat} (F : FunD K x qual params body scope [] [] f fd) (g : {α : Type} → List α → List α → List α)
    (hrel : ∀ {vs zs : List V} {us ws : List Value}, Vals vs us → Vals zs ws → Vals (g vs zs) (g us ws))
    (h : ∀ (kV doc pm : Value) (an : Option Addr) (cdv ct : Value) (us ws : List Value), us.length = n → ws.length = ks.length → bindArgs (PySem.W.fnOf x qual params body scope .none kV doc pm an cdv ct) ⟨us, ks.zip ws⟩ = pure (ps.zip (g us ws))) :
    KBn K fd ps n ks (fun us ws => g us ws) (fun vs zs => g vs zs) := by
  obtain ⟨oc, od, dV, kV, doc, pm, an, cdv, ct, osl, rfl, lk, hcd, hD, hK⟩ := F.ex
  rcases hD with ⟨_, rfl⟩ | ⟨e, _⟩
  · exact ⟨fun s us ws _ l1 l2 => .of_eq (h kV doc pm an cdv ct us ws l1 l2), fun r1 r2 => hrel r1 r2⟩
  · exact absurd rfl e
/-- a new quarter of right lists -/
def spQuarter (CQ : Addr) : Sp := fun vs H Q _ => ∃ (l g : Addr) (ts : List (Addr × S5)) (gs : List Str), vs = [.ref l, .ref g] ∧ Sts H l ts ∧ SOk (snds ts) ∧ Ws H g gs ∧ GOk gs ∧
  ∀ q dx l' g' ts' gs' H', Same H H' → H q = none → H l' = none → H g' = none → QuP H' CQ q dx l' g' ts' gs' → ts'.Perm ts → Asc5 (snds ts') → gs'.Perm gs → Asc gs' → Q (.ref q) H'
theorem init_of {CQ : Addr} {H1 : Hp} {vs : List V} {Q : VK} (q : spQuarter CQ vs H1 Q E0) (x dx : Addr) (nx : H1 x = none) (ndx : H1 dx = none) (nex : dx ≠ x) :
    spInitQ CQ (.ref x :: vs) (upd (upd H1 dx (.own x)) x (.ins CQ dx [])) (fun v H2 => v = .non ∧ Q (.ref x) H2) E0 := by
  obtain ⟨l, g, ts, gs, rfl, hl, so, hg, go, q⟩ := q
  have s1 : Same H1 (upd (upd H1 dx (.own x)) x (.ins CQ dx [])) := same_trans (same_upd ndx) (same_upd (by rw [upd_ne (Ne.symm nex)]; exact nx))
  refine ⟨x, dx, l, g, ts, gs, rfl, upd_same, hl.keep s1, so, s1 _ _ hg, go, fun H' l' g' ts' gs' b nl ng hq pt as pg ag => ⟨rfl, ?_⟩⟩
  refine q x dx l' g' ts' gs' H' (fun a o e => b a o (ne_of_none e nx) (s1 _ _ e)) nx (s1.free nl) (s1.free ng) hq pt as pg ag
/-- how a class is made -/
structure MkZ (P : Program) (w : World) (K : PySem.W.Frag) (mg : Str → Option Value) (base : Heap) (x : Str) (C : Addr) (ps : List Str) (ks : List Str) (sp : Sp) : Prop where
  ex : ∃ (f : Addr) (fd : FuncData), Mk K C f ∧ FnOk P w K mg base CX0 6 f fd ps sp ∧ Binds K fd ps []
  mg : mg x = some (.ref C)
section
variable {X : Cx} {x : Str} {C : Addr} {p pos : Pos} {e : Expr} {es : List Expr} {kws : List Keyword} {t tk : TA} {ks : List Str}
theorem pe_qu (Z : MkZ X.prog X.w X.K X.mg X.base "Quarter" C ["self", "streets", "gates"] ks (spInitQ C)) (hr : Room 7 X.A) (hg : Gl X "Quarter") (ha : PA X (e :: es) t)
    (he : starEach (e :: es) X.env = (false, eval e X.env) :: starEach es X.env := by rfl) (hpl : (backTo pos (starEach es X.env)).any (·.1) = false := by rfl) :
    PE X (.Call (.Name "Quarter" p) (e :: es) [] pos) (tCall (spQuarter C) [] E0 t) := by
  obtain ⟨f, fd, M, F, hb⟩ := Z.ex
  refine ⟨fun pins s σ H Q I h => ?_⟩
  refine wpAny_Call_Name_kw (ld_glob I hg Z.mg ?_ (by decide))
  refine PySem.W.callWith_K (h₀ := X.base) I.ok.mod.kin M.kp (thn (ha.run pos pins s σ H _ I h) fun us s1 ⟨vs, H1, I1, r, q⟩ => ⟨I1.kIn, ?_⟩) he hpl
  have q : spQuarter C vs H1 Q E0 := by
    have q' : spQuarter C (vs ++ []) H1 Q E0 := q
    rw [List.append_nil] at q'
    exact q'
  refine run_make M F hr hb (dvs := []) .nil pass0 I1 r fun x dx nx ndx nex => ?_
  rw [List.append_nil]
  exact init_of q x dx nx ndx nex
end
section
variable {P : Program} {w : World} {K : PySem.W.Frag} {mg : Str → Option Value} {base : Heap}
abbrev MkQ (P : Program) (w : World) (K : PySem.W.Frag) (mg : Str → Option Value) (base : Heap) (CQ : Addr) : Prop := MkZ P w K mg base "Quarter" CQ ["self", "streets", "gates"] ["gates", "streets"] (spInitQ CQ)
theorem mkQ_of {CQ f : Addr} {fd : FuncData} (F : FnM K "__init__" "Quarter.__init__" sQInit f fd) (M : Mk K CQ f) (hm : mg "Quarter" = some (.ref CQ)) (G : FnOk P w K mg base CX0 6 f fd ["self", "streets", "gates"] (spInitQ CQ)) : MkQ P w K mg base CQ := by
  exact ⟨⟨f, fd, M, G, FunD.bindsN F fun _ _ _ _ _ _ us hl => match us, hl with | [_, _, _], _ => rfl⟩, hm⟩
end
end K81
end
section
set_option Elab.async false
set_option linter.all false
set_option maxRecDepth 100000
set_option maxHeartbeats 8000000
namespace K81
open PySem PySem.Spec PyProof.Rows L2
/-! ### lists as data -/
theorem dt_sts {H : Hp} : ∀ {ts : List (Addr × S5)}, (∀ t ∈ ts, H t.1 = some (.tup t.2.vals)) → DtAll H (ts.map fun t => V.ref t.1) ((snds ts).map S5.data)
  | [], _ => .nil
  | t :: ts, h => .cons (.tup (h t List.mem_cons_self) (.cons (.str _) (.cons (.str _) (.cons (.str _) (.cons (.int _) (.cons (.int _) .nil)))))) (dt_sts fun u hu => h u (List.mem_cons_of_mem _ hu))
theorem Sts.dt {H : Hp} {l : Addr} {ts : List (Addr × S5)} (h : Sts H l ts) : Dt H (.ref l) (.list ((snds ts).map S5.data)) := .lst h.1 (dt_sts h.2)
theorem dt_strs {H : Hp} : ∀ ws : List Str, DtAll H (ws.map V.str) (ws.map PyData.str)
  | [] => .nil
  | w :: ws => .cons (.str w) (dt_strs ws)
theorem dt_ws {H : Hp} {l : Addr} {gs : List Str} (h : Ws H l gs) : Dt H (.ref l) (.list (gs.map PyData.str)) := .lst h (dt_strs gs)
theorem widAll_sts : ∀ ss : List S5, widAll (ss.map S5.data) ≤ 5
  | [] => by simp [widAll]
  | s :: ss => by
    have ih := widAll_sts ss
    have h : wid s.data ≤ 5 := by simp [S5.data, wid, widAll]
    rw [List.map_cons, widAll]
    omega
theorem widAll_strs : ∀ ws : List Str, widAll (ws.map PyData.str) = 0
  | [] => by simp [widAll]
  | s :: ss => by
    have h : wid (.str s) = 0 := by simp [wid]
    rw [List.map_cons, widAll, widAll_strs ss, h]
    rfl
theorem wid_sts {ss : List S5} (h : ss.length ≤ 1000) : wid (.list (ss.map S5.data)) ≤ 1000 := by
  have := widAll_sts ss
  rw [wid, List.length_map]
  omega
theorem wid_strs {ws : List Str} (h : ws.length ≤ 1000) : wid (.list (ws.map PyData.str)) ≤ 1000 := by
  rw [wid, List.length_map, widAll_strs]
  omega
theorem dep_sts (ss : List S5) : PyData.depth (.list (ss.map S5.data)) ≤ 4 := by
  have := depth_sts ss
  rw [PyData.depth]
  omega
theorem dep_strs (ws : List Str) : PyData.depth (.list (ws.map PyData.str)) ≤ 4 := by
  have := depth_strs ws
  rw [PyData.depth]
  omega
theorem dep_two {a b : PyData} (ha : PyData.depth a ≤ 4) (hb : PyData.depth b ≤ 4) : PyData.depth (.list [a, b]) ≤ 5 := by
  simp only [PyData.depth, PyData.depthAll]
  omega
theorem dep_three {a b c : PyData} (ha : PyData.depth a ≤ 4) (hb : PyData.depth b ≤ 4) (hc : PyData.depth c ≤ 4) : PyData.depth (.list [a, b, c]) ≤ 5 := by
  simp only [PyData.depth, PyData.depthAll]
  omega
theorem wid_two {a b : PyData} (ha : wid a ≤ 1000) (hb : wid b ≤ 1000) : wid (.list [a, b]) ≤ 1000 := by
  simp only [wid, widAll, List.length_cons, List.length_nil]
  omega
theorem wid_three {a b c : PyData} (ha : wid a ≤ 1000) (hb : wid b ≤ 1000) (hc : wid c ≤ 1000) : wid (.list [a, b, c]) ≤ 1000 := by
  simp only [wid, widAll, List.length_cons, List.length_nil]
  omega
/-- q is the quarter of these -/
structure IsQ (H : Hp) (CQ q : Addr) (ss : List S5) (gs : List Str) : Prop where
  ex : ∃ dx l g ts hs, QuP H CQ q dx l g ts hs ∧ (snds ts).Perm ss ∧ Asc5 (snds ts) ∧ hs.Perm gs ∧ Asc hs
  so : SOk ss
  go : GOk gs
theorem IsQ.keep {H H' : Hp} {CQ q : Addr} {ss : List S5} {gs : List Str} (h : IsQ H CQ q ss gs) (s : Same H H') : IsQ H' CQ q ss gs := by
  obtain ⟨⟨dx, l, g, ts, hs, a, r⟩, so, go⟩ := h
  exact ⟨⟨dx, l, g, ts, hs, a.keep s, r⟩, so, go⟩
theorem SOk.perm {ss ss' : List S5} (h : SOk ss) (p : ss'.Perm ss) : SOk ss' := ⟨fun s hs => h.ok s (p.mem_iff.mp hs), (p.map S5.nm).nodup_iff.mpr h.nd, by rw [p.length_eq]; exact h.l⟩
theorem GOk.perm {gs gs' : List Str} (h : GOk gs) (p : gs'.Perm gs) : GOk gs' := ⟨fun s hs => h.wd s (p.mem_iff.mp hs), p.nodup_iff.mpr h.nd, fun e => h.ne (by rw [e] at p; exact p.symm.eq_nil), by rw [p.length_eq]; exact h.l⟩
theorem asc5_eq {ss ss' ts ts' : List S5} (so : SOk ss) (so' : SOk ss') (p : ts.Perm ss) (p' : ts'.Perm ss') (a : Asc5 ts) (a' : Asc5 ts') : ts = ts' ↔ ss.Perm ss' := by
  constructor
  · intro e
    exact p.symm.trans (by rw [e]; exact p')
  · intro h
    exact asc5_uniq (so.perm p).nd (p.trans (h.trans p'.symm)) a a'
theorem asc_eq {ss ss' ts ts' : List Str} (p : ts.Perm ss) (p' : ts'.Perm ss') (a : Asc ts) (a' : Asc ts') : ts = ts' ↔ ss.Perm ss' := by
  constructor
  · intro e
    exact p.symm.trans (by rw [e]; exact p')
  · intro h
    exact asc_uniq (p.trans (h.trans p'.symm)) a a'
theorem at_map {α : Type} {g : α → V} {l : List α} {i : Nat} {x : V} (h : (l.map g)[i]? = some x) : ∃ t, l[i]? = some t ∧ x = g t := by
  rw [List.getElem?_map] at h
  cases e : l[i]? with
  | none =>
    rw [e] at h
    cases h
  | some t =>
    rw [e] at h
    cases h
    exact ⟨t, rfl, rfl⟩
/-- [x for x in ws if x not in (an expression)] -/
theorem lc_notinE {K : PySem.W.Frag} {J : It} {G : Hp → Prop} {ws bs : List Str} (wk : Walk J ws.length G (YAt (ws.map V.str))) {σ : L2.St} {i : Nat} {F D : Addr} {H1 : Hp} {Qd : Hp → Prop} {tb : TE} (nD : H1 D = none) (hG : ∀ H', Same H1 H' → G H')
    (hF : Ws H1 F bs) (hl : ws.length ≤ 1000) (hi : ∀ v, ((wipe σ [i]).set i (some v))[i]? = some (some v)) (hb : ∀ v H' Q, Same H1 H' → Q (.ref F) H' → tb ((wipe σ [i]).set i (some v)) H' Q) (hw : ∀ v, wipe ((wipe σ [i]).set i (some v)) [i] = wipe σ [i])
    (fin : ∀ H', Same H1 H' → Ws H' D (ws.filter fun x => decide (x ∉ bs)) → Qd H') :
    ∃ W : Nat → Nat → Hp → Prop, (∃ m, W 0 m (upd H1 D (.lst []))) ∧ ∀ n m H, W n m H →
      (J.stop n H ∧ Qd H) ∨ (J.go n H ∧ ∃ Nx : Hp → Prop, (∀ H', Nx H' → ∃ m', m' < m ∧ W (n + 1) m' H') ∧ ∀ x H', J.yld n H x H' → gName i x (wipe σ [i]) H' fun σ2 H2 => wipe σ2 [i] = wipe σ [i] ∧ tTest (tOp (rIn K true) (tVar i) tb) σ2 H2 fun b H3 =>
        if b = true then tVar i σ2 H3 fun y H4 => ∃ acc, H4 D = some (.lst acc) ∧ acc.length < sizeLine ∧ Nx (upd H4 D (.lst (acc ++ [y]))) else Nx H3) := by
  have sl := sizeLine_eq
  refine lc_it wk (fun n H' => Same H1 H' ∧ H' D = some (.lst (((ws.take n).filter fun x => decide (x ∉ bs)).map V.str))) ⟨same_upd nD, upd_same⟩ (fun n H' _ h => hG H' h.1) ?_ ?_
  · rintro n x H' H2 hn ⟨s1, hD⟩ ⟨rfl, hx⟩
    obtain ⟨c, hc, rfl⟩ := at_map hx
    have et : ws.take (n + 1) = ws.take n ++ [c] := by
      rw [List.take_add_one, hc]
      rfl
    have ll : ((ws.take n).filter fun x => decide (x ∉ bs)).length ≤ n := Nat.le_trans (List.length_filter_le _ _) (by rw [List.length_take]; omega)
    refine ⟨hw _, _, hi _, hb _ _ _ s1 ⟨F, bs.map V.str, rfl, Or.inl (SqL.of (s1 _ _ hF)), rfl, flat_strs bs, _, rfl, ?_⟩⟩
    rw [inV_str]
    by_cases hb : c ∈ bs
    · refine ifF (by show ¬ (!decide (c ∈ bs)) = true; rw [decide_eq_true hb]; decide) ⟨s1, ?_⟩
      rw [et, List.filter_append]
      simp [hD, hb]
    · refine ifT (by show (!decide (c ∈ bs)) = true; rw [decide_eq_false hb]; rfl) ⟨_, hi _, _, hD, by rw [List.length_map]; omega, fun b o eb => ?_, ?_⟩
      · rw [upd_ne (ne_of_none eb nD)]
        exact s1 _ _ eb
      · rw [upd_same, et, List.filter_append]
        simp [hb]
  · rintro H' ⟨s1, hD⟩
    rw [List.take_length] at hD
    exact fin H' s1 hD
/-- a world at W whose parts aren't the purse -/
structure WoP (H : Hp) (p W ls lg lc ln : Addr) (ts : List (Addr × S5)) (gs cs ns : List Str) : Prop where
  at_ : H W = some (.lst [.ref ls, .ref lg, .ref lc, .ref ln])
  wo : Wo H ls lg lc ln ts gs cs ns
  nW : W ≠ p
  ns_ : ls ≠ p
  ng : lg ≠ p
  nc : lc ≠ p
  nn : ln ≠ p
theorem Sts.but {H H' : Hp} {p l : Addr} {ts : List (Addr × S5)} (h : Sts H l ts) (b : But p H H') (nl : l ≠ p) (hp : ∃ xs, H p = some (.lst xs)) : Sts H' l ts := by
  refine ⟨b _ _ nl h.1, fun t ht => b _ _ (fun e => ?_) (h.2 t ht)⟩
  obtain ⟨xs, hp⟩ := hp
  have e1 := h.2 t ht
  rw [e, hp] at e1
  cases e1
theorem WoP.but {H H' : Hp} {p W ls lg lc ln : Addr} {ts : List (Addr × S5)} {gs cs ns : List Str} (h : WoP H p W ls lg lc ln ts gs cs ns) (b : But p H H') (hp : ∃ xs, H p = some (.lst xs)) : WoP H' p W ls lg lc ln ts gs cs ns := by
  obtain ⟨h1, ⟨s, g, c, n, r1, r2, r3, r4, r5, r6, r7, r8, r9, r10⟩, a, a1, a2, a3, a4⟩ := h
  exact ⟨b _ _ a h1, ⟨s.but b a1 hp, b _ _ a2 g, b _ _ a3 c, b _ _ a4 n, r1, r2, r3, r4, r5, r6, r7, r8, r9, r10⟩, a, a1, a2, a3, a4⟩
theorem WoP.keep {H H' : Hp} {p W ls lg lc ln : Addr} {ts : List (Addr × S5)} {gs cs ns : List Str} (h : WoP H p W ls lg lc ln ts gs cs ns) (b : Same H H') : WoP H' p W ls lg lc ln ts gs cs ns := by
  obtain ⟨h1, ⟨s, g, c, n, r1, r2, r3, r4, r5, r6, r7, r8, r9, r10⟩, a, a1, a2, a3, a4⟩ := h
  exact ⟨b _ _ h1, ⟨s.keep b, b _ _ g, b _ _ c, b _ _ n, r1, r2, r3, r4, r5, r6, r7, r8, r9, r10⟩, a, a1, a2, a3, a4⟩
theorem Pu.lst {H : Hp} {p : Addr} {n : Int} (h : Pu H p n) : ∃ xs, H p = some (.lst xs) := by
  obtain ⟨xs, h, _⟩ := h
  exact ⟨xs, h⟩
theorem Wo.gnd {H : Hp} {ls lg lc ln : Addr} {ts : List (Addr × S5)} {gs cs ns : List Str} (h : Wo H ls lg lc ln ts gs cs ns) : gs.Nodup ∧ (∀ x ∈ gs, x ∈ cs) ∧ gs ≠ [] ∧ gs.length ≤ 5 := by
  obtain ⟨k, k1, k5, kc, rfl⟩ := h.gp
  refine ⟨(List.take_sublist _ _).nodup h.cd, fun x hx => List.mem_of_mem_take hx, fun e => ?_, by rw [List.length_take]; omega⟩
  have := congrArg List.length e
  rw [List.length_take, List.length_nil] at this
  omega
theorem Wo.sok {H : Hp} {ls lg lc ln : Addr} {ts : List (Addr × S5)} {gs cs ns : List Str} (h : Wo H ls lg lc ln ts gs cs ns) : SOk (snds ts) := by
  refine ⟨fun s hs => ?_, ?_, ?_⟩
  · obtain ⟨t, ht, rfl⟩ := List.mem_map.mp hs
    exact (h.ok t ht).1
  · rw [← nms_snds]
    exact h.nd
  · have := h.l2
    have := h.l3
    rw [List.length_map]
    omega
theorem Wo.gok {H : Hp} {ls lg lc ln : Addr} {ts : List (Addr × S5)} {gs cs ns : List Str} (h : Wo H ls lg lc ln ts gs cs ns) : GOk gs := by
  obtain ⟨h1, h2, h3, h4⟩ := h.gnd
  exact ⟨fun x hx => h.cw x (h2 x hx), h1, h3, by omega⟩
theorem nodup_filter_app {α : Type} [DecidableEq α] {cs ws : List α} (h1 : cs.Nodup) (h2 : ws.Nodup) : (cs ++ ws.filter fun x => decide (x ∉ cs)).Nodup :=
  List.nodup_append.mpr ⟨h1, List.filter_sublist.nodup h2, fun x hx y hy e => by
    subst e
    exact of_decide_eq_true (List.mem_filter.mp hy).2 hx⟩
section
variable {P : Program} {w : World} {K : PySem.W.Frag} {mg : Str → Option Value} {base : Heap}
/-- the quarter's part of a world -/
structure Wq (H : Hp) (W ls lg : Addr) (ts : List (Addr × S5)) (gs : List Str) : Prop where
  at_ : ∃ x y, H W = some (.lst [.ref ls, .ref lg, .ref x, .ref y])
  s : Sts H ls ts
  g : Ws H lg gs
  so : SOk (snds ts)
  go : GOk gs
theorem Wq.keep {H H' : Hp} {W ls lg : Addr} {ts : List (Addr × S5)} {gs : List Str} (h : Wq H W ls lg ts gs) (b : Same H H') : Wq H' W ls lg ts gs := by
  obtain ⟨⟨x, y, h1⟩, h2, h3, h4, h5⟩ := h
  exact ⟨⟨x, y, b _ _ h1⟩, h2.keep b, b _ _ h3, h4, h5⟩
theorem WoP.wq {H : Hp} {p W ls lg lc ln : Addr} {ts : List (Addr × S5)} {gs cs ns : List Str} (h : WoP H p W ls lg lc ln ts gs cs ns) : Wq H W ls lg ts gs := ⟨⟨_, _, h.at_⟩, h.wo.s, h.wo.g, h.wo.sok, h.wo.gok⟩
/-! ### _law_quarter -/
def spLQuarter (CQ : Addr) : Sp := fun vs H Q _ => ∃ (W ls lg : Addr) (ts : List (Addr × S5)) (gs : List Str), vs = [.ref W] ∧ Wq H W ls lg ts gs ∧ ∀ q H', Same H H' → H q = none → IsQ H' CQ q (snds ts) gs → Q (.ref q) H'
theorem scLQuarter : FnScope ["_law_world_here"] ["_law_world_here"] (defScope sQuarter) := ⟨rfl, rfl, rfl, by decide +kernel, rfl, by decide +kernel, by decide +kernel⟩
theorem ok_lQuarter {CQ : Addr} {f : Addr} {fd : FuncData} (F : FnP K "_law_quarter" sQuarter f fd) (M : MkQ P w K mg base CQ) (T : Tx K mg) : FnOk P w K mg base CX0 8 f fd ["_law_world_here"] (spLQuarter CQ) := by
  refine F.ok scLQuarter (fun vs H Q E h => ?_) (fun cdv A outer s H vs Q E hr h => ?_)
  · obtain ⟨_, _, _, _, _, rfl, _⟩ := h
    rfl
  · obtain ⟨W, ls, lg, ts, gs, rfl, hW, q⟩ := h
    have gLi := T.fr "list" (by decide +kernel)
    refine ⟨_, PSs.nox (pss_one (ps_ret (pe_qu M hr (by rfl) (pa_cons (pe_callTy call_list_of (by rfl) gLi (by decide +kernel) (pa_cons (pe_ix ix_list (pv 0) pe_int (fun _ _ => rfl)) pa_nil)) (pa_cons (pe_callTy call_list_of (by rfl) gLi (by decide +kernel) (pa_cons (pe_ix ix_list (pv 0) pe_int (fun _ _ => rfl)) pa_nil)) pa_nil))))), ?_⟩
    obtain ⟨⟨x, y, h0⟩, hs, hg, so, go⟩ := hW
    refine ⟨_, rfl, W, _, ((0 : Nat) : Int), _, rfl, rfl, SqL.of h0, atI_nat rfl, ls, _, rfl, Or.inl (SqL.of hs.1), fun D1 n1 => ?_⟩
    have s1 := same_upd (o := .lst (ts.map fun t => V.ref t.1)) n1
    have h1 : Sts (upd H D1 (.lst (ts.map fun t => V.ref t.1))) D1 ts := ⟨upd_same, fun t ht => s1 _ _ (hs.2 t ht)⟩
    generalize upd H D1 (.lst (ts.map fun t => V.ref t.1)) = H1 at s1 h1 ⊢
    refine ⟨_, rfl, W, _, ((1 : Nat) : Int), _, rfl, rfl, SqL.of (s1 _ _ h0), atI_nat rfl, lg, _, rfl, Or.inl (SqL.of (s1 _ _ hg)), fun D2 n2 => ?_⟩
    have s2 := same_upd (o := .lst (gs.map V.str)) n2
    have h2 : Ws (upd H1 D2 (.lst (gs.map V.str))) D2 gs := upd_same
    generalize upd H1 D2 (.lst (gs.map V.str)) = H2 at s2 h2 ⊢
    have s02 := same_trans s1 s2
    exact ⟨D1, D2, ts, gs, rfl, h1.keep s2, so, h2, go, fun q' dx l' g' ts' gs' H' s3 nq _ _ hq pt as pg ag => q q' H' (same_trans s02 s3) (s02.free nq) ⟨⟨dx, l', g', ts', gs', hq, pt.map fun t => t.2, as, pg, ag⟩, so, go⟩⟩
/-! ### == of quarters -/
structure EqZ (P : Program) (w : World) (K : PySem.W.Frag) (mg : Str → Option Value) (base : Heap) (CQ : Addr) : Prop where
  ex : ∃ (iQ eQ sQ gQ : Addr) (fQ : FuncData), Klz K mg CQ iQ eQ sQ gQ ∧ FnOk P w K mg base CX0 1 eQ fQ ["self", "other"] (spEqQ CQ) ∧ Binds K fQ ["self", "other"] []
end
def rQq (CQ : Addr) (neg : Bool) : R2 := fun x y H Q => ∃ (a b : Addr) (ss ss' : List S5) (gs gs' : List Str), x = .ref a ∧ y = .ref b ∧ IsQ H CQ a ss gs ∧ IsQ H CQ b ss' gs' ∧ ∀ k : Bool, (k = true ↔ ss.Perm ss' ∧ gs.Perm gs') → Q (.bl (k != neg)) H
theorem first_self {K : PySem.W.Frag} {C : Addr} : PySem.W.notFirst K C (.ref C) = true := by simp [PySem.W.notFirst]
theorem eq_qq {P : Program} {w : World} {K : PySem.W.Frag} {mg : Str → Option Value} {base : Heap} {CQ iQ eQ sQ gQ : Addr} (Z : Klz K mg CQ iQ eQ sQ gQ) {H : Hp} {x y : V} {Q : VK} {neg : Bool} (h : rQq CQ neg x y H Q) : rOwnEq K CQ (spEqQ CQ) E0 neg x y H Q := by
  obtain ⟨b1, b2, ss, ss2, gs, gs2, rfl, rfl, h, h2, q⟩ := h
  obtain ⟨⟨dx, l, g, ts, hs, hq, pt, as, pg, ag⟩, so, go⟩ := h
  have so' := so.perm pt
  have go' := go.perm pg
  obtain ⟨⟨dx2, l2, g2, ts2, hs2, hq2, pt2, as2, pg2, ag2⟩, so2, go2⟩ := h2
  refine .inl ⟨_, _, _, _, rfl, hq.at_, .ins hq2.at_, first_self, _, _, _, _, _, _, _, rfl, hq, so', go', _, _, _, _, _, _, rfl, hq2, so2.perm pt2, go2.perm pg2, _, rfl, q _ ?_⟩
  rw [decide_eq_true_eq, asc5_eq so so2 pt pt2 as as2, asc_eq pg pg2 ag ag2]
section
variable {X : Cx} {CQ : Addr}
theorem op_qEq (Z : EqZ X.prog X.w X.K X.mg X.base CQ) (hr : Room 1 X.A) : OpR X (compareOp .Eq) (rQq CQ false) := by
  obtain ⟨iQ, eQ, sQ, gQ, fQ, k, F1, b1⟩ := Z.ex
  intro pins s σ H x y v u Q I rx ry h
  exact (op_ownEq F1 k.q.ow b1 pass0 hr) pins s σ H x y v u Q I rx ry (eq_qq (P := X.prog) (w := X.w) (mg := X.mg) (base := X.base) k h)
theorem op_qNe (Z : EqZ X.prog X.w X.K X.mg X.base CQ) (hr : Room 2 X.A) : OpR X (compareOp .NotEq) (rQq CQ true) := by
  obtain ⟨iQ, eQ, sQ, gQ, fQ, k, F1, b1⟩ := Z.ex
  intro pins s σ H x y v u Q I rx ry h
  exact (op_ownNe F1 k.q.ow b1 pass0 hr) pins s σ H x y v u Q I rx ry (eq_qq (P := X.prog) (w := X.w) (mg := X.mg) (base := X.base) k h)
end
end K81
end
section
set_option Elab.async false
set_option linter.all false
set_option maxRecDepth 100000
set_option maxHeartbeats 4000000
namespace H3
open PySem PySem.Spec PyProof.Rows L2
theorem same_upd {H : Hp} {a : Addr} {o : HO} (h : H a = none) : Same H (upd H a o) := fun b u e => by
  rw [upd_ne (ne_of_none e h)]
  exact e
theorem same_trans {A B C : Hp} (x : Same A B) (y : Same B C) : Same A C := fun b u e => y b u (x b u e)
/-- a comprehension over a list: what it makes, told of each item by R -/
theorem lc_gen {α : Type} {K : PySem.W.Frag} {l : Addr} {us : List α} {vf : α → V} {p : α → Bool} {R : α → V → Hp → Prop} {g : TG} {tt : TT} {te : TE} {vs : List Nat} {σ : L2.St} {H1 : Hp} {D : Addr} {Qd : Hp → Prop}
    (nD : H1 D = none) (hl : H1 l = some (.lst (us.map vf))) (hz : us.length < sizeLine) (mono : ∀ u y H H', R u y H → (∀ b o, b ≠ D → H b = some o → H' b = some o) → R u y H')
    (hs : ∀ u ∈ us, ∀ H', Same H1 H' → (∃ acc, H' D = some (.lst acc)) → ∀ (N : V → Hp → Prop) (N0 : Hp → Prop), (p u = true → ∀ y H4, Same H' H4 → R u y H4 → N y H4) → (p u = false → ∀ H3, Same H' H3 → N0 H3) →
      g (vf u) (wipe σ vs) H' fun σ2 H2 => wipe σ2 vs = wipe σ vs ∧ tt σ2 H2 fun b H3 => if b = true then te σ2 H3 N else N0 H3)
    (fin : ∀ H' (zs : List (α × V)), Same H1 H' → H' D = some (.lst (zs.map fun z => z.2)) → (zs.map fun z => z.1) = us.filter p → (∀ z ∈ zs, R z.1 z.2 H') → Qd H') :
    ∃ W : Nat → Nat → Hp → Prop, (∃ m, W 0 m (upd H1 D (.lst []))) ∧ ∀ i m H, W i m H →
      ((Itl K l).stop i H ∧ Qd H) ∨ ((Itl K l).go i H ∧ ∃ Nx : Hp → Prop, (∀ H', Nx H' → ∃ m', m' < m ∧ W (i + 1) m' H') ∧ ∀ x H', (Itl K l).yld i H x H' → g x (wipe σ vs) H' fun σ2 H2 => wipe σ2 vs = wipe σ vs ∧ tt σ2 H2 fun b H3 =>
        if b = true then te σ2 H3 fun y H4 => ∃ acc, H4 D = some (.lst acc) ∧ acc.length < sizeLine ∧ Nx (upd H4 D (.lst (acc ++ [y]))) else Nx H3) := by
  refine lc_list (K := K) (a := l) (xs := us.map vf) (fun n H' => Same H1 H' ∧ ∃ zs : List (α × V), H' D = some (.lst (zs.map fun z => z.2)) ∧ (zs.map fun z => z.1) = (us.take n).filter p ∧ ∀ z ∈ zs, R z.1 z.2 H')
    ⟨same_upd nD, [], upd_same, rfl, fun z h => by simp at h⟩ (fun n H' _ h => SqL.of (h.1 _ _ hl)) ?_ ?_
  · rintro n x H' hn ⟨s1, zs, hD, hz1, hR⟩
    rw [List.getElem?_map] at hn
    cases e : us[n]? with
    | none =>
      rw [e] at hn
      cases hn
    | some u =>
      rw [e] at hn
      cases hn
      have um := List.mem_of_getElem? e
      have lt := (List.getElem?_eq_some_iff.mp e).1
      have et : us.take (n + 1) = us.take n ++ [u] := by
        rw [List.take_add_one, e]
        rfl
      have zl : zs.length ≤ n := by
        have h1 := congrArg List.length hz1
        rw [List.length_map] at h1
        have h2 := List.length_filter_le p (us.take n)
        rw [List.length_take] at h2
        omega
      refine hs u um H' s1 ⟨_, hD⟩ _ _ (fun hp y H4 s4 r => ?_) (fun hp H3 s3 => ?_)
      · have ex : Same H1 (upd H4 D (.lst ((zs.map fun z => z.2) ++ [y]))) := fun b o eb => by
          rw [upd_ne (ne_of_none eb nD)]
          exact s4 _ _ (s1 _ _ eb)
        have bu : ∀ b o, b ≠ D → H4 b = some o → upd H4 D (.lst ((zs.map fun z => z.2) ++ [y])) b = some o := fun b o nb eb => by
          rw [upd_ne nb]
          exact eb
        refine ⟨zs.map fun z => z.2, s4 _ _ hD, by rw [List.length_map]; omega, ex, zs ++ [(u, y)], ?_, ?_, ?_⟩
        · rw [upd_same, List.map_append]
          rfl
        · rw [List.map_append, hz1, et, List.filter_append]
          simp [hp]
        · intro z hz
          rcases List.mem_append.mp hz with h | h
          · exact mono _ _ _ _ (mono _ _ _ _ (hR z h) fun b o _ eb => s4 _ _ eb) bu
          · rw [List.mem_singleton.mp h]
            exact mono _ _ _ _ r bu
      · refine ⟨same_trans s1 s3, zs, s3 _ _ hD, ?_, fun z hz => mono _ _ _ _ (hR z hz) fun b o _ eb => s3 _ _ eb⟩
        rw [hz1, et, List.filter_append]
        simp [hp]
  · rintro H' ⟨s1, zs, hD, hz1, hR⟩
    rw [List.length_map, List.take_length] at hz1
    exact fin H' zs s1 hD hz1 hR
/-- the items are told outright -/
theorem lc_val {α : Type} {K : PySem.W.Frag} {l : Addr} {us : List α} {vf : α → V} {p : α → Bool} {gv : α → V} {g : TG} {tt : TT} {te : TE} {vs : List Nat} {σ : L2.St} {H1 : Hp} {D : Addr} {Qd : Hp → Prop}
    (nD : H1 D = none) (hl : H1 l = some (.lst (us.map vf))) (hz : us.length < sizeLine)
    (hs : ∀ u ∈ us, ∀ H', Same H1 H' → ∀ (N : V → Hp → Prop) (N0 : Hp → Prop), (p u = true → ∀ H4, Same H' H4 → N (gv u) H4) → (p u = false → ∀ H3, Same H' H3 → N0 H3) →
      g (vf u) (wipe σ vs) H' fun σ2 H2 => wipe σ2 vs = wipe σ vs ∧ tt σ2 H2 fun b H3 => if b = true then te σ2 H3 N else N0 H3)
    (fin : ∀ H', Same H1 H' → H' D = some (.lst ((us.filter p).map gv)) → Qd H') :
    ∃ W : Nat → Nat → Hp → Prop, (∃ m, W 0 m (upd H1 D (.lst []))) ∧ ∀ i m H, W i m H →
      ((Itl K l).stop i H ∧ Qd H) ∨ ((Itl K l).go i H ∧ ∃ Nx : Hp → Prop, (∀ H', Nx H' → ∃ m', m' < m ∧ W (i + 1) m' H') ∧ ∀ x H', (Itl K l).yld i H x H' → g x (wipe σ vs) H' fun σ2 H2 => wipe σ2 vs = wipe σ vs ∧ tt σ2 H2 fun b H3 =>
        if b = true then te σ2 H3 fun y H4 => ∃ acc, H4 D = some (.lst acc) ∧ acc.length < sizeLine ∧ Nx (upd H4 D (.lst (acc ++ [y]))) else Nx H3) := by
  refine lc_gen (vf := vf) (p := p) (R := fun u y _ => y = gv u) nD hl hz (fun _ _ _ _ h _ => h) (fun u hu H' s1 _ N N0 h1 h2 => hs u hu H' s1 N N0 (fun hp H4 s4 => h1 hp _ H4 s4 rfl) h2) (fun H' zs s1 hD e hR => fin H' s1 ?_)
  have e2 : (zs.map fun z => z.2) = (zs.map fun z => z.1).map gv := by
    rw [List.map_map]
    exact List.map_congr_left fun z hz => hR z hz
  rw [hD, e2, e]
/-! ### lists of ints as data -/
theorem inV_int (x : Int) (ws : List Int) : inV (.int x) (ws.map V.int) = decide (x ∈ ws) := by
  unfold inV
  induction ws with
  | nil => rfl
  | cons y ws ih =>
    rw [List.map_cons, List.any_cons, ih]
    show ((y == x) || decide (x ∈ ws)) = decide (x ∈ y :: ws)
    by_cases h : y = x
    · subst h
      simp
    · have h' : ¬ x = y := fun e => h e.symm
      simp [h, h']
theorem flat_ints (ws : List Int) : (ws.map V.int).all flatV = true := by
  rw [List.all_map]
  exact List.all_eq_true.mpr fun x _ => rfl
theorem dp_ints {K : PySem.W.Frag} {H : Hp} : ∀ ws : List Int, DpAll K H (ws.map V.int) (ws.map PyData.int)
  | [] => .nil
  | w :: ws => .cons (.int w) (dp_ints ws)
theorem lay_ints : ∀ ws : List Int, PyData.canLayAll0 (ws.map PyData.int) = true
  | [] => rfl
  | w :: ws => by
    have ih := lay_ints ws
    simp [PyData.canLayAll0, PyData.canLay0, ih]
theorem depth_ints : ∀ ws : List Int, PyData.depthAll (ws.map PyData.int) ≤ 1
  | [] => Nat.zero_le _
  | w :: ws => by
    have ih := depth_ints ws
    show max (PyData.depth (.int w)) (PyData.depthAll (ws.map PyData.int)) ≤ 1
    exact Nat.max_le.mpr ⟨by simp [PyData.depth], ih⟩
theorem ints_shaped (ws : List Int) : SeqAt.shaped (.list (ws.map PyData.int)) = true := by
  have h1 : PyData.canLay0 (.list (ws.map PyData.int)) = true := lay_ints ws
  have h2 : PyData.depth (.list (ws.map PyData.int)) ≤ 64 := by
    show PyData.depthAll (ws.map PyData.int) + 1 ≤ 64
    have := depth_ints ws
    omega
  unfold SeqAt.shaped
  rw [h1, decide_eq_true h2]
  rfl
theorem eqvAll_ints : ∀ us vs : List Int, PyData.eqvAll (us.map PyData.int) (vs.map PyData.int) = decide (us = vs)
  | [], [] => by simp [PyData.eqvAll]
  | [], _ :: _ => by simp [PyData.eqvAll]
  | _ :: _, [] => by simp [PyData.eqvAll]
  | a :: ss, b :: ss' => by
    rw [List.map_cons, List.map_cons, PyData.eqvAll, eqvAll_ints ss ss', PyData.eqv]
    by_cases h1 : a = b
    · by_cases h2 : ss = ss'
      · simp [h1, h2]
      · simp [h1, h2]
    · simp [h1]
theorem eqv_ints (us vs : List Int) : PyData.eqv (.list (us.map PyData.int)) (.list (vs.map PyData.int)) = decide (us = vs) := by
  rw [PyData.eqv, eqvAll_ints]
/-! ### lots: ascending lists of positions -/
/-- xs tells ascending positions below n -/
structure Lot (n : Nat) (xs : List Int) : Prop where
  asc : xs.Pairwise (· < ·)
  lo : ∀ x ∈ xs, 0 ≤ x
  hi : ∀ x ∈ xs, x < (n : Int)
theorem asc_ext_int : ∀ {us vs : List Int}, us.Pairwise (· < ·) → vs.Pairwise (· < ·) → (∀ x, x ∈ us ↔ x ∈ vs) → us = vs
  | [], [], _, _, _ => rfl
  | [], b :: vs, _, _, h => by
    have := (h b).mpr List.mem_cons_self
    simp at this
  | a :: us, [], _, _, h => by
    have := (h a).mp List.mem_cons_self
    simp at this
  | a :: us, b :: vs, h1, h2, h => by
    obtain ⟨a1, a2⟩ := List.pairwise_cons.mp h1
    obtain ⟨b1, b2⟩ := List.pairwise_cons.mp h2
    have ab : a = b := by
      rcases List.mem_cons.mp ((h a).mp List.mem_cons_self) with e | m
      · exact e
      · rcases List.mem_cons.mp ((h b).mpr List.mem_cons_self) with e | m2
        · exact e.symm
        · have := b1 a m
          have := a1 b m2
          omega
    subst ab
    rw [asc_ext_int a2 b2 fun x => ?_]
    constructor
    · intro hx
      rcases List.mem_cons.mp ((h x).mp (List.mem_cons_of_mem _ hx)) with e | m
      · have := a1 x hx
        omega
      · exact m
    · intro hx
      rcases List.mem_cons.mp ((h x).mpr (List.mem_cons_of_mem _ hx)) with e | m
      · have := b1 x hx
        omega
      · exact m
/-- the ints 0 .. n - 1 -/
abbrev rgI (n : Nat) : List Int := (List.range n).map fun i : Nat => (i : Int)
theorem rgV_nat (n : Nat) : rgV 0 (n : Int) = (rgI n).map V.int := by
  unfold rgV
  rw [List.map_map]
  have e : ((n : Int) - 0).toNat = n := by omega
  rw [e]
  exact List.map_congr_left fun i _ => by simp
theorem rgI_asc (n : Nat) : (rgI n).Pairwise (· < ·) := by
  rw [List.pairwise_map]
  exact List.pairwise_lt_range.imp fun h => by omega
theorem mem_rgI {n : Nat} {x : Int} : x ∈ rgI n ↔ 0 ≤ x ∧ x < (n : Int) := by
  constructor
  · intro h
    obtain ⟨i, hi, rfl⟩ := List.mem_map.mp h
    have := List.mem_range.mp hi
    omega
  · rintro ⟨h0, h1⟩
    exact List.mem_map.mpr ⟨x.toNat, List.mem_range.mpr (by omega), by omega⟩
theorem rgI_lot (n : Nat) : Lot n (rgI n) := ⟨rgI_asc n, fun x h => (mem_rgI.mp h).1, fun x h => (mem_rgI.mp h).2⟩
theorem Lot.sub {n : Nat} {xs : List Int} (h : Lot n xs) : (rgI n).filter (fun x => decide (x ∈ xs)) = xs := by
  refine asc_ext_int ((rgI_asc n).sublist List.filter_sublist) h.asc fun x => ?_
  rw [List.mem_filter, mem_rgI, decide_eq_true_eq]
  exact ⟨fun z => z.2, fun z => ⟨⟨h.lo x z, h.hi x z⟩, z⟩⟩
theorem Lot.mono {n m : Nat} {xs : List Int} (h : Lot n xs) (k : n ≤ m) : Lot m xs := ⟨h.asc, h.lo, fun x hx => by have := h.hi x hx; omega⟩
theorem Lot.len {n : Nat} {xs : List Int} (h : Lot n xs) : xs.length ≤ n := by
  have e := h.sub
  have h2 := List.length_filter_le (fun x => decide (x ∈ xs)) (rgI n)
  rw [e, List.length_map, List.length_range] at h2
  exact h2
end H3
end
section
set_option Elab.async false
set_option linter.all false
set_option maxRecDepth 100000
set_option maxHeartbeats 4000000
namespace K81
open PySem PySem.Spec PyProof.Rows L2 H3
/-- at D a list of ints -/
abbrev Is (H : Hp) (D : Addr) (xs : List Int) : Prop := H D = some (.lst (xs.map V.int))
section
variable {P : Program} {w : World} {K : PySem.W.Frag} {mg : Str → Option Value} {base : Heap}
/-! ### is_sublist, of a lot -/
def spSub : Sp := fun vs H Q _ => ∃ (v t : Addr) (n : Nat) (xs : List Int), vs = [.ref v, .ref t] ∧ Is H v xs ∧ Is H t (rgI n) ∧ Lot n xs ∧ n ≤ 1000 ∧ ∀ H', Same H H' → Q (.bl true) H'
abbrev NSub : List Str := ["value", "things", "thing"]
theorem scSub : FnScope NSub ["value", "things"] (defScope sSub) := ⟨rfl, rfl, rfl, by decide +kernel, rfl, by decide +kernel, by decide +kernel⟩
theorem ok_sub {f : Addr} {fd : FuncData} (F : FnP K "is_sublist" sSub f fd) (T : Tx K mg) : FnOk P w K mg base CX0 1 f fd ["value", "things"] spSub := by
  refine F.ok scSub (fun vs H Q E h => ?_) (fun cdv A outer s H vs Q E hr h => ?_)
  · obtain ⟨_, _, _, _, rfl, _⟩ := h
    rfl
  · obtain ⟨v, t, n, xs, rfl, hv, ht, lo, n1000, q⟩ := h
    have gIs := T.fr "isinstance" (by decide +kernel)
    have gLi := T.fr "list" (by decide +kernel)
    have sl := sizeLine_eq
    refine ⟨_, PSs.nox (pss_one (ps_ret (pe_and (pe_callB call_isi (by rfl) gIs (by decide +kernel) (pa_cons (pv 0) (pa_cons (pe_bltn (v := .ty "list") (by rfl) gLi (by decide +kernel) rfl) pa_nil)))
      (pe_one (pe_cmpR (op_eqD hr.units) (pv 0) (pe_lc (own := [("thing", 2)]) (g := gName 2) (tt := tTest (tOp (rIn K false) (tVar 2) (tVar 0))) (te := tVar 2) rfl scSub.nd (pi_list (pv 1)) (blkOk_by (own := [("thing", 2)]) (N := NSub) (sc := defScope sSub) (by decide +kernel))
        (fun _ _ _ _ _ => pg_name (i := 2) scSub.nd rfl (Or.inl rfl)) (fun _ _ _ _ _ => pts_one (pt_cmpR op_in_seq (pv 2) (pv 0) rfl)) (fun _ _ _ _ _ => pv 2)) (nomark _)))))), ?_⟩
    refine ⟨_, rfl, _, _, _, _, _, rfl, .ty _, .base (.lst hv), ktr (by decide +kernel), _, rfl, ifT rfl ?_⟩
    refine ⟨_, rfl, _, rfl, t, rfl, ⟨_, SqL.of ht⟩, fun D nD => ?_⟩
    refine lc_val (us := rgI n) (vf := V.int) (p := fun x => decide (x ∈ xs)) (gv := V.int) nD ht (by rw [List.length_map, List.length_range]; omega) (fun u hu H' s1 N N0 h1 h2 => ?_) (fun H' s1 hD => ?_)
    · refine ⟨rfl, _, rfl, _, rfl, v, xs.map V.int, rfl, Or.inl (SqL.of (s1 _ _ hv)), rfl, flat_ints xs, _, rfl, ?_⟩
      rw [inV_int]
      by_cases hx : u ∈ xs
      · exact ifT (by rw [decide_eq_true hx]; rfl) ⟨_, rfl, h1 (decide_eq_true hx) _ (Same.refl _)⟩
      · exact ifF (by rw [decide_eq_false hx]; decide) (h2 (decide_eq_false hx) _ (Same.refl _))
    · rw [lo.sub] at hD
      refine ⟨_, _, .lst (SqL.of (s1 _ _ hv)) (dp_ints xs), .lst (SqL.of hD) (dp_ints xs), ints_shaped xs, ints_shaped xs, ?_⟩
      rw [eqv_ints, decide_eq_true rfl]
      exact q H' s1
/-! ### are_positions, check_positions -/
def spPoss : Sp := fun vs H Q _ => ∃ (v : Addr) (n : Nat) (xs : List Int), vs = [.ref v, .int (n : Int)] ∧ Is H v xs ∧ Lot n xs ∧ n ≤ 1000 ∧ ∀ H', Same H H' → Q (.bl true) H'
abbrev NPos : List Str := ["value", "many", "at"]
theorem scPoss : FnScope NPos ["value", "many"] (defScope sPoss) := ⟨rfl, rfl, rfl, by decide +kernel, rfl, by decide +kernel, by decide +kernel⟩
theorem ok_poss {f : Addr} {fd : FuncData} (F : FnP K "are_positions" sPoss f fd) (GS : Fz P w K mg base "is_sublist" 1 ["value", "things"] spSub) (GC : Fz P w K mg base "is_count" 2 ["value"] spIsCount) (T : Tx K mg) : FnOk P w K mg base CX0 3 f fd ["value", "many"] spPoss := by
  refine F.ok scPoss (fun vs H Q E h => ?_) (fun cdv A outer s H vs Q E hr h => ?_)
  · obtain ⟨_, _, _, rfl, _⟩ := h
    rfl
  · obtain ⟨v, n, xs, rfl, hv, lo, n1000, q⟩ := h
    have gLi := T.fr "list" (by decide +kernel)
    have gR := T.fr "range" (by decide +kernel)
    have gA := T.fr "all" (by decide +kernel)
    have sl := sizeLine_eq
    have ll := lo.len
    refine ⟨_, PSs.nox (pss_one (ps_ret (pe_and (pe_fz GS (hr.mono (by decide)) (by rfl) (pa_cons (pv 0) (pa_cons (pe_listRg rfl (by rfl) gLi (prg_1 (by rfl) gR (pv 1))) pa_nil)))
      (pe_one (pe_callB (cr_all rfl) (by rfl) gA (by decide +kernel) (pa_cons (pe_lc (own := [("at", 2)]) (g := gName 2) (tt := tYes) (te := tCall spIsCount [] E0 (tCons (tVar 2) tNil)) rfl scPoss.nd (pi_list (pv 0)) (blkOk_by (own := [("at", 2)]) (N := NPos) (sc := defScope sPoss) (by decide +kernel))
        (fun _ _ _ _ _ => pg_name (i := 2) scPoss.nd rfl (Or.inl rfl)) (fun _ _ _ _ _ => pts_nil) (fun _ _ _ _ _ => pe_fz GC hr (by rfl) (pa_cons (pv 2) pa_nil))) pa_nil)))))), ?_⟩
    refine ⟨_, rfl, _, rfl, n, rfl, RgOk.of_le (by omega) (by omega) (by omega) (by omega), fun R nR => ?_⟩
    have s1 := same_upd (o := .lst (rgV 0 (n : Int))) nR
    have hR : Is (upd H R (.lst (rgV 0 (n : Int)))) R (rgI n) := by
      show upd H R (.lst (rgV 0 (n : Int))) R = _
      rw [upd_same, rgV_nat]
    generalize upd H R (.lst (rgV 0 (n : Int))) = H1 at s1 hR ⊢
    have hv1 := s1 _ _ hv
    refine ⟨v, R, n, xs, rfl, hv1, hR, lo, n1000, fun H2 s2 => ?_⟩
    have hv2 := s2 _ _ hv1
    refine ⟨_, rfl, ifT rfl ?_⟩
    refine ⟨_, rfl, v, rfl, ⟨_, SqL.of hv2⟩, fun D nD => ?_⟩
    refine lc_val (us := xs) (vf := V.int) (p := fun _ => true) (gv := fun _ => V.bl true) nD hv2 (by omega) (fun u hu H' s3 N N0 h1 h2 => ?_) (fun H' s3 hD => ?_)
    · exact ⟨rfl, _, rfl, u, rfl, lo.lo u hu, h1 rfl _ (Same.refl _)⟩
    · have e : ((xs.filter fun _ => true).map fun _ => V.bl true) = (List.replicate xs.length true).map V.bl := by
        rw [List.filter_eq_self.mpr fun _ _ => rfl, List.map_const', List.map_replicate]
      rw [e] at hD
      refine ⟨D, List.replicate xs.length true, rfl, SqL.of hD, ?_⟩
      have e : (List.replicate xs.length true).all id = true := by simp
      rw [e]
      exact q H' (same_trans s1 (same_trans s2 s3))
def spChkPos : Sp := fun vs H Q _ => ∃ (v : Addr) (n : Nat) (xs : List Int), vs = [.ref v, .int (n : Int)] ∧ Is H v xs ∧ Lot n xs ∧ n ≤ 1000 ∧ ∀ H', Same H H' → Q .non H'
theorem scChkPos : FnScope ["value", "many"] ["value", "many"] (defScope sChkPos) := ⟨rfl, rfl, rfl, by decide +kernel, rfl, by decide +kernel, by decide +kernel⟩
theorem ok_chkPos {f : Addr} {fd : FuncData} (F : FnP K "check_positions" sChkPos f fd) (GP : Fz P w K mg base "are_positions" 3 ["value", "many"] spPoss) (T : Tx K mg) : FnOk P w K mg base CX0 4 f fd ["value", "many"] spChkPos := by
  refine F.ok scChkPos (fun vs H Q E h => ?_) (fun cdv A outer s H vs Q E hr h => ?_)
  · obtain ⟨_, _, _, rfl, _⟩ := h
    rfl
  · obtain ⟨v, n, xs, rfl, hv, lo, n1000, q⟩ := h
    refine ⟨_, PSs.nox (pss_one (ps_if (pt_not (pt_val (pe_fz GP hr (by rfl) (pa_cons (pv 0) (pa_cons (pv 1) pa_nil))))) (pss_one ps_never) pss_nil)), ?_⟩
    exact ⟨_, rfl, _, rfl, v, n, xs, rfl, hv, lo, n1000, fun H' s => ⟨_, rfl, ifF (by decide) (q H' s)⟩⟩
end
end K81
end
section
set_option Elab.async false
set_option linter.all false
set_option maxRecDepth 100000
set_option maxHeartbeats 4000000
namespace K81
open PySem PySem.Spec PyProof.Rows L2 H3
/-- a comprehension that makes streets -/
theorem lc_sts {α : Type} {K : PySem.W.Frag} {l : Addr} {us : List α} {vf : α → V} {p : α → Bool} {fs : α → S5} {g : TG} {tt : TT} {te : TE} {vs : List Nat} {σ : L2.St} {H1 : Hp} {D : Addr} {Qd : Hp → Prop}
    (nD : H1 D = none) (hl : H1 l = some (.lst (us.map vf))) (hz : us.length < sizeLine)
    (hs : ∀ u ∈ us, ∀ H', Same H1 H' → ∀ (N : V → Hp → Prop) (N0 : Hp → Prop), (p u = true → ∀ a H4, Same H' H4 → H4 a = some (.tup (fs u).vals) → N (.ref a) H4) → (p u = false → ∀ H3, Same H' H3 → N0 H3) →
      g (vf u) (wipe σ vs) H' fun σ2 H2 => wipe σ2 vs = wipe σ vs ∧ tt σ2 H2 fun b H3 => if b = true then te σ2 H3 N else N0 H3)
    (fin : ∀ H' (ts : List (Addr × S5)), Same H1 H' → Sts H' D ts → snds ts = (us.filter p).map fs → Qd H') :
    ∃ W : Nat → Nat → Hp → Prop, (∃ m, W 0 m (upd H1 D (.lst []))) ∧ ∀ i m H, W i m H →
      ((Itl K l).stop i H ∧ Qd H) ∨ ((Itl K l).go i H ∧ ∃ Nx : Hp → Prop, (∀ H', Nx H' → ∃ m', m' < m ∧ W (i + 1) m' H') ∧ ∀ x H', (Itl K l).yld i H x H' → g x (wipe σ vs) H' fun σ2 H2 => wipe σ2 vs = wipe σ vs ∧ tt σ2 H2 fun b H3 =>
        if b = true then te σ2 H3 fun y H4 => ∃ acc, H4 D = some (.lst acc) ∧ acc.length < sizeLine ∧ Nx (upd H4 D (.lst (acc ++ [y]))) else Nx H3) := by
  refine lc_gen (vf := vf) (p := p) (R := fun u y H => ∃ a, y = .ref a ∧ a ≠ D ∧ H a = some (.tup (fs u).vals)) nD hl hz (fun u y H H' ⟨a, h1, h2, h3⟩ k => ⟨a, h1, h2, k _ _ h2 h3⟩)
    (fun u hu H' s1 ⟨acc, hD⟩ N N0 h1 h2 => hs u hu H' s1 N N0 (fun hp a H4 s4 ha => h1 hp _ H4 s4 ⟨a, rfl, fun e => ?_, ha⟩) h2) (fun H' zs s1 hD e hR => ?_)
  · have := s4 _ _ hD
    rw [← e, ha] at this
    cases this
  · have key : ∀ zs : List (α × V), (∀ z ∈ zs, ∃ a, z.2 = .ref a ∧ a ≠ D ∧ H' a = some (.tup (fs z.1).vals)) → ∃ ts : List (Addr × S5), (zs.map fun z => z.2) = (ts.map fun t => V.ref t.1) ∧ (∀ t ∈ ts, H' t.1 = some (.tup t.2.vals)) ∧ snds ts = (zs.map fun z => z.1).map fs := by
      intro zs
      induction zs with
      | nil => exact fun _ => ⟨[], rfl, fun t h => by simp at h, rfl⟩
      | cons z zs ih =>
        intro h
        obtain ⟨ts, e1, e2, e3⟩ := ih fun y hy => h y (List.mem_cons_of_mem _ hy)
        obtain ⟨a, ea, _, ha⟩ := h z List.mem_cons_self
        refine ⟨(a, fs z.1) :: ts, ?_, fun t ht => ?_, ?_⟩
        · rw [List.map_cons, List.map_cons, e1, ea]
        · rcases List.mem_cons.mp ht with e | m
          · rw [e]
            exact ha
          · exact e2 t m
        · show fs z.1 :: snds ts = _
          rw [e3]
          rfl
    obtain ⟨ts, e1, e2, e3⟩ := key zs hR
    exact fin H' ts s1 ⟨by rw [hD, e1], e2⟩ (by rw [e3, e])
/-- a street that is shut if its name is one of ns -/
def shutS (ns : List Str) (s : S5) : S5 := if s.nm ∈ ns then { s with wd := 0 } else s
theorem shut_nm (ns : List Str) (s : S5) : (shutS ns s).nm = s.nm := by
  unfold shutS
  split <;> rfl
theorem shut_ok {ns : List Str} {s : S5} (h : s.Ok) : (shutS ns s).Ok := by
  unfold shutS
  split
  · exact ⟨h.1, h.2.1, h.2.2.1, h.2.2.2.1, Int.le_refl 0, (by show (0 : Int) ≤ 9; decide), h.2.2.2.2.2.2⟩
  · exact h
section
variable {P : Program} {w : World} {K : PySem.W.Frag} {mg : Str → Option Value} {base : Heap}
/-! ### set_widths, shut_streets -/
def spSetW : Sp := fun vs H Q _ => ∃ (l n : Addr) (ts : List (Addr × S5)) (ns : List Str), vs = [.ref l, .ref n, .int 0] ∧ Sts H l ts ∧ Ws H n ns ∧ ts.length ≤ 1000 ∧
  ∀ D ts' H', Same H H' → H D = none → Sts H' D ts' → snds ts' = (snds ts).map (shutS ns) → Q (.ref D) H'
abbrev NSW : List Str := ["streets", "names", "number", "name", "start", "end", "width", "length"]
theorem scSetW : FnScope NSW ["streets", "names", "number"] (defScope sSetW) := ⟨rfl, rfl, rfl, by decide +kernel, rfl, by decide +kernel, by decide +kernel⟩
theorem ok_setW {f : Addr} {fd : FuncData} (F : FnP K "set_widths" sSetW f fd) (T : Tx K mg) : FnOk P w K mg base CX0 1 f fd ["streets", "names", "number"] spSetW := by
  refine F.ok scSetW (fun vs H Q E h => ?_) (fun cdv A outer s H vs Q E hr h => ?_)
  · obtain ⟨_, _, _, _, rfl, _⟩ := h
    rfl
  · obtain ⟨l, n, ts, ns, rfl, hl, hn, l1000, q⟩ := h
    have sl := sizeLine_eq
    refine ⟨_, PSs.nox (pss_one (ps_ret (pe_lc (own := [("name", 3), ("start", 4), ("end", 5), ("width", 6), ("length", 7)]) (g := gTup K 5 (gCons (gName 3) (gCons (gName 4) (gCons (gName 5) (gCons (gName 6) (gCons (gName 7) gNil)))))) (tt := tYes) (te := tTup (tCons (tVar 3) (tCons (tVar 4) (tCons (tVar 5) (tCons (tIf (tTest (tOp (rIn K false) (tVar 3) (tVar 1))) (tVar 2) (tVar 6)) (tCons (tVar 7) tNil)))))) rfl scSetW.nd (pi_list (pv 0)) (blkOk_by (own := [("name", 3), ("start", 4), ("end", 5), ("width", 6), ("length", 7)]) (N := NSW) (sc := defScope sSetW) (by decide +kernel))
        (fun _ _ _ _ _ => pg_tup rfl (pgs_cons (pg_name (i := 3) scSetW.nd rfl (Or.inl rfl)) (pgs_cons (pg_name (i := 4) scSetW.nd rfl (Or.inl rfl)) (pgs_cons (pg_name (i := 5) scSetW.nd rfl (Or.inl rfl)) (pgs_cons (pg_name (i := 6) scSetW.nd rfl (Or.inl rfl)) (pgs_cons (pg_name (i := 7) scSetW.nd rfl (Or.inl rfl)) pgs_nil))))))
        (fun _ _ _ _ _ => pts_nil) (fun _ _ _ _ _ => pe_tup (pa_cons (pv 3) (pa_cons (pv 4) (pa_cons (pv 5) (pa_cons (pe_ifExp (pt_cmpR op_in_seq (pv 3) (pv 1) rfl) (pv 2) (pv 6)) (pa_cons (pv 7) pa_nil))))))))), ?_⟩
    refine ⟨_, rfl, l, rfl, ⟨_, SqL.of hl.1⟩, fun D nD => ?_⟩
    refine lc_sts (us := ts) (vf := fun t => V.ref t.1) (p := fun _ => true) (fs := fun t => shutS ns t.2) nD hl.1 (by omega) (fun u hu H' s1 N N0 h1 h2 => ?_) (fun H' ts' s1 hD e => ?_)
    · refine ⟨u.1, _, rfl, SqT.of (s1 _ _ (hl.2 u hu)), rfl, _, _, rfl, _, _, rfl, _, _, rfl, _, _, rfl, _, _, rfl, rfl, rfl, ?_⟩
      refine ⟨_, rfl, _, rfl, _, rfl, _, rfl, _, rfl, n, ns.map V.str, rfl, Or.inl (SqL.of (s1 _ _ hn)), rfl, flat_strs ns, _, rfl, ?_⟩
      rw [inV_str]
      by_cases hx : u.2.nm ∈ ns
      · refine ifT (by rw [decide_eq_true hx]; rfl) ⟨_, rfl, _, rfl, (by show 5 ≤ sizeLine; decide +kernel), fun a na => h1 rfl a _ (same_upd na) ?_⟩
        rw [upd_same]
        unfold shutS
        rw [if_pos hx]
        rfl
      · refine ifF (by rw [decide_eq_false hx]; decide) ⟨_, rfl, _, rfl, (by show 5 ≤ sizeLine; decide +kernel), fun a na => h1 rfl a _ (same_upd na) ?_⟩
        rw [upd_same]
        unfold shutS
        rw [if_neg hx]
        rfl
    · refine q D ts' H' s1 nD hD ?_
      rw [e, List.filter_eq_self.mpr fun _ _ => rfl, List.map_map]
      rfl
def spShut : Sp := fun vs H Q _ => ∃ (l n : Addr) (ts : List (Addr × S5)) (ns : List Str), vs = [.ref l, .ref n] ∧ Sts H l ts ∧ Ws H n ns ∧ ts.length ≤ 1000 ∧
  ∀ D ts' H', Same H H' → H D = none → Sts H' D ts' → snds ts' = (snds ts).map (shutS ns) → Q (.ref D) H'
theorem scShut : FnScope ["streets", "names"] ["streets", "names"] (defScope sShut) := ⟨rfl, rfl, rfl, by decide +kernel, rfl, by decide +kernel, by decide +kernel⟩
theorem ok_shut {f : Addr} {fd : FuncData} (F : FnP K "shut_streets" sShut f fd) (GS : Fz P w K mg base "set_widths" 1 ["streets", "names", "number"] spSetW) : FnOk P w K mg base CX0 2 f fd ["streets", "names"] spShut := by
  refine F.ok scShut (fun vs H Q E h => ?_) (fun cdv A outer s H vs Q E hr h => ?_)
  · obtain ⟨_, _, _, _, rfl, _⟩ := h
    rfl
  · obtain ⟨l, n, ts, ns, rfl, hl, hn, l1000, q⟩ := h
    refine ⟨_, PSs.nox (pss_one (ps_ret (pe_fz GS hr (by rfl) (pa_cons (pv 0) (pa_cons (pv 1) (pa_cons pe_int pa_nil)))))), ?_⟩
    exact ⟨_, rfl, _, rfl, l, n, ts, ns, rfl, hl, hn, l1000, q⟩
end
end K81
end
section
set_option Elab.async false
set_option linter.all false
set_option maxRecDepth 100000
set_option maxHeartbeats 4000000
namespace K81
open PySem PySem.Spec PyProof.Rows L2 H3
/-- the street at a position -/
def sAt (us : List S5) (x : Int) : S5 := us.getD x.toNat ⟨"", "", "", 0, 0⟩
def nmsAt (us : List S5) (xs : List Int) : List Str := xs.map fun x => (sAt us x).nm
theorem sAt_of {us : List S5} {n : Nat} {s : S5} (h : us[n]? = some s) : sAt us (n : Int) = s := by
  unfold sAt
  rw [Int.toNat_natCast, List.getD_eq_getElem?_getD, h]
  rfl
theorem lot_at {us : List S5} {xs : List Int} (lo : Lot us.length xs) {x : Int} (hx : x ∈ xs) : ∃ n : Nat, x = (n : Int) ∧ us[n]? = some (sAt us x) := by
  have h0 := lo.lo x hx
  have h1 := lo.hi x hx
  obtain ⟨n, rfl⟩ := Int.eq_ofNat_of_zero_le h0
  have lt : n < us.length := by omega
  exact ⟨n, rfl, by rw [sAt_of (List.getElem?_eq_getElem lt), List.getElem?_eq_getElem lt]⟩
theorem lot_mem {us : List S5} {xs : List Int} (lo : Lot us.length xs) {x : Int} (hx : x ∈ xs) : sAt us x ∈ us := by
  obtain ⟨n, _, h⟩ := lot_at lo hx
  exact List.mem_of_getElem? h
theorem nm_inj {us : List S5} (nd : (nms us).Nodup) {xs ys : List Int} (lx : Lot us.length xs) (ly : Lot us.length ys) {x y : Int} (hx : x ∈ xs) (hy : y ∈ ys) (e : (sAt us x).nm = (sAt us y).nm) : x = y := by
  obtain ⟨n, rfl, h1⟩ := lot_at lx hx
  obtain ⟨m, rfl, h2⟩ := lot_at ly hy
  have k1 : (nms us)[n]? = some (sAt us n).nm := by
    show (us.map S5.nm)[n]? = _
    rw [List.getElem?_map, h1]
    rfl
  have k2 : (nms us)[m]? = some (sAt us n).nm := by
    show (us.map S5.nm)[m]? = _
    rw [List.getElem?_map, h2, e]
    rfl
  have lt : n < (nms us).length := (List.getElem?_eq_some_iff.mp k1).1
  have := (List.getElem?_inj lt nd).mp (k1.trans k2.symm)
  omega
theorem nmsAt_nodup {us : List S5} (nd : (nms us).Nodup) {xs : List Int} (lx : Lot us.length xs) : (nmsAt us xs).Nodup := by
  unfold nmsAt
  rw [List.nodup_iff_pairwise_ne, List.pairwise_map]
  refine List.Pairwise.imp_of_mem (fun {a b} ha hb hab e => ?_) lx.asc
  have := nm_inj nd lx lx ha hb e
  omega
/-- the streets while works are done -/
def whileS (ss us : List S5) (xs ys : List Int) : List S5 := ((ss.map (shutS (nmsAt us ys))).filter fun s => decide (s.nm ∉ nmsAt us xs)) ++ xs.map (sAt us)
/-- the same as the law has it -/
def doneS (ss us : List S5) (xs ys : List Int) : List S5 := ((ss.filter fun s => decide (s.nm ∉ nmsAt us xs)) ++ xs.map (sAt us)).map (shutS (nmsAt us ys))
theorem filter_map_shut (ns ms : List Str) : ∀ ss : List S5, ((ss.map (shutS ms)).filter fun s => decide (s.nm ∉ ns)) = (ss.filter fun s => decide (s.nm ∉ ns)).map (shutS ms)
  | [] => rfl
  | s :: ss => by
    rw [List.map_cons, List.filter_cons, List.filter_cons, filter_map_shut ns ms ss, shut_nm]
    split <;> rfl
theorem done_while {ss us : List S5} {xs ys : List Int} (nd : (nms us).Nodup) (lx : Lot us.length xs) (ly : Lot us.length ys) (dj : ∀ y ∈ ys, y ∉ xs) : doneS ss us xs ys = whileS ss us xs ys := by
  unfold doneS whileS
  rw [List.map_append, filter_map_shut]
  congr 1
  rw [List.map_map]
  refine List.map_congr_left fun x hx => ?_
  show shutS _ (sAt us x) = sAt us x
  unfold shutS
  rw [if_neg]
  intro h
  obtain ⟨y, hy, e⟩ := List.mem_map.mp h
  have := nm_inj nd ly lx hy hx e
  subst this
  exact dj y hy hx
theorem while_perm {ss ss' us : List S5} {xs ys : List Int} (p : ss'.Perm ss) : (whileS ss' us xs ys).Perm (whileS ss us xs ys) := ((p.map _).filter _).append_right _
theorem while_ok {ss us : List S5} {xs ys : List Int} (so : SOk ss) (uo : SOk us) (lx : Lot us.length xs) (h60 : ss.length + us.length ≤ 60) : SOk (whileS ss us xs ys) := by
  refine ⟨fun s hs => ?_, ?_, ?_⟩
  · rcases List.mem_append.mp hs with h | h
    · obtain ⟨s', hs', rfl⟩ := List.mem_map.mp (List.mem_filter.mp h).1
      exact shut_ok (so.ok s' hs')
    · obtain ⟨x, hx, rfl⟩ := List.mem_map.mp h
      exact uo.ok _ (lot_mem lx hx)
  · show (List.map S5.nm (whileS ss us xs ys)).Nodup
    unfold whileS
    rw [List.map_append, filter_map_shut, List.map_map]
    have e : ((ss.filter fun s => decide (s.nm ∉ nmsAt us xs)).map (S5.nm ∘ shutS (nmsAt us ys))) = (ss.filter fun s => decide (s.nm ∉ nmsAt us xs)).map S5.nm := List.map_congr_left fun s _ => shut_nm _ s
    rw [e, List.map_map]
    refine List.nodup_append.mpr ⟨(List.filter_sublist.map S5.nm).nodup so.nd, nmsAt_nodup uo.nd lx, fun a ha b hb e => ?_⟩
    subst e
    obtain ⟨s, hs, rfl⟩ := List.mem_map.mp ha
    exact of_decide_eq_true (List.mem_filter.mp hs).2 hb
  · unfold whileS
    have h1 := List.length_filter_le (fun s : S5 => decide (s.nm ∉ nmsAt us xs)) (ss.map (shutS (nmsAt us ys)))
    have h2 := lx.len
    rw [List.length_append, List.length_map]
    rw [List.length_map] at h1
    omega
theorem snds_len {ts : List (Addr × S5)} : (snds ts).length = ts.length := List.length_map _
theorem at_snds {ws : List (Addr × S5)} {n : Nat} {s : S5} (h : (snds ws)[n]? = some s) : ∃ a, ws[n]? = some (a, s) := by
  rw [show (snds ws) = ws.map fun t => t.2 from rfl, List.getElem?_map] at h
  cases e : ws[n]? with
  | none =>
    rw [e] at h
    cases h
  | some t =>
    rw [e] at h
    cases h
    exact ⟨t.1, rfl⟩
end K81
end
section
set_option Elab.async false
set_option linter.all false
set_option maxRecDepth 100000
set_option maxHeartbeats 4000000
namespace K81
open PySem PySem.Spec PyProof.Rows L2 H3
/-- the methods and the class as they are called -/
structure Ms (P : Program) (w : World) (K : PySem.W.Frag) (mg : Str → Option Value) (base : Heap) (CQ : Addr) : Prop where
  qs : Mz P w K mg base CQ "streets" 1 (spFld CQ "_streets")
  qg : Mz P w K mg base CQ "gates" 1 (spFld CQ "_gates")
  mq : MkQ P w K mg base CQ
section
variable {P : Program} {w : World} {K : PySem.W.Frag} {mg : Str → Option Value} {base : Heap}
/-- what the works' functions are handed -/
structure Wk (H : Hp) (CQ q l a b : Addr) (ss : List S5) (gs : List Str) (ws : List (Addr × S5)) (xs ys : List Int) : Prop where
  q : IsQ H CQ q ss gs
  l : Sts H l ws
  wo : SOk (snds ws)
  a : Is H a xs
  lx : Lot (snds ws).length xs
  b : Is H b ys
  ly : Lot (snds ws).length ys
  len : ss.length + ws.length ≤ 60
theorem Wk.keep {H H' : Hp} {CQ q l a b : Addr} {ss : List S5} {gs : List Str} {ws : List (Addr × S5)} {xs ys : List Int} (h : Wk H CQ q l a b ss gs ws xs ys) (s : Same H H') : Wk H' CQ q l a b ss gs ws xs ys := ⟨h.q.keep s, h.l.keep s, h.wo, s _ _ h.a, h.lx, s _ _ h.b, h.ly, h.len⟩
def spWhile (CQ : Addr) : Sp := fun vs H Q _ => ∃ (q l a b : Addr) (ss : List S5) (gs : List Str) (ws : List (Addr × S5)) (xs ys : List Int), vs = [.ref q, .ref l, .ref a, .ref b] ∧ Wk H CQ q l a b ss gs ws xs ys ∧
  ∀ q' H', Same H H' → H q' = none → IsQ H' CQ q' (whileS ss (snds ws) xs ys) gs → Q (.ref q') H'
abbrev NWh : List Str := ["quarter", "works", "done", "now", "ready", "names", "streets", "at", "street"]
theorem scWhile : FnScope NWh ["quarter", "works", "done", "now"] (defScope sWhile) := ⟨rfl, rfl, rfl, by decide +kernel, rfl, by decide +kernel, by decide +kernel⟩
/-- works[at] -/
theorem ix_work {H : Hp} {l : Addr} {ws : List (Addr × S5)} {xs : List Int} (hl : Sts H l ws) (lo : Lot (snds ws).length xs) {x : Int} (hx : x ∈ xs) : ∃ (n : Nat) (t : Addr), x = (n : Int) ∧ (ws.map fun t => V.ref t.1)[n]? = some (.ref t) ∧ H t = some (.tup (sAt (snds ws) x).vals) := by
  obtain ⟨n, rfl, h⟩ := lot_at lo hx
  obtain ⟨t, ht⟩ := at_snds h
  refine ⟨n, t, rfl, ?_, hl.2 _ (List.mem_of_getElem? ht)⟩
  rw [List.getElem?_map, ht]
  rfl
theorem ok_while {CQ : Addr} {f : Addr} {fd : FuncData} (F : FnP K "quarter_while" sWhile f fd) (M : Ms P w K mg base CQ) (GS : Fz P w K mg base "shut_streets" 2 ["streets", "names"] spShut) : FnOk P w K mg base CX0 8 f fd ["quarter", "works", "done", "now"] (spWhile CQ) := by
  refine F.ok scWhile (fun vs H Q E h => ?_) (fun cdv A outer s H vs Q E hr h => ?_)
  · obtain ⟨_, _, _, _, _, _, _, _, _, rfl, _⟩ := h
    rfl
  · obtain ⟨q, l, a, b, ss, gs, ws, xs, ys, rfl, ⟨hq, hl, wo, ha, lx, hb, ly, h60⟩, z⟩ := h
    have sl := sizeLine_eq
    have r1 : Room 1 (A.deeper (envOfC "quarter_while" (defScope sWhile) s.heap.objs.size f cdv)) := hr.mono (by decide)
    have r2 : Room 2 (A.deeper (envOfC "quarter_while" (defScope sWhile) s.heap.objs.size f cdv)) := hr.mono (by decide)
    refine ⟨_, PSs.nox (pss_cons (ps_setLc (i := 4) (own := [("at", 7)]) (g := gName 7) (tt := tYes) (te := tOp (rIxL K) (tVar 1) (tVar 7)) rfl scWhile.nd rfl rfl (sw_true rfl rfl rfl (by decide +kernel)) (pi_list (pv 2)) (blkOk_by (own := [("at", 7)]) (N := NWh) (sc := defScope sWhile) (by decide +kernel))
        (fun _ _ _ _ _ => pg_name (i := 7) scWhile.nd rfl (Or.inl rfl)) (fun _ _ _ _ _ => pts_nil) (fun _ _ _ _ _ => pe_ix ix_list (pv 1) (pv 7) (fun _ _ => rfl)))
      (pss_cons (ps_set (i := 5) scWhile.nd rfl (Or.inr rfl) (pe_lc (own := [("street", 8)]) (g := gName 8) (tt := tYes) (te := tOp (rIxT K) (tVar 8) (tC (.int ((0 : Nat) : Int)))) rfl scWhile.nd (pi_list (pv 4)) (blkOk_by (own := [("street", 8)]) (N := NWh) (sc := defScope sWhile) (by decide +kernel))
        (fun _ _ _ _ _ => pg_name (i := 8) scWhile.nd rfl (Or.inl rfl)) (fun _ _ _ _ _ => pts_nil) (fun _ _ _ _ _ => pe_ix ix_tup (pv 8) pe_int (fun _ _ => rfl))))
      (pss_cons (ps_set (i := 6) scWhile.nd rfl (Or.inl rfl) (pe_fz GS r2 (by rfl) (pa_cons (pe_mz M.qs (pv 0) r1) (pa_cons
        (pe_lc (own := [("at", 7)]) (g := gName 7) (tt := tYes) (te := tOp (rIxT K) (tOp (rIxL K) (tVar 1) (tVar 7)) (tC (.int ((0 : Nat) : Int)))) rfl scWhile.nd (pi_list (pv 3)) (blkOk_by (own := [("at", 7)]) (N := NWh) (sc := defScope sWhile) (by decide +kernel))
          (fun _ _ _ _ _ => pg_name (i := 7) scWhile.nd rfl (Or.inl rfl)) (fun _ _ _ _ _ => pts_nil) (fun _ _ _ _ _ => pe_ix ix_tup (pe_ix ix_list (pv 1) (pv 7) (fun _ _ => rfl)) pe_int (fun _ _ => rfl))) pa_nil))))
      (pss_one (ps_ret (pe_qu M.mq hr (by rfl) (pa_cons (pe_op op_cat (pe_lc (own := [("street", 8)]) (g := gName 8) (tt := tTest (tOp (rIn K true) (tOp (rIxT K) (tVar 8) (tC (.int ((0 : Nat) : Int)))) (tVar 5))) (te := tVar 8) rfl scWhile.nd (pi_list (pv 6)) (blkOk_by (own := [("street", 8)]) (N := NWh) (sc := defScope sWhile) (by decide +kernel))
          (fun _ _ _ _ _ => pg_name (i := 8) scWhile.nd rfl (Or.inl rfl)) (fun _ _ _ _ _ => pts_one (pt_cmpR op_notIn_seq (pe_ix ix_tup (pv 8) pe_int (fun _ _ => rfl)) (pv 5) rfl)) (fun _ _ _ _ _ => pv 8)) (pv 4)) (pa_cons (pe_mz M.qg (pv 0) r1) pa_nil)))))))), ?_⟩
    have x100 := lx.len
    have y100 := ly.len
    rw [snds_len] at x100 y100
    -- ready
    refine ⟨_, rfl, a, rfl, ⟨_, SqL.of ha⟩, fun D1 n1 => ?_⟩
    refine lc_sts (us := xs) (vf := V.int) (p := fun _ => true) (fs := sAt (snds ws)) n1 ha (by omega) (fun x hx H' s1 N N0 h1 h2 => ?_) (fun H1 tr s1 hD1 e1 => ?_)
    · obtain ⟨n, t, rfl, e, ht⟩ := ix_work (hl.keep s1) lx hx
      exact ⟨rfl, _, rfl, _, rfl, l, _, ((n : Nat) : Int), _, rfl, rfl, SqL.of (s1 _ _ hl.1), atI_nat e, h1 rfl t _ (Same.refl _) ht⟩
    rw [List.filter_eq_self.mpr fun _ _ => rfl] at e1
    have tl : tr.length = xs.length := by rw [← snds_len (ts := tr), e1, List.length_map]
    -- names
    refine ⟨_, rfl, D1, rfl, ⟨_, SqL.of hD1.1⟩, fun D2 n2 => ?_⟩
    refine lc_val (us := tr) (vf := fun t => V.ref t.1) (p := fun _ => true) (gv := fun t => V.str t.2.nm) n2 hD1.1 (by omega) (fun t ht H' s2 N N0 h1 h2 => ?_) (fun H2 s2 hD2 => ?_)
    · exact ⟨rfl, _, rfl, t.1, _, ((0 : Nat) : Int), _, rfl, rfl, SqT.of (s2 _ _ (hD1.2 t ht)), atI_nat rfl, h1 rfl _ (Same.refl _)⟩
    have hN : Ws H2 D2 (nmsAt (snds ws) xs) := by
      show H2 D2 = _
      rw [hD2, List.filter_eq_self.mpr fun _ _ => rfl]
      have e2 : nmsAt (snds ws) xs = tr.map fun t => t.2.nm := by
        unfold nmsAt
        have : xs.map (fun x => (sAt (snds ws) x).nm) = (xs.map (sAt (snds ws))).map S5.nm := by rw [List.map_map]; rfl
        rw [this, ← e1, nms_snds]
      rw [e2, List.map_map]
      rfl
    clear hD2
    have s02 := same_trans s1 s2
    have hq2 := hq.keep s02
    have hl2 := hl.keep s02
    have hb2 := s02 _ _ hb
    have hD12 := hD1.keep s2
    obtain ⟨⟨dx, ml, mg', mts, mgs, hqp, pt, as, pg, ag⟩, so, go⟩ := hq2
    -- streets
    refine ⟨_, rfl, q, dx, _, rfl, hqp.at_, rfl, q, dx, ml, _, _, rfl, hqp.at_, rfl, hqp.s.1, fun D3 n3 => ?_⟩
    have s3 := same_upd (o := .lst (mts.map fun t => V.ref t.1)) n3
    have hD3 : Sts (upd H2 D3 (.lst (mts.map fun t => V.ref t.1))) D3 mts := ⟨upd_same, fun t ht => s3 _ _ (hqp.s.2 t ht)⟩
    generalize upd H2 D3 (.lst (mts.map fun t => V.ref t.1)) = H3 at s3 hD3 ⊢
    refine ⟨_, rfl, b, rfl, ⟨_, SqL.of (s3 _ _ hb2)⟩, fun D4 n4 => ?_⟩
    refine lc_val (us := ys) (vf := V.int) (p := fun _ => true) (gv := fun y => V.str (sAt (snds ws) y).nm) n4 (s3 _ _ hb2) (by omega) (fun y hy H' s4 N N0 h1 h2 => ?_) (fun H4 s4 hD4 => ?_)
    · obtain ⟨n, t, rfl, e, ht⟩ := ix_work ((hl2.keep s3).keep s4) ly hy
      exact ⟨rfl, _, rfl, _, rfl, l, _, ((n : Nat) : Int), _, rfl, rfl, SqL.of ((hl2.keep s3).keep s4).1, atI_nat e, t, _, ((0 : Nat) : Int), _, rfl, rfl, SqT.of ht, atI_nat rfl, h1 rfl _ (Same.refl _)⟩
    have hM : Ws H4 D4 (nmsAt (snds ws) ys) := by
      show H4 D4 = _
      rw [hD4, List.filter_eq_self.mpr fun _ _ => rfl]
      unfold nmsAt
      rw [List.map_map]
      rfl
    clear hD4
    have ml60 : mts.length ≤ 60 := by
      have := (so.perm pt).l
      rw [snds_len] at this
      exact this
    refine ⟨D3, D4, mts, _, rfl, hD3.keep s4, hM, by omega, fun D5 t5 H5 s5 n5 hD5 e5 => ?_⟩
    have s25 := same_trans s3 (same_trans s4 s5)
    have t5l : t5.length = mts.length := by rw [← snds_len (ts := t5), e5, List.length_map, snds_len]
    -- the new one
    refine ⟨_, rfl, D5, rfl, ⟨_, SqL.of hD5.1⟩, fun D6 n6 => ?_⟩
    refine lc_sts (us := t5) (vf := fun t => V.ref t.1) (p := fun t => decide (t.2.nm ∉ nmsAt (snds ws) xs)) (fs := fun t => t.2) n6 hD5.1 (by omega) (fun t ht H' s6 N N0 h1 h2 => ?_) (fun H6 t6 s6 hD6 e6 => ?_)
    · refine ⟨rfl, _, rfl, t.1, _, ((0 : Nat) : Int), _, rfl, rfl, SqT.of (s6 _ _ (hD5.2 t ht)), atI_nat rfl, _, rfl, D2, (nmsAt (snds ws) xs).map V.str, rfl, Or.inl (SqL.of (s6 _ _ (s25 _ _ hN))), rfl, flat_strs _, _, rfl, ?_⟩
      rw [inV_str]
      by_cases hx : t.2.nm ∈ nmsAt (snds ws) xs
      · exact ifF (by rw [decide_eq_true hx]; decide) (h2 (decide_eq_false fun z => z hx) _ (Same.refl _))
      · exact ifT (by rw [decide_eq_false hx]; rfl) ⟨_, rfl, h1 (decide_eq_true hx) _ _ (Same.refl _) (s6 _ _ (hD5.2 t ht))⟩
    have s26 := same_trans s25 s6
    have hr6 := hD12.keep s26
    have e7 : snds (t6 ++ tr) = whileS (snds mts) (snds ws) xs ys := by
      unfold whileS
      rw [show snds (t6 ++ tr) = snds t6 ++ snds tr from List.map_append, e6, e1, ← e5]
      rw [show snds t5 = t5.map fun t => t.2 from rfl, List.filter_map]
      rfl
    have ml : mts.length = ss.length := by rw [← snds_len (ts := mts), pt.length_eq]
    have ok7 : SOk (snds (t6 ++ tr)) := by
      rw [e7]
      exact while_ok (so.perm pt) wo lx (by rw [snds_len, snds_len]; omega)
    have l7 := ok7.l
    rw [snds_len, List.length_append] at l7
    refine ⟨_, rfl, D6, D1, _, _, rfl, rfl, hD6.1, hr6.1, by rw [List.length_map, List.length_map]; omega, fun D7 n7 => ?_⟩
    have s7 := same_upd (o := .lst ((t6.map fun t => V.ref t.1) ++ tr.map fun t => V.ref t.1)) n7
    have hD7 : Sts (upd H6 D7 (.lst ((t6.map fun t => V.ref t.1) ++ tr.map fun t => V.ref t.1))) D7 (t6 ++ tr) := ⟨by rw [upd_same, List.map_append], fun t ht => s7 _ _ (by
      rcases List.mem_append.mp ht with h | h
      · exact hD6.2 t h
      · exact hr6.2 t h)⟩
    generalize upd H6 D7 (.lst ((t6.map fun t => V.ref t.1) ++ tr.map fun t => V.ref t.1)) = H7 at s7 hD7 ⊢
    have s27 := same_trans s26 s7
    have hq7 := hqp.keep s27
    refine ⟨_, rfl, q, dx, _, rfl, hq7.at_, rfl, q, dx, mg', _, _, rfl, hq7.at_, rfl, hq7.g, fun D8 n8 => ?_⟩
    have s8 := same_upd (o := .lst (mgs.map V.str)) n8
    have hD8 : Ws (upd H7 D8 (.lst (mgs.map V.str))) D8 mgs := upd_same
    generalize upd H7 D8 (.lst (mgs.map V.str)) = H8 at s8 hD8 ⊢
    refine ⟨D7, D8, t6 ++ tr, mgs, rfl, hD7.keep s8, ok7, hD8, go.perm pg, fun q' dx' l' g' ts' gs' H' s9 nq _ _ hq' pt' as' pg' ag' => ?_⟩
    have s08 := same_trans s02 (same_trans s27 s8)
    refine z q' H' (same_trans s08 s9) (s08.free nq) ⟨⟨dx', l', g', ts', gs', hq', ?_, as', pg'.trans pg, ag'⟩, while_ok so wo lx (by rw [snds_len]; omega), go⟩
    refine (pt'.map fun t => t.2).trans ?_
    show (snds (t6 ++ tr)).Perm _
    rw [e7]
    exact while_perm pt
end
end K81
end
section
set_option Elab.async false
set_option linter.all false
set_option maxRecDepth 100000
set_option maxHeartbeats 4000000
namespace K81
open PySem PySem.Spec PyProof.Rows L2 H3
section
variable {P : Program} {w : World} {K : PySem.W.Frag} {mg : Str → Option Value} {base : Heap}
def spDuring (CQ : Addr) : Sp := fun vs H Q _ => ∃ (q l a b : Addr) (ss : List S5) (gs : List Str) (ws : List (Addr × S5)) (xs ys : List Int), vs = [.ref q, .ref l, .ref a, .ref b] ∧ Wk H CQ q l a b ss gs ws xs ys ∧ (∀ y ∈ ys, y ∉ xs) ∧
  ∀ q' H', Same H H' → H q' = none → IsQ H' CQ q' (whileS ss (snds ws) xs ys) gs → Q (.ref q') H'
abbrev NDu : List Str := ["quarter", "works", "lot", "now", "at"]
theorem scDuring : FnScope NDu ["quarter", "works", "lot", "now"] (defScope sDuring) := ⟨rfl, rfl, rfl, by decide +kernel, rfl, by decide +kernel, by decide +kernel⟩
theorem ok_during {CQ : Addr} {f : Addr} {fd : FuncData} (F : FnP K "during" sDuring f fd) (GQ : Fz P w K mg base "check_quarter" 1 ["value"] (spIns CQ)) (GS : Fz P w K mg base "check_streets" 5 ["value"] (spChkStreets K)) (GP : Fz P w K mg base "check_positions" 4 ["value", "many"] spChkPos)
    (GW : Fz P w K mg base "quarter_while" 8 ["quarter", "works", "done", "now"] (spWhile CQ)) (T : Tx K mg) : FnOk P w K mg base CX0 9 f fd ["quarter", "works", "lot", "now"] (spDuring CQ) := by
  refine F.ok scDuring (fun vs H Q E h => ?_) (fun cdv A outer s H vs Q E hr h => ?_)
  · obtain ⟨_, _, _, _, _, _, _, _, _, rfl, _⟩ := h
    rfl
  · obtain ⟨q, l, a, b, ss, gs, ws, xs, ys, rfl, W0, dj, z⟩ := h
    have sl := sizeLine_eq
    have gL := T.fr "len" (by decide +kernel)
    have gAny := T.fr "any" (by decide +kernel)
    have r1 : Room 1 (A.deeper (envOfC "during" (defScope sDuring) s.heap.objs.size f cdv)) := hr.mono (by decide)
    have r4 : Room 4 (A.deeper (envOfC "during" (defScope sDuring) s.heap.objs.size f cdv)) := hr.mono (by decide)
    have r5 : Room 5 (A.deeper (envOfC "during" (defScope sDuring) s.heap.objs.size f cdv)) := hr.mono (by decide)
    refine ⟨_, PSs.nox (pss_cons (ps_expr (pe_fz GQ r1 (by rfl) (pa_cons (pv 0) pa_nil)))
      (pss_cons (ps_expr (pe_fz GS r5 (by rfl) (pa_cons (pv 1) pa_nil)))
      (pss_cons (ps_expr (pe_fz GP r4 (by rfl) (pa_cons (pv 2) (pa_cons (pe_callB call_len_seq (by rfl) gL PySem.boot_len (pa_cons (pv 1) pa_nil)) pa_nil))))
      (pss_cons (ps_expr (pe_fz GP r4 (by rfl) (pa_cons (pv 3) (pa_cons (pe_callB call_len_seq (by rfl) gL PySem.boot_len (pa_cons (pv 1) pa_nil)) pa_nil))))
      (pss_cons (ps_if (pt_val (pe_callB (cr_any rfl) (by rfl) gAny (by decide +kernel) (pa_cons (pe_lc (own := [("at", 4)]) (g := gName 4) (tt := tYes) (te := tOp (rIn K false) (tVar 4) (tVar 2)) rfl scDuring.nd (pi_list (pv 3)) (blkOk_by (own := [("at", 4)]) (N := NDu) (sc := defScope sDuring) (by decide +kernel))
          (fun _ _ _ _ _ => pg_name (i := 4) scDuring.nd rfl (Or.inl rfl)) (fun _ _ _ _ _ => pts_nil) (fun _ _ _ _ _ => pe_cmpR op_in_seq (pv 4) (pv 2) rfl)) pa_nil))) (pss_one ps_never) pss_nil)
      (pss_one (ps_ret (pe_fz GW hr (by rfl) (pa_cons (pv 0) (pa_cons (pv 1) (pa_cons (pv 2) (pa_cons (pv 3) pa_nil)))))))))))), ?_⟩
    obtain ⟨⟨dx, ml, mg', mts, mgs, hqp, _⟩, so, go⟩ := W0.q
    have y100 := W0.ly.len
    have h60 := W0.len
    rw [snds_len] at y100
    refine ⟨_, rfl, q, dx, _, rfl, hqp.at_, ?_⟩
    refine ⟨_, rfl, l, ws, rfl, W0.l, fun t ht => W0.wo.ok _ (List.mem_map.mpr ⟨t, ht, rfl⟩), by rw [nms_snds]; exact W0.wo.nd, by omega, fun H1 s1 => ?_⟩
    have W1 := W0.keep s1
    refine ⟨_, rfl, _, rfl, l, _, rfl, Or.inl (SqL.of W1.l.1), a, (snds ws).length, xs, by simp, W1.a, W1.lx, by rw [snds_len]; omega, fun H2 s2 => ?_⟩
    have W2 := W1.keep s2
    refine ⟨_, rfl, _, rfl, l, _, rfl, Or.inl (SqL.of W2.l.1), b, (snds ws).length, ys, by simp, W2.b, W2.ly, by rw [snds_len]; omega, fun H3 s3 => ?_⟩
    have W3 := W2.keep s3
    refine ⟨_, rfl, b, rfl, ⟨_, SqL.of W3.b⟩, fun D nD => ?_⟩
    refine lc_val (us := ys) (vf := V.int) (p := fun _ => true) (gv := fun _ => V.bl false) nD W3.b (by omega) (fun y hy H' s4 N N0 h1 h2 => ?_) (fun H4 s4 hD => ?_)
    · refine ⟨rfl, _, rfl, _, rfl, a, xs.map V.int, rfl, Or.inl (SqL.of (s4 _ _ W3.a)), rfl, flat_ints xs, ?_⟩
      rw [inV_int, decide_eq_false (dj y hy)]
      exact h1 rfl _ (Same.refl _)
    · have e : ((ys.filter fun _ => true).map fun _ => V.bl false) = (List.replicate ys.length false).map V.bl := by
        rw [List.filter_eq_self.mpr fun _ _ => rfl, List.map_const', List.map_replicate]
      rw [e] at hD
      have e2 : (List.replicate ys.length false).any id = false := by simp
      refine ⟨D, List.replicate ys.length false, rfl, SqL.of hD, ?_⟩
      rw [e2]
      refine ⟨_, rfl, ifF (by decide) ?_⟩
      have s04 := same_trans s1 (same_trans s2 (same_trans s3 s4))
      exact ⟨_, rfl, _, rfl, _, rfl, _, rfl, q, l, a, b, ss, gs, ws, xs, ys, rfl, W3.keep s4, fun q' H' s5 nq hq => z q' H' (same_trans s04 s5) (s04.free nq) hq⟩
/-! ### stage_of -/
def spStage (CQ : Addr) : Sp := fun vs H Q _ => ∃ (q l a : Addr) (ss : List S5) (gs : List Str) (ws : List (Addr × S5)) (xs : List Int), vs = [.ref q, .ref l, .ref a] ∧ IsQ H CQ q ss gs ∧ Sts H l ws ∧ SOk (snds ws) ∧ Is H a xs ∧ Lot (snds ws).length xs ∧ ss.length + ws.length ≤ 60 ∧
  ∀ q' H', Same H H' → H q' = none → IsQ H' CQ q' (whileS ss (snds ws) xs []) gs → Q (.ref q') H'
theorem scStage : FnScope ["quarter", "works", "lot"] ["quarter", "works", "lot"] (defScope sStage) := ⟨rfl, rfl, rfl, by decide +kernel, rfl, by decide +kernel, by decide +kernel⟩
theorem lot_nil {n : Nat} : Lot n [] := ⟨List.Pairwise.nil, fun x h => by simp at h, fun x h => by simp at h⟩
theorem ok_stage {CQ : Addr} {f : Addr} {fd : FuncData} (F : FnP K "stage_of" sStage f fd) (GD : Fz P w K mg base "during" 9 ["quarter", "works", "lot", "now"] (spDuring CQ)) : FnOk P w K mg base CX0 10 f fd ["quarter", "works", "lot"] (spStage CQ) := by
  refine F.ok scStage (fun vs H Q E h => ?_) (fun cdv A outer s H vs Q E hr h => ?_)
  · obtain ⟨_, _, _, _, _, _, _, rfl, _⟩ := h
    rfl
  · obtain ⟨q, l, a, ss, gs, ws, xs, rfl, hq, hl, wo, ha, lx, h60, z⟩ := h
    have z0 : 0 ≤ sizeLine := by rw [sizeLine_eq]; decide
    refine ⟨_, PSs.nox (pss_one (ps_ret (pe_fz GD hr (by rfl) (pa_cons (pv 0) (pa_cons (pv 1) (pa_cons (pv 2) (pa_cons (pe_lst pa_nil) pa_nil))))))), ?_⟩
    refine ⟨_, rfl, _, rfl, _, rfl, z0, fun D nD => ?_⟩
    have s1 := same_upd (o := .lst []) nD
    have hD : Is (upd H D (.lst [])) D [] := upd_same
    generalize upd H D (.lst []) = H1 at s1 hD ⊢
    exact ⟨q, l, a, D, ss, gs, ws, xs, [], rfl, ⟨hq.keep s1, hl.keep s1, wo, s1 _ _ ha, lx, hD, lot_nil, h60⟩, fun y hy => by simp at hy, fun q' H' s2 nq hq' => z q' H' (same_trans s1 s2) (s1.free nq) hq'⟩
end
end K81
end
section
set_option Elab.async false
set_option linter.all false
set_option maxRecDepth 100000
set_option maxHeartbeats 4000000
namespace K81
open PySem PySem.Spec PyProof.Rows L2 H3
/-- a change of a width, a length, a direction -/
inductive CK where
  | w (z : Str) (i : Int)
  | l (z : Str) (i : Int)
  | t (z : Str)
def CK.nm : CK → Str
  | .w z _ => z
  | .l z _ => z
  | .t z => z
def CK.vals : CK → List V
  | .w z i => [.str "width", .str z, .int i]
  | .l z i => [.str "length", .str z, .int i]
  | .t z => [.str "turn", .str z]
def CK.Ok (c : CK) : Prop := Wd c.nm ∧ match c with
  | .w _ i => 0 ≤ i ∧ i ≤ 9
  | .l _ i => 0 ≤ i ∧ i ≤ 9
  | .t _ => True
def CK.alt : CK → S5 → S5
  | .w _ i, s => { s with wd := i }
  | .l _ i, s => { s with ln := i }
  | .t _, s => { s with st := s.en, en := s.st }
theorem alt_nm (c : CK) (s : S5) : (c.alt s).nm = s.nm := by cases c <;> rfl
theorem alt_ok {c : CK} {s : S5} (h : c.Ok) (o : s.Ok) : (c.alt s).Ok := by
  obtain ⟨o1, o2, o3, o4, o5, o6, o7, o8⟩ := o
  cases c with
  | w z i => exact ⟨o1, o2, o3, o4, h.2.1, h.2.2, o7, o8⟩
  | l z i => exact ⟨o1, o2, o3, o4, o5, o6, h.2.1, h.2.2⟩
  | t z => exact ⟨o1, o3, o2, Ne.symm o4, o5, o6, o7, o8⟩
section
variable {P : Program} {w : World} {K : PySem.W.Frag} {mg : Str → Option Value} {base : Heap}
/-! ### is_change -/
def spIsChange : Sp := fun vs H Q _ => ∃ (c : Addr) (k : CK), vs = [.ref c] ∧ H c = some (.tup k.vals) ∧ k.Ok ∧ ∀ H', Same H H' → Q (.bl true) H'
theorem scIsChange : FnScope ["value"] ["value"] (defScope sIsChange) := ⟨rfl, rfl, rfl, by decide +kernel, rfl, by decide +kernel, by decide +kernel⟩
theorem ok_isChange {f : Addr} {fd : FuncData} (F : FnP K "is_change" sIsChange f fd) (GC : Fz P w K mg base "is_count" 2 ["value"] spIsCount) (GW : Fz P w K mg base "is_word" 1 ["value"] spIsWord) (T : Tx K mg) : FnOk P w K mg base CX0 4 f fd ["value"] spIsChange := by
  refine F.ok scIsChange (fun vs H Q E h => ?_) (fun cdv A outer s H vs Q E hr h => ?_)
  · obtain ⟨_, _, rfl, _⟩ := h
    rfl
  · obtain ⟨c, k, rfl, hc, ok, q⟩ := h
    have gIs := T.fr "isinstance" (by decide +kernel)
    have gTu := T.fr "tuple" (by decide +kernel)
    have gL := T.fr "len" (by decide +kernel)
    have r1 : Room 1 (A.deeper (envOfC "is_change" (defScope sIsChange) s.heap.objs.size f cdv)) := hr.mono (by decide)
    have r2 : Room 2 (A.deeper (envOfC "is_change" (defScope sIsChange) s.heap.objs.size f cdv)) := hr.mono (by decide)
    refine ⟨_, PSs.nox (pss_cons (ps_if (pt_not (pt_val (pe_callB call_isi (by rfl) gIs (by decide +kernel) (pa_cons (pv 0) (pa_cons (pe_bltn (v := .ty "tuple") (by rfl) gTu (by decide +kernel) rfl) pa_nil))))) (pss_one (ps_ret pe_bl)) pss_nil)
      (pss_cons (ps_if (pt_cmpR op_eq (pe_callB call_len_seq (by rfl) gL PySem.boot_len (pa_cons (pv 0) pa_nil)) pe_int (nomark _))
        (pss_one (ps_ret (pe_and (pe_cmpR op_in_seq (pe_ix ix_tup (pv 0) pe_int (fun _ _ => rfl)) (pe_tup (pa_cons pe_str (pa_cons pe_str pa_nil))) rfl) (pe_and (pe_fz GW r1 (by rfl) (pa_cons (pe_ix ix_tup (pv 0) pe_int (fun _ _ => rfl)) pa_nil)) (pe_one (pe_fz GC r2 (by rfl) (pa_cons (pe_ix ix_tup (pv 0) pe_int (fun _ _ => rfl)) pa_nil))))))) pss_nil)
      (pss_cons (ps_if (pt_cmpR op_ne (pe_callB call_len_seq (by rfl) gL PySem.boot_len (pa_cons (pv 0) pa_nil)) pe_int (nomark _)) (pss_one (ps_ret pe_bl)) pss_nil)
      (pss_cons (ps_if (pt_cmpR op_eq (pe_ix ix_tup (pv 0) pe_int (fun _ _ => rfl)) pe_str (nomark _)) (pss_one ps_never) pss_nil)
      (pss_one (ps_ret (pe_and (pe_cmpR op_in_seq (pe_ix ix_tup (pv 0) pe_int (fun _ _ => rfl)) (pe_tup (pa_cons pe_str (pa_cons pe_str pa_nil))) rfl) (pe_one (pe_fz GW r1 (by rfl) (pa_cons (pe_ix ix_tup (pv 0) pe_int (fun _ _ => rfl)) pa_nil)))))))))), ?_⟩
    have two : 2 ≤ sizeLine := by decide +kernel
    refine ⟨_, rfl, _, _, _, _, _, rfl, .ty _, .base (.tup hc), ktr (by decide +kernel), _, rfl, ifF (by decide) ?_⟩
    refine ⟨_, rfl, c, _, rfl, Or.inr (SqT.of hc), rfl, _, rfl, ?_⟩
    cases k with
    | w z i =>
      refine ifT (by show decide (V.int 3 = V.int 3) = true; decide) ⟨_, rfl, c, _, ((0 : Nat) : Int), _, rfl, rfl, SqT.of hc, atI_nat rfl, two, fun t nt => ?_⟩
      have s1 := same_upd (o := .tup [V.str "width", V.str "length"]) nt
      refine ⟨t, _, rfl, Or.inr (SqT.of upd_same), rfl, rfl, _, rfl, ifT (by decide +kernel) ?_⟩
      generalize upd H t (.tup [V.str "width", V.str "length"]) = H1 at s1 ⊢
      refine ⟨_, rfl, c, _, ((1 : Nat) : Int), _, rfl, rfl, SqT.of (s1 _ _ hc), atI_nat rfl, z, rfl, ok.1, fun H2 s2 => ⟨_, rfl, ifT rfl ?_⟩⟩
      exact ⟨_, rfl, c, _, ((2 : Nat) : Int), _, rfl, rfl, SqT.of (s2 _ _ (s1 _ _ hc)), atI_nat rfl, i, rfl, ok.2.1, q _ (same_trans s1 s2)⟩
    | l z i =>
      refine ifT (by show decide (V.int 3 = V.int 3) = true; decide) ⟨_, rfl, c, _, ((0 : Nat) : Int), _, rfl, rfl, SqT.of hc, atI_nat rfl, two, fun t nt => ?_⟩
      have s1 := same_upd (o := .tup [V.str "width", V.str "length"]) nt
      refine ⟨t, _, rfl, Or.inr (SqT.of upd_same), rfl, rfl, _, rfl, ifT (by decide +kernel) ?_⟩
      generalize upd H t (.tup [V.str "width", V.str "length"]) = H1 at s1 ⊢
      refine ⟨_, rfl, c, _, ((1 : Nat) : Int), _, rfl, rfl, SqT.of (s1 _ _ hc), atI_nat rfl, z, rfl, ok.1, fun H2 s2 => ⟨_, rfl, ifT rfl ?_⟩⟩
      exact ⟨_, rfl, c, _, ((2 : Nat) : Int), _, rfl, rfl, SqT.of (s2 _ _ (s1 _ _ hc)), atI_nat rfl, i, rfl, ok.2.1, q _ (same_trans s1 s2)⟩
    | t z =>
      refine ifF (by show ¬ decide (V.int 2 = V.int 3) = true; decide) ?_
      refine ⟨_, rfl, c, _, rfl, Or.inr (SqT.of hc), rfl, _, rfl, ifF (by show ¬ (!decide (V.int 2 = V.int 2)) = true; decide) ?_⟩
      refine ⟨_, rfl, c, _, ((0 : Nat) : Int), _, rfl, rfl, SqT.of hc, atI_nat rfl, rfl, _, rfl, ifF (by decide +kernel) ?_⟩
      refine ⟨_, rfl, c, _, ((0 : Nat) : Int), _, rfl, rfl, SqT.of hc, atI_nat rfl, two, fun t nt => ?_⟩
      have s1 := same_upd (o := .tup [V.str "out", V.str "turn"]) nt
      refine ⟨t, _, rfl, Or.inr (SqT.of upd_same), rfl, rfl, _, rfl, ifT (by decide +kernel) ?_⟩
      generalize upd H t (.tup [V.str "out", V.str "turn"]) = H1 at s1 ⊢
      exact ⟨_, rfl, c, _, ((1 : Nat) : Int), _, rfl, rfl, SqT.of (s1 _ _ hc), atI_nat rfl, z, rfl, ok.1, fun H2 s2 => q _ (same_trans s1 s2)⟩
/-! ### _altered -/
def spAlt : Sp := fun vs H Q _ => ∃ (a c : Addr) (s : S5) (k : CK), vs = [.ref a, .ref c] ∧ H a = some (.tup s.vals) ∧ H c = some (.tup k.vals) ∧ ∀ b H', Same H H' → H b = none → H' b = some (.tup (k.alt s).vals) → Q (.ref b) H'
abbrev NAl : List Str := ["street", "change", "name", "start", "end", "width", "length"]
theorem scAlt : FnScope NAl ["street", "change"] (defScope sAltered) := ⟨rfl, rfl, rfl, by decide +kernel, rfl, by decide +kernel, by decide +kernel⟩
theorem ok_alt {f : Addr} {fd : FuncData} (F : FnP K "_altered" sAltered f fd) : FnOk P w K mg base CX0 1 f fd ["street", "change"] spAlt := by
  refine F.ok scAlt (fun vs H Q E h => ?_) (fun cdv A outer s H vs Q E hr h => ?_)
  · obtain ⟨_, _, _, _, rfl, _⟩ := h
    rfl
  · obtain ⟨a, c, s5, k, rfl, ha, hc, q⟩ := h
    refine ⟨_, PSs.nox (pss_cons (ps_asg (pv 0) (pg_tup rfl (pgs_cons (pg_name (i := 2) scAlt.nd rfl (Or.inl rfl)) (pgs_cons (pg_name (i := 3) scAlt.nd rfl (Or.inl rfl)) (pgs_cons (pg_name (i := 4) scAlt.nd rfl (Or.inl rfl)) (pgs_cons (pg_name (i := 5) scAlt.nd rfl (Or.inl rfl)) (pgs_cons (pg_name (i := 6) scAlt.nd rfl (Or.inl rfl)) pgs_nil)))))))
      (pss_cons (ps_if (pt_cmpR op_eq (pe_ix ix_tup (pv 1) pe_int (fun _ _ => rfl)) pe_str (nomark _)) (pss_one (ps_ret (pe_tup (pa_cons (pv 2) (pa_cons (pv 3) (pa_cons (pv 4) (pa_cons (pe_ix ix_tup (pv 1) pe_int (fun _ _ => rfl)) (pa_cons (pv 6) pa_nil)))))))) pss_nil)
      (pss_cons (ps_if (pt_cmpR op_eq (pe_ix ix_tup (pv 1) pe_int (fun _ _ => rfl)) pe_str (nomark _)) (pss_one (ps_ret (pe_tup (pa_cons (pv 2) (pa_cons (pv 3) (pa_cons (pv 4) (pa_cons (pv 5) (pa_cons (pe_ix ix_tup (pv 1) pe_int (fun _ _ => rfl)) pa_nil)))))))) pss_nil)
      (pss_one (ps_ret (pe_tup (pa_cons (pv 2) (pa_cons (pv 4) (pa_cons (pv 3) (pa_cons (pv 5) (pa_cons (pv 6) pa_nil))))))))))), ?_⟩
    have five : 5 ≤ sizeLine := by decide +kernel
    refine ⟨_, rfl, a, _, rfl, SqT.of ha, rfl, _, _, rfl, _, _, rfl, _, _, rfl, _, _, rfl, _, _, rfl, rfl, ?_⟩
    cases k with
    | w z i =>
      refine ⟨_, rfl, c, _, ((0 : Nat) : Int), _, rfl, rfl, SqT.of hc, atI_nat rfl, rfl, _, rfl, ifT (by decide +kernel) ?_⟩
      exact ⟨_, rfl, _, rfl, _, rfl, _, rfl, c, _, ((2 : Nat) : Int), _, rfl, rfl, SqT.of hc, atI_nat rfl, _, rfl, five, fun t nt => q t _ (same_upd nt) nt upd_same⟩
    | l z i =>
      refine ⟨_, rfl, c, _, ((0 : Nat) : Int), _, rfl, rfl, SqT.of hc, atI_nat rfl, rfl, _, rfl, ifF (by decide +kernel) ?_⟩
      refine ⟨_, rfl, c, _, ((0 : Nat) : Int), _, rfl, rfl, SqT.of hc, atI_nat rfl, rfl, _, rfl, ifT (by decide +kernel) ?_⟩
      exact ⟨_, rfl, _, rfl, _, rfl, _, rfl, _, rfl, c, _, ((2 : Nat) : Int), _, rfl, rfl, SqT.of hc, atI_nat rfl, five, fun t nt => q t _ (same_upd nt) nt upd_same⟩
    | t z =>
      refine ⟨_, rfl, c, _, ((0 : Nat) : Int), _, rfl, rfl, SqT.of hc, atI_nat rfl, rfl, _, rfl, ifF (by decide +kernel) ?_⟩
      refine ⟨_, rfl, c, _, ((0 : Nat) : Int), _, rfl, rfl, SqT.of hc, atI_nat rfl, rfl, _, rfl, ifF (by decide +kernel) ?_⟩
      exact ⟨_, rfl, _, rfl, _, rfl, _, rfl, _, rfl, five, fun t nt => q t _ (same_upd nt) nt upd_same⟩
end
end K81
end
section
set_option Elab.async false
set_option linter.all false
set_option maxRecDepth 100000
set_option maxHeartbeats 4000000
namespace K81
open PySem PySem.Spec PyProof.Rows L2 H3
theorem ck0 (k : CK) : ∃ z : Str, k.vals[0]? = some (.str z) ∧ z ≠ "put" ∧ z ≠ "out" := by
  cases k with
  | w z i => exact ⟨"width", rfl, by decide +kernel, by decide +kernel⟩
  | l z i => exact ⟨"length", rfl, by decide +kernel, by decide +kernel⟩
  | t z => exact ⟨"turn", rfl, by decide +kernel, by decide +kernel⟩
theorem ck1 (k : CK) : k.vals[1]? = some (.str k.nm) := by cases k <;> rfl
theorem any_s5 (s : S5) (ss : List S5) : ((ss.map S5.data).any fun z => PyData.eqv z s.data) = decide (s ∈ ss) := by
  induction ss with
  | nil => rfl
  | cons x ss ih =>
    rw [List.map_cons, List.any_cons, ih, eqv_s5]
    by_cases h : x = s
    · subst h
      simp
    · have h' : ¬ s = x := fun e => h e.symm
      simp [h, h']
theorem s5_shaped {s : S5} (h : s.Ok) : SeqAt.shaped s.data = true := by
  obtain ⟨h1, h2, h3, _⟩ := h
  have e1 : PyData.canLay0 s.data = true := by simp [S5.data, PyData.canLay0, PyData.canLayAll0, wd_ok h1, wd_ok h2, wd_ok h3]
  have e2 : PyData.depth s.data ≤ 64 := by simp [S5.data, PyData.depth, PyData.depthAll]
  unfold SeqAt.shaped
  rw [e1, decide_eq_true e2]
  rfl
/-- the streets with a change -/
def chgS (ss : List S5) (k : CK) : List S5 := (ss.filter fun s => decide (s.nm ≠ k.nm)) ++ (ss.filter fun s => decide (s.nm = k.nm)).map k.alt
theorem chg_perm {ss ss' : List S5} {k : CK} (p : ss'.Perm ss) : (chgS ss' k).Perm (chgS ss k) := (p.filter _).append ((p.filter _).map _)
theorem len_parts (p : S5 → Bool) : ∀ ss : List S5, (ss.filter fun s => !p s).length + (ss.filter p).length = ss.length
  | [] => rfl
  | s :: ss => by
    have ih := len_parts p ss
    rw [List.filter_cons, List.filter_cons, List.length_cons]
    cases h : p s
    · simp
      omega
    · simp
      omega
theorem chg_len (ss : List S5) (k : CK) : (chgS ss k).length = ss.length := by
  unfold chgS
  rw [List.length_append, List.length_map]
  have := len_parts (fun s : S5 => decide (s.nm = k.nm)) ss
  simp only [ne_eq, decide_not]
  exact this
theorem chg_ok {ss : List S5} {k : CK} (so : SOk ss) (ok : k.Ok) : SOk (chgS ss k) := by
  refine ⟨fun s hs => ?_, ?_, by rw [chg_len]; exact so.l⟩
  · rcases List.mem_append.mp hs with h | h
    · exact so.ok s (List.mem_filter.mp h).1
    · obtain ⟨x, hx, rfl⟩ := List.mem_map.mp h
      exact alt_ok ok (so.ok x (List.mem_filter.mp hx).1)
  · show ((chgS ss k).map S5.nm).Nodup
    unfold chgS
    rw [List.map_append, List.map_map]
    have e : ((ss.filter fun s => decide (s.nm = k.nm)).map (S5.nm ∘ k.alt)) = (ss.filter fun s => decide (s.nm = k.nm)).map S5.nm := List.map_congr_left fun s _ => alt_nm k s
    rw [e]
    refine List.nodup_append.mpr ⟨(List.filter_sublist.map S5.nm).nodup so.nd, (List.filter_sublist.map S5.nm).nodup so.nd, fun a ha b hb e => ?_⟩
    subst e
    obtain ⟨s, hs, rfl⟩ := List.mem_map.mp ha
    obtain ⟨t, ht, e⟩ := List.mem_map.mp hb
    have h1 := of_decide_eq_true (List.mem_filter.mp hs).2
    have h2 := of_decide_eq_true (List.mem_filter.mp ht).2
    exact h1 (e ▸ h2)
section
variable {P : Program} {w : World} {K : PySem.W.Frag} {mg : Str → Option Value} {base : Heap}
def spChgS : Sp := fun vs H Q _ => ∃ (l c : Addr) (ts : List (Addr × S5)) (k : CK), vs = [.ref l, .ref c] ∧ Sts H l ts ∧ SOk (snds ts) ∧ H c = some (.tup k.vals) ∧ k.Ok ∧ (∃ s ∈ snds ts, s.nm = k.nm ∧ k.alt s ≠ s) ∧
  ∀ D ts' H', Same H H' → H D = none → Sts H' D ts' → snds ts' = chgS (snds ts) k → Q (.ref D) H'
abbrev NCS : List Str := ["streets", "change", "is_there", "others", "altered", "street"]
theorem scCS : FnScope NCS ["streets", "change"] (defScope sChangedS) := ⟨rfl, rfl, rfl, by decide +kernel, rfl, by decide +kernel, by decide +kernel⟩
theorem ok_chgS {f : Addr} {fd : FuncData} (F : FnP K "_changed_streets" sChangedS f fd) (GA : Fz P w K mg base "_altered" 1 ["street", "change"] spAlt) (T : Tx K mg) : FnOk P w K mg base CX0 2 f fd ["streets", "change"] spChgS := by
  refine F.ok scCS (fun vs H Q E h => ?_) (fun cdv A outer s H vs Q E hr h => ?_)
  · obtain ⟨_, _, _, _, rfl, _⟩ := h
    rfl
  · obtain ⟨l, c, ts, k, rfl, hl, so, hc, ok, ⟨s0, m0, e0, a0⟩, q⟩ := h
    have gL := T.fr "len" (by decide +kernel)
    have sl := sizeLine_eq
    have l60 := so.l
    rw [snds_len] at l60
    have hu : (A.deeper (envOfC "_changed_streets" (defScope sChangedS) s.heap.objs.size f cdv)).units + 65 < cLine := by
      have := hr.un
      omega
    refine ⟨_, PSs.nox (pss_cons (ps_if (pt_cmpR op_eq (pe_ix ix_tup (pv 1) pe_int (fun _ _ => rfl)) pe_str (nomark _)) (pss_cons ps_never (pss_one ps_never)) pss_nil)
      (pss_cons (ps_setLc (i := 3) (own := [("street", 5)]) (g := gName 5) (tt := tTest (tOp rNe (tOp (rIxT K) (tVar 5) (tC (.int ((0 : Nat) : Int)))) (tOp (rIxT K) (tVar 1) (tC (.int ((1 : Nat) : Int)))))) (te := tVar 5) rfl scCS.nd rfl rfl (sw_true rfl rfl rfl (by decide +kernel)) (pi_list (pv 0)) (blkOk_by (own := [("street", 5)]) (N := NCS) (sc := defScope sChangedS) (by decide +kernel))
        (fun _ _ _ _ _ => pg_name (i := 5) scCS.nd rfl (Or.inl rfl)) (fun _ _ _ _ _ => pts_one (pt_cmpR op_ne (pe_ix ix_tup (pv 5) pe_int (fun _ _ => rfl)) (pe_ix ix_tup (pv 1) pe_int (fun _ _ => rfl)) (nomark _))) (fun _ _ _ _ _ => pv 5))
      (pss_cons (ps_if (pt_cmpR op_eq (pe_callB call_len_seq (by rfl) gL PySem.boot_len (pa_cons (pv 3) pa_nil)) (pe_callB call_len_seq (by rfl) gL PySem.boot_len (pa_cons (pv 0) pa_nil)) (nomark _)) (pss_one ps_never) pss_nil)
      (pss_cons (ps_if (pt_cmpR op_eq (pe_ix ix_tup (pv 1) pe_int (fun _ _ => rfl)) pe_str (nomark _)) (pss_one ps_never) pss_nil)
      (pss_cons (ps_setLc (i := 4) (own := [("street", 5)]) (g := gName 5) (tt := tTest (tOp rEq (tOp (rIxT K) (tVar 5) (tC (.int ((0 : Nat) : Int)))) (tOp (rIxT K) (tVar 1) (tC (.int ((1 : Nat) : Int)))))) (te := tCall spAlt [] E0 (tCons (tVar 5) (tCons (tVar 1) tNil))) rfl scCS.nd rfl rfl (sw_true rfl rfl rfl (by decide +kernel)) (pi_list (pv 0)) (blkOk_by (own := [("street", 5)]) (N := NCS) (sc := defScope sChangedS) (by decide +kernel))
        (fun _ _ _ _ _ => pg_name (i := 5) scCS.nd rfl (Or.inl rfl)) (fun _ _ _ _ _ => pts_one (pt_cmpR op_eq (pe_ix ix_tup (pv 5) pe_int (fun _ _ => rfl)) (pe_ix ix_tup (pv 1) pe_int (fun _ _ => rfl)) (nomark _))) (fun _ _ _ _ _ => pe_fz GA hr (by rfl) (pa_cons (pv 5) (pa_cons (pv 1) pa_nil))))
      (pss_one (ps_ret (pe_ifExp (pt_cmpR (op_inD hu) (pe_ix ix_list (pv 4) pe_int (fun _ _ => rfl)) (pv 0) rfl) pe_non (pe_op op_cat (pv 3) (pv 4)))))))))), ?_⟩
    obtain ⟨z, ez, np, no⟩ := ck0 k
    refine ⟨_, rfl, c, _, ((0 : Nat) : Int), _, rfl, rfl, SqT.of hc, atI_nat ez, rfl, _, rfl, ifF (by rw [decide_eq_false (fun e => np (V.str.inj e))]; decide) ?_⟩
    -- others
    refine ⟨_, rfl, l, rfl, ⟨_, SqL.of hl.1⟩, fun D1 n1 => ?_⟩
    refine lc_sts (us := ts) (vf := fun t => V.ref t.1) (p := fun t => decide (t.2.nm ≠ k.nm)) (fs := fun t => t.2) n1 hl.1 (by omega) (fun t ht H' s1 N N0 h1 h2 => ?_) (fun H1 t1 s1 hD1 e1 => ?_)
    · have ht' := s1 _ _ (hl.2 t ht)
      refine ⟨rfl, _, rfl, t.1, _, ((0 : Nat) : Int), _, rfl, rfl, SqT.of ht', atI_nat rfl, _, rfl, c, _, ((1 : Nat) : Int), _, rfl, rfl, SqT.of (s1 _ _ hc), atI_nat (ck1 k), rfl, _, rfl, ?_⟩
      by_cases hx : t.2.nm = k.nm
      · exact ifF (by simp [hx]) (h2 (decide_eq_false fun z => z hx) _ (Same.refl _))
      · exact ifT (by simp [hx]) ⟨_, rfl, h1 (decide_eq_true hx) _ _ (Same.refl _) ht'⟩
    have hl1 := hl.keep s1
    have hc1 := s1 _ _ hc
    have e1' : snds t1 = (snds ts).filter fun s => decide (s.nm ≠ k.nm) := by
      rw [e1, show snds ts = ts.map fun t => t.2 from rfl, List.filter_map]
      rfl
    have lt1 : t1.length < ts.length := by
      have h1 : t1.length = (snds t1).length := snds_len.symm
      rw [h1, e1', ← snds_len (ts := ts)]
      refine Nat.lt_of_le_of_ne (List.length_filter_le _ _) fun e => ?_
      have := (List.length_filter_eq_length_iff.mp e) s0 m0
      exact of_decide_eq_true this e0
    -- as many
    refine ⟨_, rfl, D1, _, rfl, Or.inl (SqL.of hD1.1), _, rfl, l, _, rfl, Or.inl (SqL.of hl1.1), rfl, _, rfl, ifF ?_ ?_⟩
    · rw [decide_eq_false]
      · decide
      · intro e
        have e := V.int.inj e
        rw [List.length_map, List.length_map] at e
        omega
    refine ⟨_, rfl, c, _, ((0 : Nat) : Int), _, rfl, rfl, SqT.of hc1, atI_nat ez, rfl, _, rfl, ifF (by rw [decide_eq_false (fun e => no (V.str.inj e))]; decide) ?_⟩
    -- altered
    refine ⟨_, rfl, l, rfl, ⟨_, SqL.of hl1.1⟩, fun D2 n2 => ?_⟩
    refine lc_sts (us := ts) (vf := fun t => V.ref t.1) (p := fun t => decide (t.2.nm = k.nm)) (fs := fun t => k.alt t.2) n2 hl1.1 (by omega) (fun t ht H' s2 N N0 h1 h2 => ?_) (fun H2 t2 s2 hD2 e2 => ?_)
    · have ht' := s2 _ _ (hl1.2 t ht)
      refine ⟨rfl, _, rfl, t.1, _, ((0 : Nat) : Int), _, rfl, rfl, SqT.of ht', atI_nat rfl, _, rfl, c, _, ((1 : Nat) : Int), _, rfl, rfl, SqT.of (s2 _ _ hc1), atI_nat (ck1 k), rfl, _, rfl, ?_⟩
      by_cases hx : t.2.nm = k.nm
      · exact ifT (by simp [hx]) ⟨_, rfl, _, rfl, t.1, c, t.2, k, rfl, ht', s2 _ _ hc1, fun b H3 s3 nb hb => h1 (decide_eq_true hx) _ _ s3 hb⟩
      · exact ifF (by simp [hx]) (h2 (decide_eq_false hx) _ (Same.refl _))
    have hl2 := hl1.keep s2
    have e2' : snds t2 = ((snds ts).filter fun s => decide (s.nm = k.nm)).map k.alt := by
      rw [e2, show snds ts = ts.map fun t => t.2 from rfl, List.filter_map, List.map_map]
      rfl
    have hx : ∀ x ∈ snds ts, x.nm = k.nm → x = s0 := fun x hx e => nodup_inj so.nd x hx s0 m0 (e.trans e0.symm)
    -- the first of them
    have m2 : k.alt s0 ∈ snds t2 := by
      rw [e2']
      exact List.mem_map.mpr ⟨s0, List.mem_filter.mpr ⟨m0, decide_eq_true e0⟩, rfl⟩
    have al2 : ∀ y ∈ snds t2, y = k.alt s0 := fun y hy => by
      rw [e2'] at hy
      obtain ⟨x, hx1, rfl⟩ := List.mem_map.mp hy
      rw [hx x (List.mem_filter.mp hx1).1 (of_decide_eq_true (List.mem_filter.mp hx1).2)]
    match t2, hD2, e2', m2, al2 with
    | [], _, _, m2, _ => simp at m2
    | u :: t2, hD2, e2', m2, al2 =>
      have hu := hD2.2 u List.mem_cons_self
      have eu : u.2 = k.alt s0 := al2 _ List.mem_cons_self
      have du : Dp K H2 (.ref u.1) u.2.data := .tup (SqT.of hu) (.cons (.str _) (.cons (.str _) (.cons (.str _) (.cons (.int _) (.cons (.int _) .nil)))))
      have uo : u.2.Ok := by
        rw [eu]
        exact alt_ok ok (so.ok s0 m0)
      refine ⟨_, rfl, D2, _, ((0 : Nat) : Int), _, rfl, rfl, SqL.of hD2.1, atI_nat rfl, _, rfl, _, _, du, dp_of hl2, s5_shaped uo, sts_shaped so.ok, _, rfl, ?_⟩
      rw [any_s5]
      have nin : u.2 ∉ snds ts := fun h => by
        have h1 := hx _ h (by rw [eu, alt_nm, e0])
        exact a0 (eu ▸ h1)
      refine ifF (by rw [decide_eq_false nin]; decide) ?_
      have hD12 := hD1.keep s2
      have len : t1.length + (u :: t2).length ≤ 1000 := by
        have h1 := congrArg List.length e2'
        rw [snds_len, List.length_map] at h1
        have h2 := List.length_filter_le (fun s : S5 => decide (s.nm = k.nm)) (snds ts)
        rw [snds_len] at h2
        omega
      refine ⟨_, rfl, _, rfl, D1, D2, _, _, rfl, rfl, hD12.1, hD2.1, by rw [List.length_map, List.length_map]; omega, fun D3 n3 => ?_⟩
      have s3 := same_upd (o := .lst ((t1.map fun t => V.ref t.1) ++ (u :: t2).map fun t => V.ref t.1)) n3
      have s03 := same_trans s1 (same_trans s2 s3)
      refine q D3 (t1 ++ u :: t2) _ s03 ((same_trans s1 s2).free n3) ⟨by rw [upd_same, List.map_append], fun t ht => s3 _ _ (by
        rcases List.mem_append.mp ht with h | h
        · exact hD12.2 t h
        · exact hD2.2 t h)⟩ ?_
      rw [show snds (t1 ++ u :: t2) = snds t1 ++ snds (u :: t2) from List.map_append, e1', e2']
      rfl
/-! ### fitted, changed -/
def spChanged (CQ : Addr) : Sp := fun vs H Q _ => ∃ (q c : Addr) (ss : List S5) (gs : List Str) (k : CK), vs = [.ref q, .ref c] ∧ IsQ H CQ q ss gs ∧ H c = some (.tup k.vals) ∧ k.Ok ∧ (∃ s ∈ ss, s.nm = k.nm ∧ k.alt s ≠ s) ∧
  ∀ q' H', Same H H' → H q' = none → IsQ H' CQ q' (chgS ss k) gs → Q (.ref q') H'
theorem scFitted : FnScope ["quarter", "change", "streets"] ["quarter", "change"] (defScope sFitted) := ⟨rfl, rfl, rfl, by decide +kernel, rfl, by decide +kernel, by decide +kernel⟩
theorem ok_fitted {CQ : Addr} {f : Addr} {fd : FuncData} (F : FnP K "fitted" sFitted f fd) (M : Ms P w K mg base CQ) (GS : Fz P w K mg base "_changed_streets" 2 ["streets", "change"] spChgS) : FnOk P w K mg base CX0 8 f fd ["quarter", "change"] (spChanged CQ) := by
  refine F.ok scFitted (fun vs H Q E h => ?_) (fun cdv A outer s H vs Q E hr h => ?_)
  · obtain ⟨_, _, _, _, _, rfl, _⟩ := h
    rfl
  · obtain ⟨q, c, ss, gs, k, rfl, ⟨⟨dx, ml, mg', mts, mgs, hqp, pt, as, pg, ag⟩, so, go⟩, hc, ok, ⟨s0, m0, e0, a0⟩, z⟩ := h
    have r1 : Room 1 (A.deeper (envOfC "fitted" (defScope sFitted) s.heap.objs.size f cdv)) := hr.mono (by decide)
    have r2 : Room 2 (A.deeper (envOfC "fitted" (defScope sFitted) s.heap.objs.size f cdv)) := hr.mono (by decide)
    refine ⟨_, PSs.nox (pss_cons (ps_set (i := 2) scFitted.nd rfl (Or.inl rfl) (pe_fz GS r2 (by rfl) (pa_cons (pe_mz M.qs (pv 0) r1) (pa_cons (pv 1) pa_nil))))
      (pss_one (ps_ret (pe_ifExp (pt_cmpR op_isN (pv 2) pe_non (nomark _)) pe_non (pe_qu M.mq hr (by rfl) (pa_cons (pv 2) (pa_cons (pe_mz M.qg (pv 0) r1) pa_nil))))))), ?_⟩
    refine ⟨_, rfl, q, dx, _, rfl, hqp.at_, rfl, q, dx, ml, _, _, rfl, hqp.at_, rfl, hqp.s.1, fun D1 n1 => ?_⟩
    have s1 := same_upd (o := .lst (mts.map fun t => V.ref t.1)) n1
    have hD1 : Sts (upd H D1 (.lst (mts.map fun t => V.ref t.1))) D1 mts := ⟨upd_same, fun t ht => s1 _ _ (hqp.s.2 t ht)⟩
    generalize upd H D1 (.lst (mts.map fun t => V.ref t.1)) = H1 at s1 hD1 ⊢
    have so' := so.perm pt
    refine ⟨_, rfl, D1, c, mts, k, rfl, hD1, so', s1 _ _ hc, ok, ⟨s0, pt.mem_iff.mpr m0, e0, a0⟩, fun D2 t2 H2 s2 n2 hD2 e2 => ?_⟩
    have s02 := same_trans s1 s2
    refine ⟨_, rfl, rfl, _, rfl, ifF (by rw [decide_eq_false (fun e => by cases e)]; decide) ?_⟩
    have hq2 := hqp.keep s02
    refine ⟨_, rfl, _, rfl, q, dx, _, rfl, hq2.at_, rfl, q, dx, mg', _, _, rfl, hq2.at_, rfl, hq2.g, fun D3 n3 => ?_⟩
    have s3 := same_upd (o := .lst (mgs.map V.str)) n3
    have hD3 : Ws (upd H2 D3 (.lst (mgs.map V.str))) D3 mgs := upd_same
    generalize upd H2 D3 (.lst (mgs.map V.str)) = H3 at s3 hD3 ⊢
    have s03 := same_trans s02 s3
    refine ⟨D2, D3, t2, mgs, rfl, hD2.keep s3, by rw [e2]; exact chg_ok so' ok, hD3, go.perm pg, fun q' dx' l' g' ts' gs' H' s4 nq _ _ hq' pt' as' pg' ag' => ?_⟩
    refine z q' H' (same_trans s03 s4) (s03.free nq) ⟨⟨dx', l', g', ts', gs', hq', ?_, as', pg'.trans pg, ag'⟩, chg_ok so ok, go⟩
    refine (pt'.map fun t => t.2).trans ?_
    show (snds t2).Perm _
    rw [e2]
    exact chg_perm pt
theorem scChanged : FnScope ["quarter", "change", "after"] ["quarter", "change"] (defScope sChanged) := ⟨rfl, rfl, rfl, by decide +kernel, rfl, by decide +kernel, by decide +kernel⟩
theorem ok_changed {CQ : Addr} {f : Addr} {fd : FuncData} (F : FnP K "changed" sChanged f fd) (GQ : Fz P w K mg base "check_quarter" 1 ["value"] (spIns CQ)) (GI : Fz P w K mg base "is_change" 4 ["value"] spIsChange) (GF : Fz P w K mg base "fitted" 8 ["quarter", "change"] (spChanged CQ)) : FnOk P w K mg base CX0 9 f fd ["quarter", "change"] (spChanged CQ) := by
  refine F.ok scChanged (fun vs H Q E h => ?_) (fun cdv A outer s H vs Q E hr h => ?_)
  · obtain ⟨_, _, _, _, _, rfl, _⟩ := h
    rfl
  · obtain ⟨q, c, ss, gs, k, rfl, hq, hc, ok, h0, z⟩ := h
    have r1 : Room 1 (A.deeper (envOfC "changed" (defScope sChanged) s.heap.objs.size f cdv)) := hr.mono (by decide)
    have r4 : Room 4 (A.deeper (envOfC "changed" (defScope sChanged) s.heap.objs.size f cdv)) := hr.mono (by decide)
    refine ⟨_, PSs.nox (pss_cons (ps_expr (pe_fz GQ r1 (by rfl) (pa_cons (pv 0) pa_nil)))
      (pss_cons (ps_set (i := 2) scChanged.nd rfl (Or.inl rfl) (pe_ifExp (pt_val (pe_fz GI r4 (by rfl) (pa_cons (pv 1) pa_nil))) (pe_fz GF hr (by rfl) (pa_cons (pv 0) (pa_cons (pv 1) pa_nil))) pe_non))
      (pss_cons (ps_if (pt_cmpR op_isN (pv 2) pe_non (nomark _)) (pss_one ps_never) pss_nil) (pss_one (ps_ret (pv 2)))))), ?_⟩
    have hq0 := hq
    obtain ⟨⟨dx, ml, mg', mts, mgs, hqp, _⟩, _, _⟩ := hq0
    refine ⟨_, rfl, q, dx, _, rfl, hqp.at_, ?_⟩
    refine ⟨_, rfl, c, k, rfl, hc, ok, fun H1 s1 => ⟨_, rfl, ifT rfl ?_⟩⟩
    refine ⟨_, rfl, _, rfl, q, c, ss, gs, k, rfl, IsQ.keep hq s1, s1 _ _ hc, ok, h0, fun q' H2 s2 nq hq' => ?_⟩
    exact ⟨_, rfl, rfl, _, rfl, ifF (by rw [decide_eq_false (fun e => by cases e)]; decide) ⟨_, rfl, z q' H2 (same_trans s1 s2) (s1.free nq) hq'⟩⟩
end
end K81
end
section
set_option Elab.async false
set_option linter.all false
set_option maxRecDepth 100000
set_option maxHeartbeats 4000000
namespace K81
open PySem PySem.Spec PyProof.Rows L2 H3
/-- at D a list of lots of positions below n -/
structure LotsAt (H : Hp) (D : Addr) (n : Nat) (ls : List (Addr × List Int)) : Prop where
  at_ : H D = some (.lst (ls.map fun z => V.ref z.1))
  is : ∀ z ∈ ls, Is H z.1 z.2
  lot : ∀ z ∈ ls, Lot n z.2
theorem LotsAt.keep {H H' : Hp} {D : Addr} {n : Nat} {ls : List (Addr × List Int)} (h : LotsAt H D n ls) (s : Same H H') : LotsAt H' D n ls := ⟨s _ _ h.at_, fun z hz => s _ _ (h.is z hz), h.lot⟩
theorem lot_put {i : Nat} {xs : List Int} (h : Lot i xs) : Lot (i + 1) (xs ++ [(i : Int)]) := by
  refine ⟨List.pairwise_append.mpr ⟨h.asc, List.pairwise_singleton _ _, fun a ha b hb => ?_⟩, fun x hx => ?_, fun x hx => ?_⟩
  · rw [List.mem_singleton.mp hb]
    exact h.hi a ha
  · rcases List.mem_append.mp hx with m | m
    · exact h.lo x m
    · rw [List.mem_singleton.mp m]
      omega
  · rcases List.mem_append.mp hx with m | m
    · have := h.hi x m
      omega
    · rw [List.mem_singleton.mp m]
      omega
theorem rgI_at {n i : Nat} {y : Int} (h : (rgI n)[i]? = some y) : i < n ∧ y = (i : Int) := by
  rw [List.getElem?_map] at h
  by_cases lt : i < n
  · rw [List.getElem?_range lt] at h
    exact ⟨lt, (Option.some.inj h).symm⟩
  · rw [List.getElem?_eq_none (by rw [List.length_range]; omega)] at h
    cases h
section
variable {P : Program} {w : World} {K : PySem.W.Frag} {mg : Str → Option Value} {base : Heap}
def spLots : Sp := fun vs H Q _ => ∃ (t : Addr) (n : Nat), vs = [.ref t] ∧ Is H t (rgI n) ∧ n ≤ 8 ∧ ∀ D ls H', Same H H' → H D = none → LotsAt H' D n ls → ls.length ≤ 2 ^ n → Q (.ref D) H'
abbrev NLo : List Str := ["_law_things", "_law_found", "_law_thing", "_law_lot"]
theorem scLots : FnScope NLo ["_law_things"] (defScope sLots) := ⟨rfl, rfl, rfl, by decide +kernel, rfl, by decide +kernel, by decide +kernel⟩
theorem ok_lots {f : Addr} {fd : FuncData} (F : FnP K "_law_lots" sLots f fd) : FnOk P w K mg base CX0 1 f fd ["_law_things"] spLots := by
  refine F.ok scLots (fun vs H Q E h => ?_) (fun cdv A outer s H vs Q E hr h => ?_)
  · obtain ⟨_, _, rfl, _⟩ := h
    rfl
  · obtain ⟨t, n, rfl, ht, n8, q⟩ := h
    have sl := sizeLine_eq
    have z0 : 0 ≤ sizeLine := by rw [sl]; decide
    have z1 : 1 ≤ sizeLine := by rw [sl]; decide
    refine ⟨_, PSs.nox (pss_cons (ps_set (i := 1) scLots.nd rfl (Or.inl rfl) (pe_lst (pa_cons (pe_lst pa_nil) pa_nil)))
      (pss_cons (ps_for PassesOwn.never rfl (pi_list (pv 0)) (pg_name (i := 2) scLots.nd rfl (Or.inr rfl))
        (pss_one (ps_set (i := 1) scLots.nd rfl (Or.inl rfl) (pe_op op_cat (pv 1) (pe_lc (own := [("_law_lot", 3)]) (g := gName 3) (tt := tYes) rfl scLots.nd (pi_list (pv 1)) (blkOk_by (own := [("_law_lot", 3)]) (N := NLo) (sc := defScope sLots) (by decide +kernel))
          (fun _ _ _ _ _ => pg_name (i := 3) scLots.nd rfl (Or.inl rfl)) (fun _ _ _ _ _ => pts_nil) (fun _ _ _ _ _ => pe_op op_cat (pv 3) (pe_lst (pa_cons (pv 2) pa_nil))))))))
      (pss_one (ps_ret (pv 1))))), ?_⟩
    refine ⟨z0, fun a na => ?_⟩
    have s1 := same_upd (o := .lst []) na
    have ha : Is (upd H a (.lst [])) a [] := upd_same
    generalize upd H a (.lst []) = H1 at s1 ha ⊢
    refine ⟨z1, fun D nD => ?_⟩
    have s2 := same_upd (o := .lst [V.ref a]) nD
    have hD : LotsAt (upd H1 D (.lst [V.ref a])) D 0 [(a, [])] := ⟨upd_same, fun z hz => by rw [List.mem_singleton.mp hz]; exact s2 _ _ ha, fun z hz => by rw [List.mem_singleton.mp hz]; exact lot_nil⟩
    have nD0 := s1.free nD
    generalize upd H1 D (.lst [V.ref a]) = H2 at s2 hD ⊢
    have s02 := same_trans s1 s2
    refine ⟨_, rfl, t, rfl, ⟨_, SqL.of (s02 _ _ ht)⟩, ?_⟩
    refine for_list (K := K) (a := t) (xs := (rgI n).map V.int) (fun i σ H' => Same H H' ∧ ∃ (D : Addr) (o2 o3 : Option V) (ls : List (Addr × List Int)), σ = [some (.ref t), some (.ref D), o2, o3] ∧ H D = none ∧ LotsAt H' D i ls ∧ ls.length ≤ 2 ^ i)
      ⟨s02, D, _, _, _, rfl, nD0, hD, Nat.le_refl _⟩ (fun i σ H' _ h => SqL.of (h.1 _ _ ht)) ?_ ?_
    · rintro i x σ H' hi ⟨s3, D, o2, o3, ls, rfl, nD, hD, hl⟩
      obtain ⟨y, hy, rfl⟩ := at_map hi
      obtain ⟨lt, rfl⟩ := rgI_at hy
      generalize i = j at *
      have p8 : 2 ^ j ≤ 256 := Nat.pow_le_pow_right (by decide) (show j ≤ 8 by omega)
      refine ⟨_, rfl, _, rfl, D, rfl, ⟨_, SqL.of hD.at_⟩, fun D2 n2 => ?_⟩
      refine lc_gen (us := ls) (vf := fun z => V.ref z.1) (p := fun _ => true) (R := fun u y H => ∃ a, y = .ref a ∧ a ≠ D2 ∧ Is H a (u.2 ++ [(j : Int)])) n2 hD.at_ (by omega) (fun u y H H' ⟨a, h1, h2, h3⟩ k => ⟨a, h1, h2, k _ _ h2 h3⟩)
        (fun u hu H3 s4 ⟨acc, hacc⟩ N N0 h1 h2 => ?_) (fun H3 zs s4 hD2 ez hR => ?_)
      · have hu3 := s4 _ _ (hD.is u hu)
        have ul := (hD.lot u hu).len
        refine ⟨rfl, _, rfl, _, rfl, z1, fun b nb => ?_⟩
        have s5 := same_upd (o := .lst [V.int (j : Int)]) nb
        have hb : Is (upd H3 b (.lst [V.int (j : Int)])) b [(j : Int)] := upd_same
        generalize upd H3 b (.lst [V.int (j : Int)]) = H4 at s5 hb ⊢
        refine ⟨u.1, b, _, _, rfl, rfl, s5 _ _ hu3, hb, by simp only [List.length_map, List.length_cons, List.length_nil]; omega, fun c nc => ?_⟩
        refine h1 rfl _ _ (same_trans s5 (same_upd nc)) ⟨c, rfl, fun e => ?_, ?_⟩
        · have := s5 _ _ hacc
          rw [← e, nc] at this
          cases this
        · show upd H4 c _ c = _
          rw [upd_same, List.map_append]
      · rw [List.filter_eq_self.mpr fun _ _ => rfl] at ez
        have key : ∀ zs : List ((Addr × List Int) × V), (∀ z ∈ zs, ∃ a, z.2 = .ref a ∧ a ≠ D2 ∧ Is H3 a (z.1.2 ++ [(j : Int)])) → ∃ ks : List (Addr × List Int), (zs.map fun z => z.2) = (ks.map fun z => V.ref z.1) ∧ (∀ z ∈ ks, Is H3 z.1 z.2) ∧ (∀ z ∈ ks, ∃ u ∈ zs.map (fun z => z.1), z.2 = u.2 ++ [(j : Int)]) := by
          intro zs
          induction zs with
          | nil => exact fun _ => ⟨[], rfl, fun z h => by simp at h, fun z h => by simp at h⟩
          | cons z zs ih =>
            intro h
            obtain ⟨ks, e1, e2, e3⟩ := ih fun y hy => h y (List.mem_cons_of_mem _ hy)
            obtain ⟨a, ea, _, ha⟩ := h z List.mem_cons_self
            refine ⟨(a, z.1.2 ++ [(j : Int)]) :: ks, by rw [List.map_cons, List.map_cons, e1, ea], fun y hy => ?_, fun y hy => ?_⟩
            · rcases List.mem_cons.mp hy with e | m
              · rw [e]
                exact ha
              · exact e2 y m
            · rcases List.mem_cons.mp hy with e | m
              · rw [e]
                exact ⟨z.1, by simp, rfl⟩
              · obtain ⟨u, hu, eu⟩ := e3 y m
                exact ⟨u, by rw [List.map_cons]; exact List.mem_cons_of_mem _ hu, eu⟩
        obtain ⟨ks, e1, e2, e3⟩ := key zs hR
        have kl : ks.length = ls.length := by
          have h1 := congrArg List.length e1
          have h2 := congrArg List.length ez
          rw [List.length_map, List.length_map] at h1
          rw [List.length_map] at h2
          omega
        have hD3 := hD.keep s4
        refine ⟨D, D2, _, _, rfl, rfl, hD3.at_, by rw [hD2, e1], by rw [List.length_map, List.length_map]; omega, fun c nc => ?_⟩
        have s5 := same_upd (o := .lst ((ls.map fun z => V.ref z.1) ++ ks.map fun z => V.ref z.1)) nc
        have s05 := same_trans s3 (same_trans s4 s5)
        refine ⟨s05, c, _, _, ls ++ ks, rfl, (same_trans s3 s4).free nc, ⟨by rw [upd_same, List.map_append], fun z hz => s5 _ _ ?_, fun z hz => ?_⟩, ?_⟩
        · rcases List.mem_append.mp hz with m | m
          · exact hD3.is z m
          · exact e2 z m
        · rcases List.mem_append.mp hz with m | m
          · exact (hD.lot z m).mono (by omega)
          · obtain ⟨u, hu, eu⟩ := e3 z m
            rw [ez] at hu
            rw [eu]
            exact lot_put (hD.lot u hu)
        · rw [List.length_append, Nat.pow_succ]
          omega
    · rintro σ H' ⟨s3, D, o2, o3, ls, rfl, nD, hD, hl⟩
      rw [List.length_map, List.length_map, List.length_range] at hD hl
      exact ⟨_, rfl, q D ls H' s3 nD hD hl⟩
end
end K81
end
section
set_option Elab.async false
set_option linter.all false
set_option maxRecDepth 100000
set_option maxHeartbeats 4000000
namespace K81
open PySem PySem.Spec PyProof.Rows L2 H3
section
variable {P : Program} {w : World} {K : PySem.W.Frag} {mg : Str → Option Value} {base : Heap}
/-- what the law's own works are handed -/
structure Wd4 (H : Hp) (W ls lg l a b : Addr) (ts : List (Addr × S5)) (gs : List Str) (ws : List (Addr × S5)) (xs ys : List Int) : Prop where
  w : Wq H W ls lg ts gs
  l : Sts H l ws
  wo : SOk (snds ws)
  a : Is H a xs
  lx : Lot (snds ws).length xs
  b : Is H b ys
  ly : Lot (snds ws).length ys
  len : ts.length + ws.length ≤ 60
theorem Wd4.keep {H H' : Hp} {W ls lg l a b : Addr} {ts : List (Addr × S5)} {gs : List Str} {ws : List (Addr × S5)} {xs ys : List Int} (h : Wd4 H W ls lg l a b ts gs ws xs ys) (s : Same H H') : Wd4 H' W ls lg l a b ts gs ws xs ys := ⟨h.w.keep s, h.l.keep s, h.wo, s _ _ h.a, h.lx, s _ _ h.b, h.ly, h.len⟩
def spDone : Sp := fun vs H Q _ => ∃ (W ls lg l a b : Addr) (ts : List (Addr × S5)) (gs : List Str) (ws : List (Addr × S5)) (xs ys : List Int), vs = [.ref W, .ref l, .ref a, .ref b] ∧ Wd4 H W ls lg l a b ts gs ws xs ys ∧
  ∀ (R D : Addr) (x y : V) (ds : List (Addr × S5)) (H' : Hp), Same H H' → H R = none → H' R = some (.lst [.ref D, .ref lg, x, y]) → Sts H' D ds → snds ds = doneS (snds ts) (snds ws) xs ys → Q (.ref R) H'
abbrev NDn : List Str := ["_law_world_here", "_law_works_here", "_law_lot", "_law_now", "_law_names", "_law_shut", "_law_streets", "_law_at", "_law_street"]
theorem scDone : FnScope NDn ["_law_world_here", "_law_works_here", "_law_lot", "_law_now"] (defScope sDone) := ⟨rfl, rfl, rfl, by decide +kernel, rfl, by decide +kernel, by decide +kernel⟩
/-- what the last comprehension makes of a street -/
abbrev teD (K : PySem.W.Frag) : TE := tIf (tTest (tOp (rIn K false) (tOp (rIxT K) (tVar 8) (tC (.int ((0 : Nat) : Int)))) (tVar 5))) (tOp (rCatT K) (tSl (rSlT K) (tVar 8) tNoPart (tPart (tC (.int ((3 : Nat) : Int))))) (tTup (tCons (tC (.int ((0 : Nat) : Int))) (tCons (tOp (rIxT K) (tVar 8) (tC (.int ((4 : Nat) : Int)))) tNil)))) (tVar 8)
theorem ok_done {f : Addr} {fd : FuncData} (F : FnP K "_law_done" sDone f fd) : FnOk P w K mg base CX0 1 f fd ["_law_world_here", "_law_works_here", "_law_lot", "_law_now"] spDone := by
  refine F.ok scDone (fun vs H Q E h => ?_) (fun cdv A outer s H vs Q E hr h => ?_)
  · obtain ⟨_, _, _, _, _, _, _, _, _, _, _, rfl, _⟩ := h
    rfl
  · obtain ⟨W, ls, lg, l, a, b, ts, gs, ws, xs, ys, rfl, D0, q⟩ := h
    have sl := sizeLine_eq
    have two : 2 ≤ sizeLine := by rw [sl]; decide
    have four : 4 ≤ sizeLine := by rw [sl]; decide
    refine ⟨_, PSs.nox (pss_cons (ps_asg (pe_tup (pa_cons
        (pe_lc (own := [("_law_at", 7)]) (g := gName 7) (tt := tYes) (te := tOp (rIxT K) (tOp (rIxL K) (tVar 1) (tVar 7)) (tC (.int ((0 : Nat) : Int)))) rfl scDone.nd (pi_list (pv 2)) (blkOk_by (own := [("_law_at", 7)]) (N := NDn) (sc := defScope sDone) (by decide +kernel))
          (fun _ _ _ _ _ => pg_name (i := 7) scDone.nd rfl (Or.inl rfl)) (fun _ _ _ _ _ => pts_nil) (fun _ _ _ _ _ => pe_ix ix_tup (pe_ix ix_list (pv 1) (pv 7) (fun _ _ => rfl)) pe_int (fun _ _ => rfl))) (pa_cons
        (pe_lc (own := [("_law_at", 7)]) (g := gName 7) (tt := tYes) (te := tOp (rIxT K) (tOp (rIxL K) (tVar 1) (tVar 7)) (tC (.int ((0 : Nat) : Int)))) rfl scDone.nd (pi_list (pv 3)) (blkOk_by (own := [("_law_at", 7)]) (N := NDn) (sc := defScope sDone) (by decide +kernel))
          (fun _ _ _ _ _ => pg_name (i := 7) scDone.nd rfl (Or.inl rfl)) (fun _ _ _ _ _ => pts_nil) (fun _ _ _ _ _ => pe_ix ix_tup (pe_ix ix_list (pv 1) (pv 7) (fun _ _ => rfl)) pe_int (fun _ _ => rfl))) pa_nil)))
        (pg_tup rfl (pgs_cons (pg_name (i := 4) scDone.nd rfl (Or.inr rfl)) (pgs_cons (pg_name (i := 5) scDone.nd rfl (Or.inr rfl)) pgs_nil))))
      (pss_cons (ps_set (i := 6) scDone.nd rfl (Or.inl rfl) (pe_op op_cat
        (pe_lc (own := [("_law_street", 8)]) (g := gName 8) (tt := tTest (tOp (rIn K true) (tOp (rIxT K) (tVar 8) (tC (.int ((0 : Nat) : Int)))) (tVar 4))) (te := tVar 8) rfl scDone.nd (pi_list (pe_ix ix_list (pv 0) pe_int (fun _ _ => rfl))) (blkOk_by (own := [("_law_street", 8)]) (N := NDn) (sc := defScope sDone) (by decide +kernel))
          (fun _ _ _ _ _ => pg_name (i := 8) scDone.nd rfl (Or.inl rfl)) (fun _ _ _ _ _ => pts_one (pt_cmpR op_notIn_seq (pe_ix ix_tup (pv 8) pe_int (fun _ _ => rfl)) (pv 4) rfl)) (fun _ _ _ _ _ => pv 8))
        (pe_lc (own := [("_law_at", 7)]) (g := gName 7) (tt := tYes) (te := tOp (rIxL K) (tVar 1) (tVar 7)) rfl scDone.nd (pi_list (pv 2)) (blkOk_by (own := [("_law_at", 7)]) (N := NDn) (sc := defScope sDone) (by decide +kernel))
          (fun _ _ _ _ _ => pg_name (i := 7) scDone.nd rfl (Or.inl rfl)) (fun _ _ _ _ _ => pts_nil) (fun _ _ _ _ _ => pe_ix ix_list (pv 1) (pv 7) (fun _ _ => rfl)))))
      (pss_cons (ps_setLc (i := 6) (own := [("_law_street", 8)]) (g := gName 8) (tt := tYes) (te := teD K) rfl scDone.nd rfl rfl (sw_true rfl rfl rfl (by decide +kernel)) (pi_list (pv 6)) (blkOk_by (own := [("_law_street", 8)]) (N := NDn) (sc := defScope sDone) (by decide +kernel))
          (fun _ _ _ _ _ => pg_name (i := 8) scDone.nd rfl (Or.inl rfl)) (fun _ _ _ _ _ => pts_nil) (fun _ _ _ _ _ => pe_ifExp (pt_cmpR op_in_seq (pe_ix ix_tup (pv 8) pe_int (fun _ _ => rfl)) (pv 5) rfl)
            (pe_op op_catT (pe_slice sl_tup (pv 8) po_none (po_some pe_int)) (pe_tup (pa_cons pe_int (pa_cons (pe_ix ix_tup (pv 8) pe_int (fun _ _ => rfl)) pa_nil)))) (pv 8)))
      (pss_one (ps_ret (pe_lst (pa_cons (pv 6) (pa_cons (pe_ix ix_list (pv 0) pe_int (fun _ _ => rfl)) (pa_cons (pe_ix ix_list (pv 0) pe_int (fun _ _ => rfl)) (pa_cons (pe_ix ix_list (pv 0) pe_int (fun _ _ => rfl)) pa_nil)))))))))), ?_⟩
    have x100 := D0.lx.len
    have y100 := D0.ly.len
    have h60 := D0.len
    rw [snds_len] at x100 y100
    obtain ⟨vx, vy, hW⟩ := D0.w.at_
    -- names
    refine ⟨_, rfl, a, rfl, ⟨_, SqL.of D0.a⟩, fun D1 n1 => ?_⟩
    refine lc_val (us := xs) (vf := V.int) (p := fun _ => true) (gv := fun y => V.str (sAt (snds ws) y).nm) n1 D0.a (by omega) (fun y hy H' s1 N N0 h1 h2 => ?_) (fun H1 s1 hD1 => ?_)
    · obtain ⟨n, t, rfl, e, ht⟩ := ix_work (D0.l.keep s1) D0.lx hy
      exact ⟨rfl, _, rfl, _, rfl, l, _, ((n : Nat) : Int), _, rfl, rfl, SqL.of (D0.l.keep s1).1, atI_nat e, t, _, ((0 : Nat) : Int), _, rfl, rfl, SqT.of ht, atI_nat rfl, h1 rfl _ (Same.refl _)⟩
    have hN : Ws H1 D1 (nmsAt (snds ws) xs) := by
      show H1 D1 = _
      rw [hD1, List.filter_eq_self.mpr fun _ _ => rfl]
      unfold nmsAt
      rw [List.map_map]
      rfl
    clear hD1
    have D1' := D0.keep s1
    refine ⟨_, rfl, b, rfl, ⟨_, SqL.of D1'.b⟩, fun D2 n2 => ?_⟩
    refine lc_val (us := ys) (vf := V.int) (p := fun _ => true) (gv := fun y => V.str (sAt (snds ws) y).nm) n2 D1'.b (by omega) (fun y hy H' s2 N N0 h1 h2 => ?_) (fun H2 s2 hD2 => ?_)
    · obtain ⟨n, t, rfl, e, ht⟩ := ix_work (D1'.l.keep s2) D1'.ly hy
      exact ⟨rfl, _, rfl, _, rfl, l, _, ((n : Nat) : Int), _, rfl, rfl, SqL.of (D1'.l.keep s2).1, atI_nat e, t, _, ((0 : Nat) : Int), _, rfl, rfl, SqT.of ht, atI_nat rfl, h1 rfl _ (Same.refl _)⟩
    have hM : Ws H2 D2 (nmsAt (snds ws) ys) := by
      show H2 D2 = _
      rw [hD2, List.filter_eq_self.mpr fun _ _ => rfl]
      unfold nmsAt
      rw [List.map_map]
      rfl
    clear hD2
    have D2' := D1'.keep s2
    have hN2 := s2 _ _ hN
    have s02 := same_trans s1 s2
    refine ⟨two, fun t nt => ?_⟩
    have s3 := same_upd (o := .tup [V.ref D1, V.ref D2]) nt
    have ht : upd H2 t (.tup [V.ref D1, V.ref D2]) t = some (.tup [V.ref D1, V.ref D2]) := upd_same
    generalize upd H2 t (.tup [V.ref D1, V.ref D2]) = H3 at s3 ht ⊢
    have D3' := D2'.keep s3
    have hN3 := s3 _ _ hN2
    have hM3 := s3 _ _ hM
    have s03 := same_trans s02 s3
    refine ⟨t, _, rfl, SqT.of ht, rfl, _, _, rfl, _, _, rfl, rfl, ?_⟩
    -- the others
    refine ⟨_, rfl, W, _, ((0 : Nat) : Int), _, rfl, rfl, SqL.of (s03 _ _ hW), atI_nat rfl, ls, rfl, ⟨_, SqL.of D3'.w.s.1⟩, fun D4 n4 => ?_⟩
    refine lc_sts (us := ts) (vf := fun t => V.ref t.1) (p := fun t => decide (t.2.nm ∉ nmsAt (snds ws) xs)) (fs := fun t => t.2) n4 D3'.w.s.1 (by omega) (fun t ht H' s4 N N0 h1 h2 => ?_) (fun H4 t4 s4 hD4 e4 => ?_)
    · have ht' := s4 _ _ (D3'.w.s.2 t ht)
      refine ⟨rfl, _, rfl, t.1, _, ((0 : Nat) : Int), _, rfl, rfl, SqT.of ht', atI_nat rfl, _, rfl, D1, (nmsAt (snds ws) xs).map V.str, rfl, Or.inl (SqL.of (s4 _ _ hN3)), rfl, flat_strs _, _, rfl, ?_⟩
      rw [inV_str]
      by_cases hx : t.2.nm ∈ nmsAt (snds ws) xs
      · exact ifF (by rw [decide_eq_true hx]; decide) (h2 (decide_eq_false fun z => z hx) _ (Same.refl _))
      · exact ifT (by rw [decide_eq_false hx]; rfl) ⟨_, rfl, h1 (decide_eq_true hx) _ _ (Same.refl _) ht'⟩
    have D4' := D3'.keep s4
    have e4' : snds t4 = (snds ts).filter fun s => decide (s.nm ∉ nmsAt (snds ws) xs) := by
      rw [e4, show snds ts = ts.map fun t => t.2 from rfl, List.filter_map]
      rfl
    refine ⟨_, rfl, a, rfl, ⟨_, SqL.of D4'.a⟩, fun D5 n5 => ?_⟩
    refine lc_sts (us := xs) (vf := V.int) (p := fun _ => true) (fs := sAt (snds ws)) n5 D4'.a (by omega) (fun x hx H' s5 N N0 h1 h2 => ?_) (fun H5 t5 s5 hD5 e5 => ?_)
    · obtain ⟨n, t, rfl, e, ht⟩ := ix_work (D4'.l.keep s5) D4'.lx hx
      exact ⟨rfl, _, rfl, _, rfl, l, _, ((n : Nat) : Int), _, rfl, rfl, SqL.of (D4'.l.keep s5).1, atI_nat e, h1 rfl t _ (Same.refl _) ht⟩
    rw [List.filter_eq_self.mpr fun _ _ => rfl] at e5
    have hD45 := hD4.keep s5
    have l4 : t4.length ≤ ts.length := by
      rw [← snds_len (ts := t4), e4', ← snds_len (ts := ts)]
      exact List.length_filter_le _ _
    have l5 : t5.length = xs.length := by rw [← snds_len (ts := t5), e5, List.length_map]
    refine ⟨D4, D5, _, _, rfl, rfl, hD45.1, hD5.1, by rw [List.length_map, List.length_map]; omega, fun D6 n6 => ?_⟩
    have s6 := same_upd (o := .lst ((t4.map fun t => V.ref t.1) ++ t5.map fun t => V.ref t.1)) n6
    have hD6 : Sts (upd H5 D6 (.lst ((t4.map fun t => V.ref t.1) ++ t5.map fun t => V.ref t.1))) D6 (t4 ++ t5) := ⟨by rw [upd_same, List.map_append], fun t ht => s6 _ _ (by
      rcases List.mem_append.mp ht with h | h
      · exact hD45.2 t h
      · exact hD5.2 t h)⟩
    generalize upd H5 D6 (.lst ((t4.map fun t => V.ref t.1) ++ t5.map fun t => V.ref t.1)) = H6 at s6 hD6 ⊢
    have s36 := same_trans s4 (same_trans s5 s6)
    have hM6 := s36 _ _ hM3
    have D6' := D3'.keep s36
    -- shut
    refine ⟨_, rfl, D6, rfl, ⟨_, SqL.of hD6.1⟩, fun D7 n7 => ?_⟩
    refine lc_sts (us := t4 ++ t5) (vf := fun t => V.ref t.1) (p := fun _ => true) (fs := fun t => shutS (nmsAt (snds ws) ys) t.2) n7 hD6.1 (by rw [List.length_append]; omega) (fun t ht H' s7 N N0 h1 h2 => ?_) (fun H7 t7 s7 hD7 e7 => ?_)
    · have ht' := s7 _ _ (hD6.2 t ht)
      refine ⟨rfl, _, rfl, t.1, _, ((0 : Nat) : Int), _, rfl, rfl, SqT.of ht', atI_nat rfl, _, rfl, D2, (nmsAt (snds ws) ys).map V.str, rfl, Or.inl (SqL.of (s7 _ _ hM6)), rfl, flat_strs _, _, rfl, ?_⟩
      rw [inV_str]
      by_cases hx : t.2.nm ∈ nmsAt (snds ws) ys
      · refine ifT (by rw [decide_eq_true hx]; rfl) ⟨_, rfl, _, rfl, t.1, _, rfl, SqT.of ht', ?_, fun c1 nc1 => ?_⟩
        · intro z
          exact absurd z.2 (by show ¬ HT.sIx 5 5 (some 3) = 5; decide)
        have k1 := same_upd (o := .tup (cutV t.2.vals none (some ((3 : Nat) : Int)))) nc1
        have hc1 : upd H' c1 (.tup (cutV t.2.vals none (some ((3 : Nat) : Int)))) c1 = some (.tup [V.str t.2.nm, V.str t.2.st, V.str t.2.en]) := upd_same
        show _
        generalize upd H' c1 (.tup (cutV t.2.vals none (some ((3 : Nat) : Int)))) = G1 at k1 hc1 ⊢
        refine ⟨_, rfl, t.1, _, ((4 : Nat) : Int), _, rfl, rfl, SqT.of (k1 _ _ ht'), atI_nat rfl, two, fun c2 nc2 => ?_⟩
        have k2 := same_upd (o := .tup [V.int ((0 : Nat) : Int), V.int t.2.ln]) nc2
        have hc2 : upd G1 c2 (.tup [V.int ((0 : Nat) : Int), V.int t.2.ln]) c2 = some (.tup [V.int ((0 : Nat) : Int), V.int t.2.ln]) := upd_same
        generalize upd G1 c2 (.tup [V.int ((0 : Nat) : Int), V.int t.2.ln]) = G2 at k2 hc2 ⊢
        refine ⟨c1, c2, _, _, rfl, rfl, SqT.of (k2 _ _ hc1), SqT.of hc2, by simp, (by show 3 + 2 ≤ sizeLine; rw [sl]; decide), (fun z => by cases z), fun _ c3 nc3 => ?_⟩
        refine h1 rfl c3 _ (same_trans k1 (same_trans k2 (same_upd nc3))) ?_
        rw [upd_same]
        unfold shutS
        rw [if_pos hx]
        rfl
      · refine ifF (by rw [decide_eq_false hx]; decide) ⟨_, rfl, h1 rfl t.1 _ (Same.refl _) ?_⟩
        unfold shutS
        rw [if_neg hx]
        exact ht'
    have s07 := same_trans s03 (same_trans s36 s7)
    have hW7 := s07 _ _ hW
    refine ⟨_, rfl, _, rfl, W, _, ((1 : Nat) : Int), _, rfl, rfl, SqL.of hW7, atI_nat rfl, _, rfl, W, _, ((2 : Nat) : Int), _, rfl, rfl, SqL.of hW7, atI_nat rfl, _, rfl, W, _, ((3 : Nat) : Int), _, rfl, rfl, SqL.of hW7, atI_nat rfl, four, fun R nR => ?_⟩
    refine q R D7 (.ref vx) (.ref vy) t7 _ (same_trans s07 (same_upd nR)) (s07.free nR) upd_same (hD7.keep (same_upd nR)) ?_
    rw [e7, List.filter_eq_self.mpr fun _ _ => rfl]
    unfold doneS
    rw [← e4', ← e5, show snds t4 ++ snds t5 = snds (t4 ++ t5) from List.map_append.symm, List.map_map]
    rfl
end
end K81
end
section
set_option Elab.async false
set_option linter.all false
set_option maxRecDepth 100000
set_option maxHeartbeats 4000000
namespace K81
open PySem PySem.Spec PyProof.Rows L2 H3
section
variable {P : Program} {w : World} {K : PySem.W.Frag} {mg : Str → Option Value} {base : Heap}
def spMade (CQ : Addr) : Sp := fun vs H Q _ => ∃ (m R D lg : Addr) (x y : V) (ds : List (Addr × S5)) (gs : List Str), vs = [.ref m, .ref R] ∧ IsQ H CQ m (snds ds) gs ∧ H R = some (.lst [.ref D, .ref lg, x, y]) ∧ Sts H D ds ∧ Ws H lg gs ∧ ∀ H', Same H H' → Q (.bl true) H'
theorem scMade : FnScope ["_law_told", "_law_due"] ["_law_told", "_law_due"] (defScope sMade) := ⟨rfl, rfl, rfl, by decide +kernel, rfl, by decide +kernel, by decide +kernel⟩
theorem ok_made {CQ iQ eQ : Addr} {f : Addr} {fd : FuncData} (F : FnP K "_law_is_made" sMade f fd) (c : ClsF K CQ iQ eQ) (hm : mg "Quarter" = some (.ref CQ)) (M : Ms P w K mg base CQ) (EX : Fz P w K mg base "_law_exact" 6 ["_law_one", "_law_other"] (spExact 5)) (T : Tx K mg) : FnOk P w K mg base CX0 7 f fd ["_law_told", "_law_due"] (spMade CQ) := by
  refine F.ok scMade (fun vs H Q E h => ?_) (fun cdv A outer s H vs Q E hr h => ?_)
  · obtain ⟨_, _, _, _, _, _, _, _, rfl, _⟩ := h
    rfl
  · obtain ⟨m, R, D, lg, x, y, ds, gs, rfl, ⟨⟨dx, ml, mg', mts, mgs, hq, pt, as, pg, ag⟩, so, go⟩, hR, hl, hg, z⟩ := h
    have gIs := T.fr "isinstance" (by decide +kernel)
    have gSo := T.fr "sorted" (by decide +kernel)
    have sl := sizeLine_eq
    have two : 2 ≤ sizeLine := by rw [sl]; decide
    have r1 : Room 1 (A.deeper (envOfC "_law_is_made" (defScope sMade) s.heap.objs.size f cdv)) := hr.mono (by decide)
    refine ⟨_, PSs.nox (pss_one (ps_ret (pe_and (pe_callB call_isi (by rfl) gIs (by decide +kernel) (pa_cons (pv 0) (pa_cons (C8.pe_gc (v := .ref CQ) (by rfl) ⟨_, hm, rfl⟩) pa_nil)))
      (pe_one (pe_fz EX hr (by rfl) (pa_cons (pe_lst (pa_cons (pe_mz M.qs (pv 0) r1) (pa_cons (pe_mz M.qg (pv 0) r1) pa_nil))) (pa_cons (pe_lst (pa_cons (pe_callB cr_sortedTx (by rfl) gSo (by decide +kernel) (pa_cons (pe_ix ix_list (pv 1) pe_int (fun _ _ => rfl)) pa_nil)) (pa_cons (pe_callB cr_sortedS (by rfl) gSo (by decide +kernel) (pa_cons (pe_ix ix_list (pv 1) pe_int (fun _ _ => rfl)) pa_nil)) pa_nil))) pa_nil))))))), ?_⟩
    have lm := pt.length_eq
    rw [List.length_map, List.length_map] at lm
    have gl := pg.length_eq
    have s60 := so.l
    have g60 := go.l
    rw [List.length_map] at s60
    refine ⟨_, rfl, _, _, _, _, _, rfl, .own _, c.ty hq.at_, c.kC, _, rfl, ifT rfl ?_⟩
    refine ⟨_, rfl, m, dx, _, rfl, hq.at_, rfl, m, dx, ml, _, _, rfl, hq.at_, rfl, hq.s.1, fun D1 n1 => ?_⟩
    have s1 := same_upd (o := .lst (mts.map fun t => V.ref t.1)) n1
    have hD1 : Sts (upd H D1 (.lst (mts.map fun t => V.ref t.1))) D1 mts := ⟨upd_same, fun t ht => s1 _ _ (hq.s.2 t ht)⟩
    generalize upd H D1 (.lst (mts.map fun t => V.ref t.1)) = H1 at s1 hD1 ⊢
    have hq1 := hq.keep s1
    refine ⟨_, rfl, m, dx, _, rfl, hq1.at_, rfl, m, dx, mg', _, _, rfl, hq1.at_, rfl, hq1.g, fun D2 n2 => ?_⟩
    have s2 := same_upd (o := .lst (mgs.map V.str)) n2
    have hD2 : Ws (upd H1 D2 (.lst (mgs.map V.str))) D2 mgs := upd_same
    generalize upd H1 D2 (.lst (mgs.map V.str)) = H2 at s2 hD2 ⊢
    refine ⟨two, fun L1 nL1 => ?_⟩
    have s3 := same_upd (o := .lst [V.ref D1, V.ref D2]) nL1
    have hL1 : upd H2 L1 (.lst [V.ref D1, V.ref D2]) L1 = some (.lst [V.ref D1, V.ref D2]) := upd_same
    generalize upd H2 L1 (.lst [V.ref D1, V.ref D2]) = H3 at s3 hL1 ⊢
    have s03 := same_trans s1 (same_trans s2 s3)
    have hR3 := s03 _ _ hR
    have hl3 := hl.keep s03
    refine ⟨_, rfl, R, _, ((0 : Nat) : Int), _, rfl, rfl, SqL.of hR3, atI_nat rfl, D, _, nameAt H3, rfl, SqL.of hl3.1, sort_a hl3, sort_b hl3 so.nd, fun ys E1 pm pw nE1 => ?_⟩
    obtain ⟨ts', pt', as', rfl⟩ := sort_c hl3 pm pw
    have s4 := same_upd (o := .lst (ts'.map fun t => V.ref t.1)) nE1
    have hE1 : Sts (upd H3 E1 (.lst (ts'.map fun t => V.ref t.1))) E1 ts' := ⟨upd_same, fun t ht => s4 _ _ (hl3.2 t (pt'.mem_iff.mp ht))⟩
    generalize upd H3 E1 (.lst (ts'.map fun t => V.ref t.1)) = H4 at s4 hE1 ⊢
    have s04 := same_trans s03 s4
    refine ⟨_, rfl, R, _, ((1 : Nat) : Int), _, rfl, rfl, SqL.of (s04 _ _ hR), atI_nat rfl, lg, gs, rfl, SqL.of (s04 _ _ hg), by omega, fun gs' E2 pg' sg nE2 => ?_⟩
    have s5 := same_upd (o := .lst (gs'.map V.str)) nE2
    have hE2 : Ws (upd H4 E2 (.lst (gs'.map V.str))) E2 gs' := upd_same
    generalize upd H4 E2 (.lst (gs'.map V.str)) = H5 at s5 hE2 ⊢
    refine ⟨two, fun L2 nL2 => ?_⟩
    have s6 := same_upd (o := .lst [V.ref E1, V.ref E2]) nL2
    have hL2 : upd H5 L2 (.lst [V.ref E1, V.ref E2]) L2 = some (.lst [V.ref E1, V.ref E2]) := upd_same
    generalize upd H5 L2 (.lst [V.ref E1, V.ref E2]) = H6 at s6 hL2 ⊢
    have s46 := same_trans s5 s6
    have s36 := same_trans s4 s46
    have e1 : snds ts' = snds mts := asc5_uniq (by
      show ((snds ts').map S5.nm).Nodup
      exact ((pt'.map fun t => t.2).map S5.nm).nodup_iff.mpr so.nd) ((pt'.map fun t => t.2).trans pt.symm) as' as
    have e2 : gs' = mgs := asc_uniq (pg'.trans pg.symm) (asc_of_sortedS sg) ag
    subst e2
    refine ⟨.ref L1, .ref L2, .list [.list ((snds mts).map S5.data), .list (gs'.map PyData.str)], rfl, ?_, ?_, dep_two (dep_sts _) (dep_strs _), wid_two (wid_sts (by rw [snds_len]; omega)) (wid_strs (by omega)), fun H' s7 => z H' (same_trans s03 (same_trans s36 s7))⟩
    · exact .lst (s36 _ _ hL1) (.cons ((hD1.keep (same_trans s2 (same_trans s3 s36))).dt) (.cons (dt_ws (same_trans s3 s36 _ _ hD2)) .nil))
    · refine .lst hL2 (.cons ?_ (.cons (dt_ws (s6 _ _ hE2)) .nil))
      rw [← e1]
      exact (hE1.keep s46).dt
end
end K81
end
section
set_option Elab.async false
set_option linter.all false
set_option maxRecDepth 100000
set_option maxHeartbeats 4000000
namespace K81
open PySem PySem.Spec PyProof.Rows L2 H3
theorem pu_ne_sts {H : Hp} {p l : Addr} {n : Int} {ts : List (Addr × S5)} (hp : Pu H p n) (h : H l = some (.lst (ts.map fun t => V.ref t.1))) : l ≠ p := fun e => by
  obtain ⟨xs, hx, a, b, c, d, ex, _⟩ := hp
  rw [e, hx, ex] at h
  cases ts with
  | nil => cases h
  | cons t ts => cases h
theorem pu_ne_ws {H : Hp} {p l : Addr} {n : Int} {ws : List Str} (hp : Pu H p n) (h : Ws H l ws) : l ≠ p := fun e => by
  obtain ⟨xs, hx, a, b, c, d, ex, _⟩ := hp
  have h : H l = some (.lst (ws.map V.str)) := h
  rw [e, hx, ex] at h
  cases ws with
  | nil => cases h
  | cons t ts => cases h
theorem IsQ.but {H H' : Hp} {CQ q p : Addr} {ss : List S5} {gs : List Str} {n : Int} (h : IsQ H CQ q ss gs) (hp : Pu H p n) (b : But p H H') : IsQ H' CQ q ss gs := by
  obtain ⟨⟨dx, l, g, ts, hs, ⟨h1, h2, h3⟩, r⟩, so, go⟩ := h
  refine ⟨⟨dx, l, g, ts, hs, ⟨b _ _ (fun e => ?_) h1, h2.but b (pu_ne_sts hp h2.1) hp.lst, b _ _ (pu_ne_ws hp h3) h3⟩, r⟩, so, go⟩
  obtain ⟨xs, hx⟩ := hp.lst
  rw [e, hx] at h1
  cases h1
/-- crossings to draw from -/
structure XOk (xs : List Str) : Prop where
  nd : xs.Nodup
  wd : ∀ x ∈ xs, Wd x
  l2 : 2 ≤ xs.length
  lh : xs.length ≤ 100
/-- what stands while works are drawn -/
structure WkH (H : Hp) (p W ls lg lc ln : Addr) (ts : List (Addr × S5)) (gs cs ns : List Str) (xc : Addr) (xs : List Str) (n : Int) : Prop where
  wo : WoP H p W ls lg lc ln ts gs cs ns
  pu : Pu H p n
  x : Ws H xc xs
  xo : XOk xs
theorem WkH.but {H H' : Hp} {p W ls lg lc ln : Addr} {ts : List (Addr × S5)} {gs cs ns : List Str} {xc : Addr} {xs : List Str} {n m : Int} (h : WkH H p W ls lg lc ln ts gs cs ns xc xs n) (b : But p H H') (hp : Pu H' p m) : WkH H' p W ls lg lc ln ts gs cs ns xc xs m := ⟨h.wo.but b h.pu.lst, hp, b _ _ (pu_ne_ws h.pu h.x) h.x, h.xo⟩
theorem WkH.keep {H H' : Hp} {p W ls lg lc ln : Addr} {ts : List (Addr × S5)} {gs cs ns : List Str} {xc : Addr} {xs : List Str} {n : Int} (h : WkH H p W ls lg lc ln ts gs cs ns xc xs n) (b : Same H H') : WkH H' p W ls lg lc ln ts gs cs ns xc xs n := ⟨h.wo.keep b, h.pu.same b, b _ _ h.x, h.xo⟩
theorem WkH.mono {H : Hp} {p W ls lg lc ln : Addr} {ts : List (Addr × S5)} {gs cs ns : List Str} {xc : Addr} {xs : List Str} {n m : Int} (h : WkH H p W ls lg lc ln ts gs cs ns xc xs n) (b : n ≤ m) : WkH H p W ls lg lc ln ts gs cs ns xc xs m := ⟨h.wo, h.pu.mono b, h.x, h.xo⟩
/-- the old street of the name, if there is one -/
structure Old (H : Hp) (O : Addr) (os : List (Addr × S5)) (ss : List S5) : Prop where
  s : Sts H O os
  m : ∀ t ∈ os, t.2 ∈ ss
theorem Old.but {H H' : Hp} {p O : Addr} {os : List (Addr × S5)} {ss : List S5} {n : Int} (h : Old H O os ss) (hp : Pu H p n) (b : But p H H') : Old H' O os ss := ⟨h.s.but b (pu_ne_sts hp h.s.1) hp.lst, h.m⟩
theorem Old.keep {H H' : Hp} {O : Addr} {os : List (Addr × S5)} {ss : List S5} (h : Old H O os ss) (b : Same H H') : Old H' O os ss := ⟨h.s.keep b, h.m⟩
abbrev NWk : List Str := ["_law_purse_here", "_law_world_here", "_law_many", "_law_words_here", "_law_found", "_law_names", "_law_crossings", "_law_name", "_law_old", "_law_start", "_law_end", "_law_way", "_law_width_here", "_law_length_here", "_law_street", "_law_word_here"]
theorem scWorks : FnScope NWk ["_law_purse_here", "_law_world_here", "_law_many"] (defScope sWorks) := ⟨rfl, rfl, rfl, by decide +kernel, rfl, by decide +kernel, by decide +kernel⟩
def wkB (j : Nat) : Stmt := (forBody ((defBody sWorks).getD 4 (.Pass ⟨0, 0, 0, 0⟩))).getD j (.Pass ⟨0, 0, 0, 0⟩)
abbrev TWk (P : Program) (w : World) (K : PySem.W.Frag) (mg : Str → Option Value) (base : Heap) (f : Addr) (cdv : Value) (A : Around) (outer : List Env) (s : Shared) (Hl : Hp) (E : XK) : Cx := (cxOf CX0 P w K mg base NWk "_law_works" (defScope sWorks) f cdv A outer s Hl E).nox
/-- the slots -/
abbrev sgW (p W D xc : Addr) (z : Str) (o2 o3 o5 o8 o9 o10 o11 o12 o13 o14 o15 : Option V) : L2.St := [some (.ref p), some (.ref W), o2, o3, some (.ref D), o5, some (.ref xc), some (.str z), o8, o9, o10, o11, o12, o13, o14, o15]
section
variable {P : Program} {w : World} {K : PySem.W.Frag} {mg : Str → Option Value} {base : Heap} {f : Addr} {cdv : Value} {A : Around} {outer : List Env} {s : Shared} {Hl : Hp} {E : XK}
/-- the old street, a start and an end -/
def tWA (u : TS) : TS := fun Z σ H => ∃ (p W ls lg lc ln xc D : Addr) (ts : List (Addr × S5)) (gs cs ns xs : List Str) (z : Str) (n : Int) (o2 o3 o5 o8 o9 o10 o11 o12 o13 o14 o15 : Option V), σ = sgW p W D xc z o2 o3 o5 o8 o9 o10 o11 o12 o13 o14 o15 ∧ WkH H p W ls lg lc ln ts gs cs ns xc xs n ∧ n ≤ 600000 ∧
  ∀ O os x y H', WkH H' p W ls lg lc ln ts gs cs ns xc xs (n + 2) → But p H H' → Old H' O os (snds ts) → Wd x → Wd y → x ≠ y → u Z (sgW p W D xc z o2 o3 o5 (some (.ref O)) (some (.str x)) (some (.str y)) o11 o12 o13 o14 o15) H'
theorem wkA (GP : PairZ P w K mg base) (T : Tx K mg) (hr : Room 4 (A.deeper (envOfC "_law_works" (defScope sWorks) s.heap.objs.size f cdv))) {rest : List Stmt} {u : TS} (hu : PSs (TWk P w K mg base f cdv A outer s Hl E) rest u) :
    PSs (TWk P w K mg base f cdv A outer s Hl E) (wkB 0 :: wkB 1 :: rest) (tWA u) := by
  have gL := T.fr "len" (by decide +kernel)
  refine weak (pss_cons (ps_setLc (i := 8) (own := [("_law_street", 14)]) (g := gName 14) (tt := tTest (tOp rEq (tOp (rIxT K) (tVar 14) (tC (.int ((0 : Nat) : Int)))) (tVar 7))) (te := tVar 14) rfl scWorks.nd rfl rfl (sw_true rfl rfl rfl (by decide +kernel)) (pi_list (pe_ix ix_list (pv 1) pe_int (fun _ _ => rfl))) (blkOk_by (own := [("_law_street", 14)]) (N := NWk) (sc := defScope sWorks) (by decide +kernel))
        (fun _ _ _ _ _ => pg_name (i := 14) scWorks.nd rfl (Or.inl rfl)) (fun _ _ _ _ _ => pts_one (pt_cmpR op_eq (pe_ix ix_tup (pv 14) pe_int (fun _ _ => rfl)) (pv 7) (nomark _))) (fun _ _ _ _ _ => pv 14))
    (pss_cons (ps_asg (pe_ifExp (pt_cmpR (op_neD hr.units) (pv 8) (pe_lst pa_nil) (nomark _)) (pe_slice sl_tup (pe_ix ix_list (pv 8) pe_int (fun _ _ => rfl)) (po_some pe_int) (po_some pe_int))
        (pe_fz GP hr (by rfl) (pa_cons (pv 0) (pa_cons (pe_ifExp (pt_cmpR op_gt (pe_callB call_len_seq (by rfl) gL PySem.boot_len (pa_cons (pe_ix ix_list (pv 1) pe_int (fun _ _ => rfl)) pa_nil)) pe_int (nomark _)) (pe_ix ix_list (pv 1) pe_int (fun _ _ => rfl)) (pv 6)) pa_nil))))
      (pg_tup rfl (pgs_cons (pg_name (i := 9) scWorks.nd rfl (Or.inl rfl)) (pgs_cons (pg_name (i := 10) scWorks.nd rfl (Or.inl rfl)) pgs_nil)))) hu)) ?_
  rintro Z σ H ⟨p, W, ls, lg, lc, ln, xc, D, ts, gs, cs, ns, xs, z, n, o2, o3, o5, o8, o9, o10, o11, o12, o13, o14, o15, rfl, h, hn, q⟩
  have sl := sizeLine_eq
  have z0 : 0 ≤ sizeLine := by rw [sl]; decide
  have l2 := h.wo.wo.l2
  have l3 := h.wo.wo.l3
  have so := h.wo.wo.sok
  have hls := h.wo.wo.s
  refine ⟨_, rfl, W, _, ((0 : Nat) : Int), _, rfl, rfl, SqL.of h.wo.at_, atI_nat rfl, ls, rfl, ⟨_, SqL.of hls.1⟩, fun O nO => ?_⟩
  refine lc_sts (us := ts) (vf := fun t => V.ref t.1) (p := fun t => decide (t.2.nm = z)) (fs := fun t => t.2) nO hls.1 (by omega) (fun t ht H' s1 N N0 h1 h2 => ?_) (fun H1 os s1 hO e1 => ?_)
  · have ht' := s1 _ _ (hls.2 t ht)
    refine ⟨rfl, _, rfl, t.1, _, ((0 : Nat) : Int), _, rfl, rfl, SqT.of ht', atI_nat rfl, _, rfl, rfl, _, rfl, ?_⟩
    by_cases hx : t.2.nm = z
    · exact ifT (by simp [hx]) ⟨_, rfl, h1 (decide_eq_true hx) _ _ (Same.refl _) ht'⟩
    · exact ifF (by simp [hx]) (h2 (decide_eq_false hx) _ (Same.refl _))
  have old1 : Old H1 O os (snds ts) := ⟨hO, fun t ht => by
    have m : t.2 ∈ snds os := List.mem_map.mpr ⟨t, ht, rfl⟩
    rw [e1] at m
    obtain ⟨u, hu, e⟩ := List.mem_map.mp m
    rw [← e]
    exact List.mem_map.mpr ⟨u, (List.mem_filter.mp hu).1, rfl⟩⟩
  have ook : ∀ s ∈ snds os, s.Ok := fun s hs => by
    obtain ⟨t, ht, rfl⟩ := List.mem_map.mp hs
    exact so.ok _ (old1.m t ht)
  have k1 := h.keep s1
  refine ⟨_, rfl, z0, fun N nN => ?_⟩
  have s2 := same_upd (o := .lst []) nN
  have hN : upd H1 N (.lst []) N = some (.lst []) := upd_same
  generalize upd H1 N (.lst []) = H2 at s2 hN ⊢
  have old2 := old1.keep s2
  have k2 := k1.keep s2
  have s02 := same_trans s1 s2
  refine ⟨_, _, dp_of old2.s, .lst (SqL.of hN) .nil, sts_shaped ook, nil_shaped, _, rfl, ?_⟩
  rw [eqv_nil]
  match os, old2, ook with
  | t :: os, old2, ook =>
    have ht := old2.s.2 t List.mem_cons_self
    have to := ook t.2 (by simp)
    refine ifT (by rfl) ⟨_, rfl, O, _, ((0 : Nat) : Int), _, rfl, rfl, SqL.of old2.s.1, atI_nat rfl, _, rfl, _, rfl, t.1, _, rfl, SqT.of ht, ?_, fun b nb => ?_⟩
    · intro e
      exact absurd (show (1 : Nat) = 0 from e.1) (by decide)
    have ec : cutV t.2.vals (some 1) (some 3) = [V.str t.2.st, V.str t.2.en] := rfl
    rw [ec]
    have s3 := same_upd (o := HO.tup [V.str t.2.st, V.str t.2.en]) nb
    have eb : upd H2 b (.tup [V.str t.2.st, V.str t.2.en]) b = some (.tup [V.str t.2.st, V.str t.2.en]) := upd_same
    generalize upd H2 b (.tup [V.str t.2.st, V.str t.2.en]) = H3 at s3 eb ⊢
    refine ⟨b, _, rfl, SqT.of eb, rfl, _, _, rfl, _, _, rfl, rfl, ?_⟩
    exact q O _ _ _ H3 ((k2.keep s3).mono (by omega)) (Same.but (same_trans s02 s3)) (old2.keep s3) to.2.1 to.2.2.1 to.2.2.2.1
  | [], old2, ook =>
    refine ifF (by decide) ?_
    have fin : ∀ (l : Addr) (ws : List Str), Ws H2 l ws → XOk ws → spPair ([.ref p, .ref l] ++ []) H2 (fun v H' => gTup K 2 (gCons (gName 9) (gCons (gName 10) gNil)) v (sgW p W D xc z o2 o3 o5 (some (.ref O)) o9 o10 o11 o12 o13 o14 o15) H' fun σ H' => u Z σ H') E0 := fun l ws hl xo =>
      ⟨p, l, n, ws, rfl, k2.pu, by omega, hl, pu_ne_ws k2.pu hl, xo.nd, xo.l2, xo.lh, fun t a b H3 ha hb ne p3 b3 nt et => ⟨t, _, rfl, SqT.of et, rfl, _, _, rfl, _, _, rfl, rfl,
        q O [] a b H3 (k2.but b3 p3) ((Same.but s02).trans b3) (old2.but k2.pu b3) (xo.wd a ha) (xo.wd b hb) ne⟩⟩
    have hW2 := k2.wo.at_
    have wo := k2.wo.wo
    have l1 := wo.l1
    refine ⟨_, rfl, _, rfl, W, _, ((2 : Nat) : Int), _, rfl, rfl, SqL.of hW2, atI_nat rfl, lc, _, rfl, Or.inl (SqL.of wo.c), _, _, rfl, rfl, _, rfl, ?_⟩
    refine ite2 (fun hc => ?_) (fun _ => ?_)
    · have hc := of_decide_eq_true hc
      rw [List.length_map] at hc
      exact ⟨_, rfl, W, _, ((2 : Nat) : Int), _, rfl, rfl, SqL.of hW2, atI_nat rfl, fin lc cs wo.c ⟨wo.cd, wo.cw, by omega, by omega⟩⟩
    · exact ⟨_, rfl, fin xc xs k2.x k2.xo⟩
end
end K81
end
section
set_option Elab.async false
set_option linter.all false
set_option maxRecDepth 100000
set_option maxHeartbeats 4000000
namespace K81
open PySem PySem.Spec PyProof.Rows L2 H3
section
variable {P : Program} {w : World} {K : PySem.W.Frag} {mg : Str → Option Value} {base : Heap} {f : Addr} {cdv : Value} {A : Around} {outer : List Env} {s : Shared} {Hl : Hp} {E : XK}
/-- now and then the ends of another street -/
def tWB (u : TS) : TS := fun Z σ H => ∃ (p W ls lg lc ln xc D O : Addr) (ts os : List (Addr × S5)) (gs cs ns xs : List Str) (z x y : Str) (n : Int) (o2 o3 o5 o11 o12 o13 o14 o15 : Option V), σ = sgW p W D xc z o2 o3 o5 (some (.ref O)) (some (.str x)) (some (.str y)) o11 o12 o13 o14 o15 ∧ WkH H p W ls lg lc ln ts gs cs ns xc xs n ∧ n ≤ 600100 ∧ Old H O os (snds ts) ∧ Wd x ∧ Wd y ∧ x ≠ y ∧
  ∀ x' y' H', WkH H' p W ls lg lc ln ts gs cs ns xc xs (n + 2) → But p H H' → Old H' O os (snds ts) → Wd x' → Wd y' → x' ≠ y' → u Z (sgW p W D xc z o2 o3 o5 (some (.ref O)) (some (.str x')) (some (.str y')) o11 o12 o13 o14 o15) H'
theorem wkB1 (G : DrawZ P w K mg base) (GO : OneZ P w K mg base) (T : Tx K mg) (hr : Room 4 (A.deeper (envOfC "_law_works" (defScope sWorks) s.heap.objs.size f cdv))) {rest : List Stmt} {u : TS} (hu : PSs (TWk P w K mg base f cdv A outer s Hl E) rest u) :
    PSs (TWk P w K mg base f cdv A outer s Hl E) (wkB 2 :: rest) (tWB u) := by
  have r2 : Room 2 (A.deeper (envOfC "_law_works" (defScope sWorks) s.heap.objs.size f cdv)) := hr.mono (by decide)
  have r3 : Room 3 (A.deeper (envOfC "_law_works" (defScope sWorks) s.heap.objs.size f cdv)) := hr.mono (by decide)
  refine weak (pss_cons (ps_if (PW.pt (pw_and (pt_cmpR (op_eqD hr.units) (pv 8) (pe_lst pa_nil) (nomark _)) (pw_and (pt_cmpR (op_neD hr.units) (pe_ix ix_list (pv 1) pe_int (fun _ _ => rfl)) (pe_lst pa_nil) (nomark _)) (pw_and1 (pt_cmpR op_gt (pe_fz G r2 (by rfl) (pa_cons (pv 0) (pa_cons pe_int pa_nil))) pe_int (nomark _))))))
      (pss_one (ps_asg (pe_slice sl_tup (pe_fz GO r3 (by rfl) (pa_cons (pv 0) (pa_cons (pe_ix ix_list (pv 1) pe_int (fun _ _ => rfl)) pa_nil))) (po_some pe_int) (po_some pe_int)) (pg_tup rfl (pgs_cons (pg_name (i := 9) scWorks.nd rfl (Or.inl rfl)) (pgs_cons (pg_name (i := 10) scWorks.nd rfl (Or.inl rfl)) pgs_nil))))) pss_nil) hu) ?_
  rintro Z σ H ⟨p, W, ls, lg, lc, ln, xc, D, O, ts, os, gs, cs, ns, xs, z, x, y, n, o2, o3, o5, o11, o12, o13, o14, o15, rfl, h, hn, old, wx, wy, nxy, q⟩
  have sl := sizeLine_eq
  have z0 : 0 ≤ sizeLine := by rw [sl]; decide
  have l2 := h.wo.wo.l2
  have l3 := h.wo.wo.l3
  have so := h.wo.wo.sok
  have ook : ∀ s ∈ snds os, s.Ok := fun s hs => by
    obtain ⟨t, ht, rfl⟩ := List.mem_map.mp hs
    exact so.ok _ (old.m t ht)
  refine ⟨_, rfl, z0, fun N nN => ?_⟩
  have s1 := same_upd (o := .lst []) nN
  have hN : upd H N (.lst []) N = some (.lst []) := upd_same
  generalize upd H N (.lst []) = H1 at s1 hN ⊢
  have old1 := old.keep s1
  have k1 := h.keep s1
  refine ⟨_, _, dp_of old1.s, .lst (SqL.of hN) .nil, sts_shaped ook, nil_shaped, _, rfl, ?_⟩
  rw [eqv_nil]
  refine ite2 (fun _ => ?_) (fun _ => ifF (by decide) (q x y H1 (k1.mono (by omega)) (Same.but s1) old1 wx wy nxy))
  refine ⟨_, rfl, W, _, ((0 : Nat) : Int), _, rfl, rfl, SqL.of k1.wo.at_, atI_nat rfl, z0, fun N2 nN2 => ?_⟩
  have s2 := same_upd (o := .lst []) nN2
  have hN2 : upd H1 N2 (.lst []) N2 = some (.lst []) := upd_same
  generalize upd H1 N2 (.lst []) = H2 at s2 hN2 ⊢
  have old2 := old1.keep s2
  have k2 := k1.keep s2
  have s02 := same_trans s1 s2
  refine ⟨_, _, dp_of k2.wo.wo.s, .lst (SqL.of hN2) .nil, sts_shaped so.ok, nil_shaped, _, rfl, ?_⟩
  rw [eqv_nil]
  by_cases hne : ts = []
  · subst hne
    exact ifF (by decide) (ifF (by decide) (q x y H2 (k2.mono (by omega)) (Same.but s02) old2 wx wy nxy))
  have hb : (!((snds ts).map S5.data).isEmpty) = true := by
    cases ts with
    | nil => exact absurd rfl hne
    | cons => rfl
  have lpos : 0 < ts.length := List.length_pos_iff.mpr hne
  obtain ⟨xs1, hx1, hx2⟩ := k2.pu
  refine ifT hb ⟨_, rfl, p, 3, n, xs1, rfl, hx1, hx2, by omega, by decide, by decide, fun r ys r0 r1 hy3 => ⟨_, _, rfl, rfl, _, rfl, ?_⟩⟩
  have b3 : But p H2 (upd H2 p (.lst ys)) := but_self
  have k3 := k2.but b3 (⟨ys, upd_same, hy3⟩ : Pu (upd H2 p (.lst ys)) p (n + 1))
  have old3 := old2.but k2.pu b3
  have hp3 : upd H2 p (.lst ys) p = some (.lst ys) := upd_same
  generalize upd H2 p (.lst ys) = H3 at b3 k3 old3 hp3 ⊢
  have b03 := (Same.but s02).trans b3
  refine ite2 (fun _ => ?_) (fun _ => q x y H3 (k3.mono (by omega)) b03 old3 wx wy nxy)
  have hls := k3.wo.wo.s
  refine ⟨_, rfl, _, rfl, W, _, ((0 : Nat) : Int), _, rfl, rfl, SqL.of k3.wo.at_, atI_nat rfl, p, ls, n + 1, ys, _, rfl, hp3, hy3, by omega, hls.1, Ne.symm k3.wo.ns_, by rw [List.length_map]; exact lpos, by rw [List.length_map]; omega, fun j v ys2 ej hy4 => ?_⟩
  rw [List.getElem?_map] at ej
  cases e2 : ts[j]? with
  | none =>
    rw [e2] at ej
    cases ej
  | some t =>
    rw [e2] at ej
    cases ej
    have tm := List.mem_of_getElem? e2
    have to := so.ok t.2 (List.mem_map.mpr ⟨t, tm, rfl⟩)
    have b4 : But p H3 (upd H3 p (.lst ys2)) := but_self
    have k4 := k3.but b4 (⟨ys2, upd_same, hy4⟩ : Pu (upd H3 p (.lst ys2)) p (n + 1 + 1))
    have old4 := old3.but k3.pu b4
    generalize upd H3 p (.lst ys2) = H4 at b4 k4 old4 ⊢
    have ht4 := k4.wo.wo.s.2 t tm
    refine ⟨_, rfl, _, rfl, t.1, _, rfl, SqT.of ht4, ?_, fun b nb => ?_⟩
    · intro e
      exact absurd (show (1 : Nat) = 0 from e.1) (by decide)
    have ec : cutV t.2.vals (some 1) (some 3) = [V.str t.2.st, V.str t.2.en] := rfl
    rw [ec]
    have s5 := same_upd (o := HO.tup [V.str t.2.st, V.str t.2.en]) nb
    have eb : upd H4 b (.tup [V.str t.2.st, V.str t.2.en]) b = some (.tup [V.str t.2.st, V.str t.2.en]) := upd_same
    generalize upd H4 b (.tup [V.str t.2.st, V.str t.2.en]) = H5 at s5 eb ⊢
    refine ⟨b, _, rfl, SqT.of eb, rfl, _, _, rfl, _, _, rfl, rfl, ?_⟩
    exact q _ _ H5 ((k4.keep s5).mono (by omega)) (b03.trans (b4.trans (Same.but s5))) (old4.keep s5) to.2.1 to.2.2.1 to.2.2.2.1
/-- the way: turned -/
def tWC (u : TS) : TS := fun Z σ H => ∃ (p W ls lg lc ln xc D O : Addr) (ts os : List (Addr × S5)) (gs cs ns xs : List Str) (z x y : Str) (n : Int) (o2 o3 o5 o11 o12 o13 o14 o15 : Option V), σ = sgW p W D xc z o2 o3 o5 (some (.ref O)) (some (.str x)) (some (.str y)) o11 o12 o13 o14 o15 ∧ WkH H p W ls lg lc ln ts gs cs ns xc xs n ∧ n ≤ 600200 ∧ Old H O os (snds ts) ∧ Wd x ∧ Wd y ∧ x ≠ y ∧
  ∀ x' y' (v : Int) H', WkH H' p W ls lg lc ln ts gs cs ns xc xs (n + 1) → But p H H' → Old H' O os (snds ts) → Wd x' → Wd y' → x' ≠ y' → u Z (sgW p W D xc z o2 o3 o5 (some (.ref O)) (some (.str x')) (some (.str y')) (some (.int v)) o12 o13 o14 o15) H'
theorem wkC (G : DrawZ P w K mg base) (hr : Room 4 (A.deeper (envOfC "_law_works" (defScope sWorks) s.heap.objs.size f cdv))) {rest : List Stmt} {u : TS} (hu : PSs (TWk P w K mg base f cdv A outer s Hl E) rest u) :
    PSs (TWk P w K mg base f cdv A outer s Hl E) (wkB 3 :: wkB 4 :: rest) (tWC u) := by
  have r2 : Room 2 (A.deeper (envOfC "_law_works" (defScope sWorks) s.heap.objs.size f cdv)) := hr.mono (by decide)
  refine weak (pss_cons (ps_set (i := 11) scWorks.nd rfl (Or.inl rfl) (pe_fz G r2 (by rfl) (pa_cons (pv 0) (pa_cons pe_int pa_nil))))
    (pss_cons (ps_if (pt_cmpR op_eq (pv 11) pe_int (nomark _)) (pss_one (ps_par (i := 9) (j := 10) rfl scWorks.nd rfl rfl (by decide) rfl rfl (pa_cons (pv 10) (pa_cons (pv 9) pa_nil)) (by rfl))) pss_nil) hu)) ?_
  rintro Z σ H ⟨p, W, ls, lg, lc, ln, xc, D, O, ts, os, gs, cs, ns, xs, z, x, y, n, o2, o3, o5, o11, o12, o13, o14, o15, rfl, h, hn, old, wx, wy, nxy, q⟩
  obtain ⟨xs1, hx1, hx2⟩ := h.pu
  refine ⟨_, rfl, p, 6, n, xs1, rfl, hx1, hx2, by omega, by decide, by decide, fun r ys r0 r1 hy => ?_⟩
  have b1 : But p H (upd H p (.lst ys)) := but_self
  have k1 := h.but b1 (⟨ys, upd_same, hy⟩ : Pu (upd H p (.lst ys)) p (n + 1))
  have old1 := old.but h.pu b1
  generalize upd H p (.lst ys) = H1 at b1 k1 old1 ⊢
  refine ⟨_, rfl, rfl, _, rfl, ?_⟩
  refine ite2 (fun _ => ?_) (fun _ => q x y r H1 k1 b1 old1 wx wy nxy)
  exact ⟨_, rfl, _, rfl, _, _, rfl, q y x r H1 k1 b1 old1 wy wx (Ne.symm nxy)⟩
/-- or drawn anew -/
def tWD (u : TS) : TS := fun Z σ H => ∃ (p W ls lg lc ln xc D O : Addr) (ts os : List (Addr × S5)) (gs cs ns xs : List Str) (z x y : Str) (v n : Int) (o2 o3 o5 o12 o13 o14 o15 : Option V), σ = sgW p W D xc z o2 o3 o5 (some (.ref O)) (some (.str x)) (some (.str y)) (some (.int v)) o12 o13 o14 o15 ∧ WkH H p W ls lg lc ln ts gs cs ns xc xs n ∧ n ≤ 600300 ∧ Old H O os (snds ts) ∧ Wd x ∧ Wd y ∧ x ≠ y ∧
  ∀ x' y' H', WkH H' p W ls lg lc ln ts gs cs ns xc xs (n + 2) → But p H H' → Old H' O os (snds ts) → Wd x' → Wd y' → x' ≠ y' → u Z (sgW p W D xc z o2 o3 o5 (some (.ref O)) (some (.str x')) (some (.str y')) (some (.int v)) o12 o13 o14 o15) H'
theorem wkD (GP : PairZ P w K mg base) (hr : Room 4 (A.deeper (envOfC "_law_works" (defScope sWorks) s.heap.objs.size f cdv))) {rest : List Stmt} {u : TS} (hu : PSs (TWk P w K mg base f cdv A outer s Hl E) rest u) :
    PSs (TWk P w K mg base f cdv A outer s Hl E) (wkB 5 :: rest) (tWD u) := by
  refine weak (pss_cons (ps_if (pt_cmpR op_eq (pv 11) pe_int (nomark _)) (pss_one (ps_asg (pe_fz GP hr (by rfl) (pa_cons (pv 0) (pa_cons (pv 6) pa_nil))) (pg_tup rfl (pgs_cons (pg_name (i := 9) scWorks.nd rfl (Or.inl rfl)) (pgs_cons (pg_name (i := 10) scWorks.nd rfl (Or.inl rfl)) pgs_nil))))) pss_nil) hu) ?_
  rintro Z σ H ⟨p, W, ls, lg, lc, ln, xc, D, O, ts, os, gs, cs, ns, xs, z, x, y, v, n, o2, o3, o5, o12, o13, o14, o15, rfl, h, hn, old, wx, wy, nxy, q⟩
  refine ⟨_, rfl, rfl, _, rfl, ?_⟩
  refine ite2 (fun _ => ?_) (fun _ => q x y H (h.mono (by omega)) (fun _ _ _ e => e) old wx wy nxy)
  refine ⟨_, rfl, _, rfl, p, xc, n, xs, rfl, h.pu, by omega, h.x, pu_ne_ws h.pu h.x, h.xo.nd, h.xo.l2, h.xo.lh, fun t a b H1 ha hb ne p1 b1 nt et => ?_⟩
  exact ⟨t, _, rfl, SqT.of et, rfl, _, _, rfl, _, _, rfl, rfl, q a b H1 (h.but b1 p1) b1 (old.but h.pu b1) (h.xo.wd a ha) (h.xo.wd b hb) ne⟩
end
end K81
end
section
set_option Elab.async false
set_option linter.all false
set_option maxRecDepth 100000
set_option maxHeartbeats 4000000
namespace K81
open PySem PySem.Spec PyProof.Rows L2 H3
section
variable {P : Program} {w : World} {K : PySem.W.Frag} {mg : Str → Option Value} {base : Heap} {f : Addr} {cdv : Value} {A : Around} {outer : List Env} {s : Shared} {Hl : Hp} {E : XK}
/-- the width and the length -/
def tWE (u : TS) : TS := fun Z σ H => ∃ (p W ls lg lc ln xc D O : Addr) (ts os : List (Addr × S5)) (gs cs ns xs : List Str) (z x y : Str) (v n : Int) (o2 o3 o5 o12 o13 o14 o15 : Option V), σ = sgW p W D xc z o2 o3 o5 (some (.ref O)) (some (.str x)) (some (.str y)) (some (.int v)) o12 o13 o14 o15 ∧ WkH H p W ls lg lc ln ts gs cs ns xc xs n ∧ n ≤ 600400 ∧ Old H O os (snds ts) ∧
  ∀ (i j : Int) H', 0 ≤ i → i ≤ 9 → 0 ≤ j → j ≤ 9 → WkH H' p W ls lg lc ln ts gs cs ns xc xs (n + 3) → But p H H' → u Z (sgW p W D xc z o2 o3 o5 (some (.ref O)) (some (.str x)) (some (.str y)) (some (.int v)) (some (.int i)) (some (.int j)) o14 o15) H'
theorem wkE (G : DrawZ P w K mg base) (GW : WidthZ P w K mg base) (GL : LengthZ P w K mg base) (T : Tx K mg) (hr : Room 4 (A.deeper (envOfC "_law_works" (defScope sWorks) s.heap.objs.size f cdv))) {rest : List Stmt} {u : TS} (hu : PSs (TWk P w K mg base f cdv A outer s Hl E) rest u) :
    PSs (TWk P w K mg base f cdv A outer s Hl E) (wkB 6 :: wkB 7 :: rest) (tWE u) := by
  have gMi := T.fr "min" (by decide +kernel)
  have r2 : Room 2 (A.deeper (envOfC "_law_works" (defScope sWorks) s.heap.objs.size f cdv)) := hr.mono (by decide)
  refine weak (pss_cons (ps_par (i := 12) (j := 13) rfl scWorks.nd rfl rfl (by decide) rfl rfl (pa_cons (pe_fz GW hr (by rfl) (pa_cons (pv 0) pa_nil)) (pa_cons (pe_fz GL hr (by rfl) (pa_cons (pv 0) pa_nil)) pa_nil)) (by rfl))
    (pss_cons (ps_if (PW.pt (pw_and (pt_cmpR (op_neD hr.units) (pv 8) (pe_lst pa_nil) (nomark _)) (pw_and1 (pt_cmpR op_gt (pv 11) pe_int (nomark _)))))
      (pss_one (ps_par (i := 12) (j := 13) rfl scWorks.nd rfl rfl (by decide) rfl rfl (pa_cons (pe_callB (call_min2 rfl) (by rfl) gMi (by decide +kernel) (pa_cons pe_int (pa_cons
          (pe_op op_add (pe_op op_add (pe_ix ix_tup (pe_ix ix_list (pv 8) pe_int (fun _ _ => rfl)) pe_int (fun _ _ => rfl)) pe_int) (pe_fz G r2 (by rfl) (pa_cons (pv 0) (pa_cons pe_int pa_nil)))) pa_nil)))
        (pa_cons (pe_ix ix_tup (pe_ix ix_list (pv 8) pe_int (fun _ _ => rfl)) pe_int (fun _ _ => rfl)) pa_nil)) (by rfl))) pss_nil) hu)) ?_
  rintro Z σ H ⟨p, W, ls, lg, lc, ln, xc, D, O, ts, os, gs, cs, ns, xs, z, x, y, v, n, o2, o3, o5, o12, o13, o14, o15, rfl, h, hn, old, q⟩
  have sl := sizeLine_eq
  have z0 : 0 ≤ sizeLine := by rw [sl]; decide
  have so := h.wo.wo.sok
  have ook : ∀ s ∈ snds os, s.Ok := fun s hs => by
    obtain ⟨t, ht, rfl⟩ := List.mem_map.mp hs
    exact so.ok _ (old.m t ht)
  refine ⟨_, rfl, p, n, rfl, h.pu, by omega, fun i H1 i0 i9 p1 b1 => ?_⟩
  refine ⟨_, rfl, p, n + 1, rfl, p1, by omega, fun j H2 j0 j9 p2 b2 => ?_⟩
  have b02 := b1.trans b2
  have k2 := h.but b02 p2
  have old2 := old.but h.pu b02
  refine ⟨_, _, rfl, ?_⟩
  refine ⟨_, rfl, z0, fun N nN => ?_⟩
  have s3 := same_upd (o := .lst []) nN
  have hN : upd H2 N (.lst []) N = some (.lst []) := upd_same
  generalize upd H2 N (.lst []) = H3 at s3 hN ⊢
  have k3 := k2.keep s3
  have old3 := old2.keep s3
  have b03 := b02.trans (Same.but s3)
  refine ⟨_, _, dp_of old3.s, .lst (SqL.of hN) .nil, sts_shaped ook, nil_shaped, _, rfl, ?_⟩
  rw [eqv_nil]
  match os, old3, ook with
  | [], old3, ook => exact ifF (by decide) (ifF (by decide) (q i j H3 i0 i9 j0 j9 (k3.mono (by omega)) b03))
  | t :: os, old3, ook =>
    refine ifT (by rfl) ⟨_, rfl, _, _, rfl, rfl, _, rfl, ?_⟩
    refine ite2 (fun _ => ?_) (fun _ => q i j H3 i0 i9 j0 j9 (k3.mono (by omega)) b03)
    have ht := old3.s.2 t List.mem_cons_self
    have to := ook t.2 (by simp)
    obtain ⟨_, _, _, _, w0, w9, l0, l9⟩ := to
    obtain ⟨xs1, hx1, hx2⟩ := k3.pu
    refine ⟨_, rfl, O, _, ((0 : Nat) : Int), _, rfl, rfl, SqL.of old3.s.1, atI_nat rfl, t.1, _, ((3 : Nat) : Int), _, rfl, rfl, SqT.of ht, atI_nat rfl, _, _, rfl, rfl, ?_⟩
    refine ⟨_, rfl, p, 2, _, xs1, rfl, hx1, hx2, by omega, by decide, by decide, fun r ys r0 r1 hy => ?_⟩
    have b4 : But p H3 (upd H3 p (.lst ys)) := but_self
    have k4 := k3.but b4 (⟨ys, upd_same, hy⟩ : Pu (upd H3 p (.lst ys)) p (n + 1 + 1 + 1))
    have old4 := old3.but k3.pu b4
    generalize upd H3 p (.lst ys) = H4 at b4 k4 old4 ⊢
    have ht4 := old4.s.2 t List.mem_cons_self
    have b04 := b03.trans b4
    refine ⟨_, _, rfl, rfl, _, _, rfl, ?_⟩
    refine ⟨_, rfl, O, _, ((0 : Nat) : Int), _, rfl, rfl, SqL.of old4.s.1, atI_nat rfl, t.1, _, ((4 : Nat) : Int), _, rfl, rfl, SqT.of ht4, atI_nat rfl, _, _, rfl, ?_⟩
    refine q _ t.2.ln H4 ?_ ?_ l0 l9 (k4.mono (by omega)) b04
    · by_cases hc : t.2.wd + 1 + r < 9
      · rw [if_pos hc]
        omega
      · rw [if_neg hc]
        decide
    · by_cases hc : t.2.wd + 1 + r < 9
      · rw [if_pos hc]
        omega
      · rw [if_neg hc]
        decide
/-- the work is put to the others -/
def tWF : TS := fun Z σ H => ∃ (p W xc D : Addr) (z x y : Str) (i j : Int) (us : List (Addr × S5)) (o2 o3 o5 o8 o11 o14 o15 : Option V), σ = sgW p W D xc z o2 o3 o5 o8 (some (.str x)) (some (.str y)) o11 (some (.int i)) (some (.int j)) o14 o15 ∧ Sts H D us ∧ us.length ≤ 1000 ∧
  ∀ a, H a = none → Z.nx (sgW p W D xc z o2 o3 o5 o8 (some (.str x)) (some (.str y)) o11 (some (.int i)) (some (.int j)) o14 o15) (upd (upd H a (.tup (S5.vals ⟨z, x, y, i, j⟩))) D (.lst ((us ++ [(a, (⟨z, x, y, i, j⟩ : S5))]).map fun t => V.ref t.1)))
theorem wkF : PSs (TWk P w K mg base f cdv A outer s Hl E) [wkB 8] tWF := by
  refine weak (pss_one (ps_expr (pe_bm PySem.F.plainAttrs_list PySem.F.slot_list_append PySem.F.type_list_append mt_append (pv 4) (pa_cons (pe_tup (pa_cons (pv 7) (pa_cons (pv 9) (pa_cons (pv 10) (pa_cons (pv 12) (pa_cons (pv 13) pa_nil)))))) pa_nil)))) ?_
  rintro Z σ H ⟨p, W, xc, D, z, x, y, i, j, us, o2, o3, o5, o8, o11, o14, o15, rfl, hD, l1000, q⟩
  have sl := sizeLine_eq
  have five : 5 ≤ sizeLine := by rw [sl]; decide
  refine ⟨_, rfl, Or.inl ⟨rfl, _, SqL.of hD.1⟩, _, rfl, _, rfl, _, rfl, _, rfl, _, rfl, five, fun a na => ?_⟩
  have s1 := same_upd (o := .tup [V.str z, V.str x, V.str y, V.int i, V.int j]) na
  refine ⟨D, _, _, rfl, rfl, s1 _ _ hD.1, by rw [List.length_map]; omega, ?_⟩
  have := q a na
  rw [List.map_append] at this
  exact this
end
end K81
end
section
set_option Elab.async false
set_option linter.all false
set_option maxRecDepth 100000
set_option maxHeartbeats 4000000
namespace K81
open PySem PySem.Spec PyProof.Rows L2 H3
def del (H : Hp) (D : Addr) : Hp := fun a => if a = D then none else H a
theorem del_of {H : Hp} {D a : Addr} {o : HO} (h : H a = some o) (ne : a ≠ D) : del H D a = some o := by
  unfold del
  rw [if_neg ne]
  exact h
theorem del_same {H : Hp} {D : Addr} : Same (del H D) H := fun a o e => by
  unfold del at e
  split at e
  · cases e
  · exact e
theorem del_self {H : Hp} {D : Addr} : del H D D = none := by
  unfold del
  rw [if_pos rfl]
section
variable {P : Program} {w : World} {K : PySem.W.Frag} {mg : Str → Option Value} {base : Heap}
def spWorks : Sp := fun vs H Q _ => ∃ (p W ls lg lc ln : Addr) (ts : List (Addr × S5)) (gs cs ns : List Str) (m : Nat) (n : Int), vs = [.ref p, .ref W, .int (m : Int)] ∧ WoP H p W ls lg lc ln ts gs cs ns ∧ Pu H p n ∧ n ≤ 500000 ∧ m ≤ 5 ∧ cs.length ≤ 7 ∧
  ∀ D us H', But p H H' → Pu H' p (n + 300) → H D = none → Sts H' D us → SOk (snds us) → us.length ≤ 5 → Q (.ref D) H'
/-- [w for w in ws if w not in W[k]] -/
theorem ok_works {f : Addr} {fd : FuncData} (F : FnP K "_law_works" sWorks f fd) (G : DrawZ P w K mg base) (GO : OneZ P w K mg base) (GP : PairZ P w K mg base) (GW : WidthZ P w K mg base) (GL : LengthZ P w K mg base)
    (GWs : Fz P w K mg base "_law_words" 4 ["_law_purse_here", "_law_many"] spWords) (GSh : Fz P w K mg base "_law_shuffled" 3 ["_law_purse_here", "_law_some"] spShuffled) (T : Tx K mg) : FnOk P w K mg base CX0 5 f fd ["_law_purse_here", "_law_world_here", "_law_many"] spWorks := by
  refine F.ok scWorks (fun vs H Q E h => ?_) (fun cdv A outer s H vs Q E hr h => ?_)
  · obtain ⟨_, _, _, _, _, _, _, _, _, _, _, _, rfl, _⟩ := h
    rfl
  · obtain ⟨p, W, ls, lg, lc, ln, ts, gs, cs, ns, m, n, rfl, h0, p0, hn, m5, c7, q⟩ := h
    have r3 : Room 3 (A.deeper (envOfC "_law_works" (defScope sWorks) s.heap.objs.size f cdv)) := hr.mono (by decide)
    have sl := sizeLine_eq
    have z0 : 0 ≤ sizeLine := by rw [sl]; decide
    refine ⟨_, PSs.nox (pss_cons (ps_par (i := 3) (j := 4) rfl scWorks.nd rfl rfl (by decide) rfl rfl (pa_cons (pe_fz GWs hr (by rfl) (pa_cons (pv 0) (pa_cons pe_int pa_nil))) (pa_cons (pe_lst pa_nil) pa_nil)) (by rfl))
      (pss_cons (ps_set (i := 5) scWorks.nd rfl (Or.inl rfl) (pe_slice sl_list (pe_fz GSh r3 (by rfl) (pa_cons (pv 0) (pa_cons (pe_lc (own := [("_law_street", 14)]) (g := gName 14) (tt := tYes) (te := tOp (rIxT K) (tVar 14) (tC (.int ((0 : Nat) : Int)))) rfl scWorks.nd (pi_list (pe_ix ix_list (pv 1) pe_int (fun _ _ => rfl))) (blkOk_by (own := [("_law_street", 14)]) (N := NWk) (sc := defScope sWorks) (by decide +kernel))
          (fun _ _ _ _ _ => pg_name (i := 14) scWorks.nd rfl (Or.inl rfl)) (fun _ _ _ _ _ => pts_nil) (fun _ _ _ _ _ => pe_ix ix_tup (pv 14) pe_int (fun _ _ => rfl))) pa_nil))) po_none (po_some (pv 2))))
      (pss_cons (ps_set (i := 5) scWorks.nd rfl (Or.inl rfl) (pe_slice sl_list (pe_fz GSh r3 (by rfl) (pa_cons (pv 0) (pa_cons (pe_op op_cat (pv 5) (pe_slice sl_list
          (pe_lc (own := [("_law_word_here", 15)]) (g := gName 15) (tt := tTest (tOp (rIn K true) (tVar 15) (tOp (rIxL K) (tVar 1) (tC (.int ((3 : Nat) : Int)))))) (te := tVar 15) rfl scWorks.nd (pi_list (pv 3)) (blkOk_by (own := [("_law_word_here", 15)]) (N := NWk) (sc := defScope sWorks) (by decide +kernel))
            (fun _ _ _ _ _ => pg_name (i := 15) scWorks.nd rfl (Or.inl rfl)) (fun _ _ _ _ _ => pts_one (pt_cmpR op_notIn_seq (pv 15) (pe_ix ix_list (pv 1) pe_int (fun _ _ => rfl)) rfl)) (fun _ _ _ _ _ => pv 15)) po_none (po_some pe_int))) pa_nil))) po_none (po_some (pv 2))))
      (pss_cons (ps_set (i := 6) scWorks.nd rfl (Or.inl rfl) (pe_op op_cat (pe_ix ix_list (pv 1) pe_int (fun _ _ => rfl)) (pe_slice sl_list
          (pe_lc (own := [("_law_word_here", 15)]) (g := gName 15) (tt := tTest (tOp (rIn K true) (tVar 15) (tOp (rIxL K) (tVar 1) (tC (.int ((2 : Nat) : Int)))))) (te := tVar 15) rfl scWorks.nd (pi_list (pv 3)) (blkOk_by (own := [("_law_word_here", 15)]) (N := NWk) (sc := defScope sWorks) (by decide +kernel))
            (fun _ _ _ _ _ => pg_name (i := 15) scWorks.nd rfl (Or.inl rfl)) (fun _ _ _ _ _ => pts_one (pt_cmpR op_notIn_seq (pv 15) (pe_ix ix_list (pv 1) pe_int (fun _ _ => rfl)) rfl)) (fun _ _ _ _ _ => pv 15)) po_none (po_some pe_int))))
      (pss_cons (ps_for PassesOwn.never rfl (pi_list (pv 5)) (pg_name (i := 7) scWorks.nd rfl (Or.inr rfl)) (wkA GP T hr (wkB1 G GO T hr (wkC G hr (wkD GP hr (wkE G GW GL T hr wkF))))))
      (pss_one (ps_ret (pv 4)))))))), ?_⟩
    have l2 := h0.wo.l2
    have l3 := h0.wo.l3
    -- words, found
    refine ⟨_, rfl, p, 8, n, rfl, p0, by omega, by decide, by decide, fun D0 ws H1 wl wnd wwd p1 b1 n0 hw => ?_⟩
    have h1 := h0.but b1 p0.lst
    refine ⟨z0, fun D nD => ⟨_, _, rfl, ?_⟩⟩
    have s2 := same_upd (o := .lst []) nD
    have hD2 : Sts (upd H1 D (.lst [])) D [] := ⟨upd_same, fun t ht => by simp at ht⟩
    generalize upd H1 D (.lst []) = H2 at s2 hD2 ⊢
    have h2 := h1.keep s2
    have p2 := p1.same s2
    have hw2 : Ws H2 D0 ws := s2 _ _ hw
    -- names
    refine ⟨_, rfl, _, rfl, W, _, ((0 : Nat) : Int), _, rfl, rfl, SqL.of h2.at_, atI_nat rfl, ls, rfl, ⟨_, SqL.of h2.wo.s.1⟩, fun N1 nN1 => ?_⟩
    refine lc_val (us := ts) (vf := fun t => V.ref t.1) (p := fun _ => true) (gv := fun t => V.str t.2.nm) nN1 h2.wo.s.1 (by omega) (fun t ht H' s3 N N0 k1 k2 => ?_) (fun H3 s3 hN1 => ?_)
    · exact ⟨rfl, _, rfl, t.1, _, ((0 : Nat) : Int), _, rfl, rfl, SqT.of (s3 _ _ (h2.wo.s.2 t ht)), atI_nat rfl, k1 rfl _ (Same.refl _)⟩
    have hN1 : Ws H3 N1 (nms (snds ts)) := by
      show H3 N1 = _
      rw [hN1, List.filter_eq_self.mpr fun _ _ => rfl, ← nms_snds, List.map_map]
      rfl
    have h3 := h2.keep s3
    have p3 := p2.same s3
    have hw3 : Ws H3 D0 ws := s3 _ _ hw2
    have hD3 := hD2.keep s3
    have nl : (nms (snds ts)).length ≤ 14 := by
      show ((snds ts).map S5.nm).length ≤ 14
      rw [List.length_map, snds_len]
      omega
    refine ⟨p, N1, _, _, rfl, p3, by omega, hN1, pu_ne_ws p3 hN1, by rw [List.length_map]; omega, fun S1 us1 H4 pz p4 b4 nS1 hS1 => ?_⟩
    obtain ⟨ks0, pk0, rfl⟩ := perm_map_inv pz (nms (snds ts)) rfl
    rw [List.length_map] at p4
    have h4 := h3.but b4 p3.lst
    have hw4 : Ws H4 D0 ws := b4 _ _ (pu_ne_ws p3 hw3) hw3
    have hD4 := hD3.but b4 (pu_ne_sts p3 hD3.1) p3.lst
    refine ⟨_, rfl, _, rfl, S1, _, rfl, SqL.of hS1, fun A1 nA1 => ?_⟩
    rw [cut_take, ← List.map_take]
    have s5 := same_upd (o := .lst ((ks0.take m).map V.str)) nA1
    have hA1 : Ws (upd H4 A1 (.lst ((ks0.take m).map V.str))) A1 (ks0.take m) := upd_same
    generalize upd H4 A1 (.lst ((ks0.take m).map V.str)) = H5 at s5 hA1 ⊢
    have h5 := h4.keep s5
    have p5 := p4.same s5
    have hw5 : Ws H5 D0 ws := s5 _ _ hw4
    have hD5 := hD4.keep s5
    -- names, with new ones
    refine ⟨_, rfl, _, rfl, _, rfl, D0, rfl, ⟨_, SqL.of hw5⟩, fun N2 nN2 => ?_⟩
    refine lc_val (us := ws) (vf := V.str) (p := fun x => decide (x ∉ ns)) (gv := V.str) nN2 hw5 (by omega) (fun x hx H' s6 N N0 k1 k2 => ?_) (fun H6 s6 hN2 => ?_)
    · have h' := h5.keep s6
      refine ⟨rfl, _, rfl, _, rfl, W, _, ((3 : Nat) : Int), _, rfl, rfl, SqL.of h'.at_, atI_nat rfl, ln, ns.map V.str, rfl, Or.inl (SqL.of h'.wo.n), rfl, flat_strs ns, _, rfl, ?_⟩
      rw [inV_str]
      by_cases hb : x ∈ ns
      · exact ifF (by rw [decide_eq_true hb]; decide) (k2 (decide_eq_false fun z => z hb) _ (Same.refl _))
      · exact ifT (by rw [decide_eq_false hb]; rfl) ⟨_, rfl, k1 (decide_eq_true hb) _ (Same.refl _)⟩
    have h6 := h5.keep s6
    have p6 := p5.same s6
    have hw6 : Ws H6 D0 ws := s6 _ _ hw5
    have hD6 := hD5.keep s6
    have hA16 := s6 _ _ hA1
    refine ⟨_, rfl, N2, _, rfl, SqL.of hN2, fun A2 nA2 => ?_⟩
    rw [show (some (2 : Int)) = some ((2 : Nat) : Int) from rfl, cut_take, ← List.map_take]
    generalize hmore : (ws.filter fun x => decide (x ∉ ns)).take 2 = more
    have s7 := same_upd (o := .lst (more.map V.str)) nA2
    have hA2 : Ws (upd H6 A2 (.lst (more.map V.str))) A2 more := upd_same
    generalize upd H6 A2 (.lst (more.map V.str)) = H7 at s7 hA2 ⊢
    have ml : more.length ≤ 2 := by
      rw [← hmore, List.length_take]
      omega
    have kl : (ks0.take m).length ≤ 5 := by
      rw [List.length_take]
      omega
    refine ⟨A1, A2, _, _, rfl, rfl, s7 _ _ hA16, hA2, by rw [List.length_map, List.length_map]; omega, fun A3 nA3 => ?_⟩
    rw [← List.map_append]
    have s8 := same_upd (o := .lst ((ks0.take m ++ more).map V.str)) nA3
    have hA3 : Ws (upd H7 A3 (.lst ((ks0.take m ++ more).map V.str))) A3 (ks0.take m ++ more) := upd_same
    generalize upd H7 A3 (.lst ((ks0.take m ++ more).map V.str)) = H8 at s8 hA3 ⊢
    have s68 := same_trans s7 s8
    have h8 := h6.keep s68
    have p8 := p6.same s68
    have hw8 : Ws H8 D0 ws := s68 _ _ hw6
    have hD8 := hD6.keep s68
    refine ⟨p, A3, _, _, rfl, p8, by omega, hA3, pu_ne_ws p8 hA3, by rw [List.length_map, List.length_append]; omega, fun S2 us2 H9 pz2 p9 b9 nS2 hS2 => ?_⟩
    obtain ⟨ks2, pk2, rfl⟩ := perm_map_inv pz2 (ks0.take m ++ more) rfl
    simp only [List.length_map, List.length_append] at p9
    have h9 := h8.but b9 p8.lst
    have hw9 : Ws H9 D0 ws := b9 _ _ (pu_ne_ws p8 hw8) hw8
    have hD9 := hD8.but b9 (pu_ne_sts p8 hD8.1) p8.lst
    refine ⟨_, rfl, _, rfl, S2, _, rfl, SqL.of hS2, fun A4 nA4 => ?_⟩
    rw [cut_take, ← List.map_take]
    generalize hks : ks2.take m = ks
    have s10 := same_upd (o := .lst (ks.map V.str)) nA4
    have hA4 : Ws (upd H9 A4 (.lst (ks.map V.str))) A4 ks := upd_same
    have nA4D : A4 ≠ D := fun e => by
      have := hD9.1
      rw [← e, nA4] at this
      cases this
    generalize upd H9 A4 (.lst (ks.map V.str)) = H10 at s10 hA4 ⊢
    have h10 := h9.keep s10
    have p10 := p9.same s10
    have hw10 : Ws H10 D0 ws := s10 _ _ hw9
    have hD10 := hD9.keep s10
    -- crossings
    refine ⟨_, rfl, W, _, ((2 : Nat) : Int), _, rfl, rfl, SqL.of h10.at_, atI_nat rfl, _, rfl, D0, rfl, ⟨_, SqL.of hw10⟩, fun N3 nN3 => ?_⟩
    refine lc_val (us := ws) (vf := V.str) (p := fun x => decide (x ∉ cs)) (gv := V.str) nN3 hw10 (by omega) (fun x hx H' s6 N N0 k1 k2 => ?_) (fun H11 s11 hN3 => ?_)
    · have h' := h10.keep s6
      refine ⟨rfl, _, rfl, _, rfl, W, _, ((2 : Nat) : Int), _, rfl, rfl, SqL.of h'.at_, atI_nat rfl, lc, cs.map V.str, rfl, Or.inl (SqL.of h'.wo.c), rfl, flat_strs cs, _, rfl, ?_⟩
      rw [inV_str]
      by_cases hb : x ∈ cs
      · exact ifF (by rw [decide_eq_true hb]; decide) (k2 (decide_eq_false fun z => z hb) _ (Same.refl _))
      · exact ifT (by rw [decide_eq_false hb]; rfl) ⟨_, rfl, k1 (decide_eq_true hb) _ (Same.refl _)⟩
    refine ⟨_, rfl, N3, _, rfl, SqL.of hN3, fun A5 nA5 => ?_⟩
    rw [show (some (1 : Int)) = some ((1 : Nat) : Int) from rfl, cut_take, ← List.map_take]
    generalize hone : (ws.filter fun x => decide (x ∉ cs)).take 1 = one
    have s12 := same_upd (o := .lst (one.map V.str)) nA5
    have hA5 : Ws (upd H11 A5 (.lst (one.map V.str))) A5 one := upd_same
    generalize upd H11 A5 (.lst (one.map V.str)) = H12 at s12 hA5 ⊢
    have s1012 := same_trans s11 s12
    have h12 := h10.keep s1012
    have ol : one.length = 1 := by
      rw [← hone, List.length_take]
      have : 0 < (ws.filter fun x => decide (x ∉ cs)).length := by
        rw [List.length_pos_iff]
        intro e
        have sub : ∀ x ∈ ws, x ∈ cs := fun x hx => by
          by_cases hc : x ∈ cs
          · exact hc
          · have : x ∈ ws.filter fun x => decide (x ∉ cs) := List.mem_filter.mpr ⟨hx, decide_eq_true hc⟩
            rw [e] at this
            simp at this
        have := len_le_of_sub ws cs wnd sub
        omega
      omega
    have l1 := h12.wo.l1
    refine ⟨lc, A5, _, _, rfl, rfl, h12.wo.c, hA5, by rw [List.length_map, List.length_map]; omega, fun X nX => ?_⟩
    rw [← List.map_append]
    have s13 := same_upd (o := .lst ((cs ++ one).map V.str)) nX
    have hX : Ws (upd H12 X (.lst ((cs ++ one).map V.str))) X (cs ++ one) := upd_same
    have hD12 := hD10.keep s1012
    have nXD : X ≠ D := fun e => by
      have := hD12.1
      rw [← e, nX] at this
      cases this
    generalize upd H12 X (.lst ((cs ++ one).map V.str)) = H13 at s13 hX ⊢
    have s1013 := same_trans s1012 s13
    have hD13 := hD12.keep s13
    have p13 := p10.same s1013
    have hA13 : Ws H13 A4 ks := s1013 _ _ hA4
    have b113 : But p H1 H13 := (Same.but (same_trans s2 s3)).trans (b4.trans ((Same.but (same_trans s5 (same_trans s6 s68))).trans (b9.trans (Same.but (same_trans s10 s1013)))))
    -- what the loop rests on
    have xo : XOk (cs ++ one) := by
      have om : ∀ x ∈ one, x ∈ ws ∧ x ∉ cs := fun x hx => by
        rw [← hone] at hx
        have := List.mem_filter.mp (List.mem_of_mem_take hx)
        exact ⟨this.1, of_decide_eq_true this.2⟩
      obtain ⟨k, k1, k5, kc, _⟩ := h0.wo.gp
      refine ⟨List.nodup_append.mpr ⟨h0.wo.cd, ?_, fun a ha b hb e => (om b hb).2 (e ▸ ha)⟩, fun x hx => ?_, ?_, ?_⟩
      · rw [← hone]
        exact ((List.take_sublist _ _).trans List.filter_sublist).nodup wnd
      · rcases List.mem_append.mp hx with h | h
        · exact h0.wo.cw x h
        · exact wwd x (om x h).1
      · rw [List.length_append]
        omega
      · rw [List.length_append]
        omega
    have kso : ks.Nodup ∧ (∀ x ∈ ks, Wd x) ∧ ks.length ≤ 5 := by
      have mm : ∀ x ∈ more, x ∈ ws ∧ x ∉ ns := fun x hx => by
        rw [← hmore] at hx
        have := List.mem_filter.mp (List.mem_of_mem_take hx)
        exact ⟨this.1, of_decide_eq_true this.2⟩
      have k0 : ∀ x ∈ ks0, x ∈ ns := fun x hx => by
        have := pk0.mem_iff.mp hx
        obtain ⟨s, hs, rfl⟩ := List.mem_map.mp this
        obtain ⟨t, ht, rfl⟩ := List.mem_map.mp hs
        exact (h0.wo.ok t ht).2.2.2
      have n1 : (ks0.take m ++ more).Nodup := by
        refine List.nodup_append.mpr ⟨(List.take_sublist _ _).nodup (pk0.nodup_iff.mpr h0.wo.sok.nd), ?_, fun a ha b hb e => (mm b hb).2 (e ▸ k0 a (List.mem_of_mem_take ha))⟩
        rw [← hmore]
        exact ((List.take_sublist _ _).trans List.filter_sublist).nodup wnd
      subst hks
      refine ⟨(List.take_sublist _ _).nodup (pk2.nodup_iff.mpr n1), fun x hx => ?_, by rw [List.length_take]; omega⟩
      have := pk2.mem_iff.mp (List.mem_of_mem_take hx)
      rcases List.mem_append.mp this with h | h
      · exact h0.wo.nw x (k0 x (List.mem_of_mem_take h))
      · exact wwd x (mm x h).1
    obtain ⟨knd, kwd, k5⟩ := kso
    have bG : But p H1 (del H13 D) := fun b o nb e => del_of (b113 _ _ nb e) (ne_of_none e nD)
    have npD : p ≠ D := fun e => by
      obtain ⟨xs, hx⟩ := p1.lst
      rw [e, nD] at hx
      cases hx
    have p13' : Pu H13 p (n + 200) := p13.mono (by omega)
    have pG : Pu (del H13 D) p (n + 200) := by
      obtain ⟨xs, hx, hu⟩ := p13
      exact ⟨xs, del_of hx npD, hu.mono (by omega)⟩
    have kG : WkH (del H13 D) p W ls lg lc ln ts gs cs ns X (cs ++ one) (n + 200) := ⟨h1.but bG p1.lst, pG, del_of hX nXD, xo⟩
    have aG : Ws (del H13 D) A4 ks := del_of hA13 nA4D
    have fG : del H13 D D = none := del_self
    have sG : Same (del H13 D) H13 := del_same
    generalize del H13 D = G0 at bG pG kG aG fG sG
    refine ⟨_, rfl, A4, rfl, ⟨_, SqL.of hA13⟩, ?_⟩
    have nAp := pu_ne_ws pG aG
    refine for_list (K := K) (a := A4) (xs := ks.map V.str) (fun i σ H' => But p G0 H' ∧ Pu H' p (n + 200 + 10 * (i : Nat)) ∧ (∃ us, Sts H' D us ∧ (∀ t ∈ us, t.2.Ok) ∧ nms (snds us) = ks.take i) ∧
        ∃ o7 o8 o9 o10 o11 o12 o13 o14 o15 : Option V, σ = [some (.ref p), some (.ref W), some (.int (m : Int)), some (.ref D0), some (.ref D), some (.ref A4), some (.ref X), o7, o8, o9, o10, o11, o12, o13, o14, o15])
      ⟨Same.but sG, p13'.mono (by omega), ⟨[], hD13, fun t ht => by simp at ht, rfl⟩, _, _, _, _, _, _, _, _, _, rfl⟩ (fun i σ H' _ h => SqL.of (h.1 _ _ nAp aG)) ?_ ?_
    · rintro i x σ H' hi ⟨bu, pu, ⟨us, hus, uok, unm⟩, o7, o8, o9, o10, o11, o12, o13, o14, o15, rfl⟩
      obtain ⟨z, hz, rfl⟩ := at_map hi
      have lt := (List.getElem?_eq_some_iff.mp hz).1
      have kH := kG.but bu pu
      have ul : us.length = i := by
        have := congrArg List.length unm
        rw [List.length_take] at this
        simp only [nms, List.length_map] at this
        omega
      refine ⟨p, W, ls, lg, lc, ln, X, D, ts, gs, cs, ns, cs ++ one, z, _, _, _, _, _, _, _, _, _, _, _, _, rfl, kH, by omega, fun O os x y H2 k2 b2 old2 wx wy nxy => ?_⟩
      refine ⟨p, W, ls, lg, lc, ln, X, D, O, ts, os, gs, cs, ns, cs ++ one, z, x, y, _, _, _, _, _, _, _, _, _, rfl, k2, by omega, old2, wx, wy, nxy, fun x y H3 k3 b3 old3 wx wy nxy => ?_⟩
      refine ⟨p, W, ls, lg, lc, ln, X, D, O, ts, os, gs, cs, ns, cs ++ one, z, x, y, _, _, _, _, _, _, _, _, _, rfl, k3, by omega, old3, wx, wy, nxy, fun x y v H4 k4 b4 old4 wx wy nxy => ?_⟩
      refine ⟨p, W, ls, lg, lc, ln, X, D, O, ts, os, gs, cs, ns, cs ++ one, z, x, y, v, _, _, _, _, _, _, _, _, rfl, k4, by omega, old4, wx, wy, nxy, fun x y H5 k5 b5 old5 wx wy nxy => ?_⟩
      refine ⟨p, W, ls, lg, lc, ln, X, D, O, ts, os, gs, cs, ns, cs ++ one, z, x, y, v, _, _, _, _, _, _, _, _, rfl, k5, by omega, old5, fun a b H6 a0 a9 c0 c9 k6 b6 => ?_⟩
      have bt := b2.trans (b3.trans (b4.trans (b5.trans b6)))
      have hus6 := hus.but bt (pu_ne_sts pu hus.1) pu.lst
      refine ⟨p, W, X, D, z, x, y, a, b, us, _, _, _, _, _, _, _, rfl, hus6, by omega, fun c nc => ?_⟩
      have s7 := same_upd (o := .tup (S5.vals ⟨z, x, y, a, b⟩)) nc
      have hc : upd H6 c (.tup (S5.vals ⟨z, x, y, a, b⟩)) c = some (.tup (S5.vals ⟨z, x, y, a, b⟩)) := upd_same
      generalize upd H6 c (.tup (S5.vals ⟨z, x, y, a, b⟩)) = H7 at s7 hc ⊢
      have hus7 := hus6.keep s7
      have p7 := k6.pu.same s7
      have ncD : c ≠ D := fun e => by
        have := hus7.1
        rw [← e, hc] at this
        cases this
      refine ⟨fun d o nd e => ?_, ?_, ⟨us ++ [(c, ⟨z, x, y, a, b⟩)], ⟨upd_same, fun t ht => ?_⟩, fun t ht => ?_, ?_⟩, _, _, _, _, _, _, _, _, _, rfl⟩
      · rw [upd_ne (ne_of_none e fG)]
        exact s7 _ _ (bt _ _ nd (bu _ _ nd e))
      · exact (p7.mono (by push_cast; omega)).upd npD
      · have ht7 : H7 t.1 = some (.tup t.2.vals) := by
          rcases List.mem_append.mp ht with h | h
          · exact hus7.2 t h
          · rw [List.mem_singleton.mp h]
            exact hc
        have ntD : t.1 ≠ D := fun e => by
          have := hus7.1
          rw [← e, ht7] at this
          cases this
        rw [upd_ne ntD]
        exact ht7
      · rcases List.mem_append.mp ht with h | h
        · exact uok t h
        · rw [List.mem_singleton.mp h]
          exact ⟨kwd z (List.mem_of_getElem? hz), wx, wy, nxy, a0, a9, c0, c9⟩
      · rw [List.take_add_one, hz, ← unm]
        simp [nms]
    · rintro σ H' ⟨bu, pu, ⟨us, hus, uok, unm⟩, o7, o8, o9, o10, o11, o12, o13, o14, o15, rfl⟩
      rw [List.length_map, List.take_length] at unm
      rw [List.length_map] at pu
      have ul : us.length = ks.length := by
        have := congrArg List.length unm
        simp only [nms, List.length_map] at this
        exact this
      refine ⟨_, rfl, q D us H' ?_ (pu.mono (by omega)) (b1.free nD (Ne.symm npD)) hus ⟨fun s hs => ?_, ?_, ?_⟩ (by omega)⟩
      · exact b1.trans (bG.trans bu)
      · obtain ⟨t, ht, rfl⟩ := List.mem_map.mp hs
        exact uok t ht
      · rw [unm]
        exact knd
      · rw [snds_len]
        omega
end
end K81
end
section
set_option Elab.async false
set_option linter.all false
set_option maxRecDepth 100000
set_option maxHeartbeats 4000000
namespace K81
open PySem PySem.Spec PyProof.Rows L2 H3
theorem IsQ.perm {H : Hp} {CQ q : Addr} {ss ss' : List S5} {gs : List Str} (h : IsQ H CQ q ss gs) (p : ss'.Perm ss) : IsQ H CQ q ss' gs := by
  obtain ⟨⟨dx, l, g, ts, hs, a, pt, r⟩, so, go⟩ := h
  exact ⟨⟨dx, l, g, ts, hs, a, pt.trans p.symm, r⟩, so.perm p, go⟩
theorem put_perm {ss : List S5} {i : Nat} {s0 : S5} {k : CK} (nd : (nms ss).Nodup) (h : ss[i]? = some s0) (e : k.nm = s0.nm) : ((ss.take i ++ [k.alt s0]) ++ ss.drop (i + 1)).Perm (chgS ss k) := by
  have lt := (List.getElem?_eq_some_iff.mp h).1
  have es : ss = ss.take i ++ s0 :: ss.drop (i + 1) := by
    have h1 : ss[i] = s0 := (List.getElem?_eq_some_iff.mp h).2
    rw [← h1, ← List.drop_eq_getElem_cons lt, List.take_append_drop]
  generalize ss.take i = A at es ⊢
  generalize ss.drop (i + 1) = B at es ⊢
  subst es
  have nd' : ((A ++ s0 :: B).map S5.nm).Nodup := nd
  rw [List.map_append, List.map_cons] at nd'
  obtain ⟨_, n2, n3⟩ := List.nodup_append.mp nd'
  have nB := (List.nodup_cons.mp n2).1
  have hA : ∀ s ∈ A, s.nm ≠ k.nm := fun s hs z => n3 s.nm (List.mem_map.mpr ⟨s, hs, rfl⟩) s0.nm List.mem_cons_self (z.trans e)
  have hB : ∀ s ∈ B, s.nm ≠ k.nm := fun s hs z => nB (by
    rw [← e, ← z]
    exact List.mem_map.mpr ⟨s, hs, rfl⟩)
  have f1 : ∀ L : List S5, (∀ s ∈ L, s.nm ≠ k.nm) → (L.filter fun s => decide (s.nm ≠ k.nm)) = L ∧ (L.filter fun s => decide (s.nm = k.nm)) = [] := fun L hL =>
    ⟨List.filter_eq_self.mpr fun s hs => decide_eq_true (hL s hs), List.filter_eq_nil_iff.mpr fun s hs z => hL s hs (of_decide_eq_true z)⟩
  unfold chgS
  rw [List.filter_append, List.filter_append, List.filter_cons, List.filter_cons, (f1 A hA).1, (f1 A hA).2, (f1 B hB).1, (f1 B hB).2]
  have e0 : s0.nm = k.nm := e.symm
  simp only [e0, ne_eq, not_true_eq_false, decide_false, decide_true, if_true, List.nil_append, List.map_cons, List.map_nil, Bool.false_eq_true, if_false]
  rw [List.append_assoc]
  refine (List.Perm.append_left A ?_).trans (List.Perm.of_eq (List.append_assoc A B [k.alt s0]).symm)
  exact List.perm_append_comm
abbrev NLt : List Str := ["_law_purse_here", "_law_world_here", "_law_quarter_here", "_law_at", "_law_name", "_law_start", "_law_end", "_law_width_here", "_law_length_here", "_law_way", "_law_street", "_law_change"]
theorem scLater : FnScope NLt ["_law_purse_here", "_law_world_here", "_law_quarter_here"] (defScope sLater) := ⟨rfl, rfl, rfl, by decide +kernel, rfl, by decide +kernel, by decide +kernel⟩
def ltS (j : Nat) : Stmt := (defBody sLater).getD j (.Pass ⟨0, 0, 0, 0⟩)
abbrev TLt (P : Program) (w : World) (K : PySem.W.Frag) (mg : Str → Option Value) (base : Heap) (f : Addr) (cdv : Value) (A : Around) (outer : List Env) (s : Shared) (Hl : Hp) (E : XK) : Cx := (cxOf CX0 P w K mg base NLt "_law_later" (defScope sLater) f cdv A outer s Hl E).nox
/-- the slots behind the unpacking -/
abbrev sgL (p W q : Addr) (i : Nat) (s0 : S5) (v : Int) (a c : Addr) : L2.St := [some (.ref p), some (.ref W), some (.ref q), some (.int (i : Int)), some (.str s0.nm), some (.str s0.st), some (.str s0.en), some (.int s0.wd), some (.int s0.ln), some (.int v), some (.ref a), some (.ref c)]
/-- a change of s0 at c, the street after it at a -/
structure ChAt (H : Hp) (a c : Addr) (s0 : S5) (k : CK) : Prop where
  a : H a = some (.tup (k.alt s0).vals)
  c : H c = some (.tup k.vals)
  ok : k.Ok
  nm : k.nm = s0.nm
  ne : k.alt s0 ≠ s0
theorem ChAt.keep {H H' : Hp} {a c : Addr} {s0 : S5} {k : CK} (h : ChAt H a c s0 k) (s : Same H H') : ChAt H' a c s0 k := ⟨s _ _ h.a, s _ _ h.c, h.ok, h.nm, h.ne⟩
theorem mod_ne {i : Int} (h0 : 0 ≤ i) (h9 : i ≤ 9) : (i + 1) % 10 ≠ i ∧ 0 ≤ (i + 1) % 10 ∧ (i + 1) % 10 ≤ 9 := by omega
section
variable {P : Program} {w : World} {K : PySem.W.Frag} {mg : Str → Option Value} {base : Heap} {f : Addr} {cdv : Value} {A : Around} {outer : List Env} {s : Shared} {Hl : Hp} {E : XK}
/-- a turn or a length in the width's place -/
def tLB (u : TS) : TS := fun Z σ H => ∃ (p W q a c : Addr) (i : Nat) (s0 : S5) (v : Int) (k : CK), σ = sgL p W q i s0 v a c ∧ s0.Ok ∧ ChAt H a c s0 k ∧ ∀ a' c' k' H', Same H H' → ChAt H' a' c' s0 k' → u Z (sgL p W q i s0 v a' c') H'
theorem ltB1 {rest : List Stmt} {u : TS} (hu : PSs (TLt P w K mg base f cdv A outer s Hl E) rest u) : PSs (TLt P w K mg base f cdv A outer s Hl E) (ltS 5 :: rest) (tLB u) := by
  refine weak (pss_cons (ps_if (pt_cmpR op_eq (pv 9) pe_int (nomark _)) (pss_one (ps_par (i := 11) (j := 10) rfl scLater.nd rfl rfl (by decide) rfl rfl (pa_cons (pe_tup (pa_cons pe_str (pa_cons (pv 4) pa_nil))) (pa_cons (pe_tup (pa_cons (pv 4) (pa_cons (pv 6) (pa_cons (pv 5) (pa_cons (pv 7) (pa_cons (pv 8) pa_nil)))))) pa_nil)) (by rfl))) pss_nil) hu) ?_
  rintro Z σ H ⟨p, W, q, a, c, i, s0, v, k, rfl, ok, h, q⟩
  have two : 2 ≤ sizeLine := by decide +kernel
  have five : 5 ≤ sizeLine := by decide +kernel
  refine ⟨_, rfl, rfl, _, rfl, ?_⟩
  refine ite2 (fun _ => ?_) (fun _ => q a c k H (Same.refl _) h)
  refine ⟨_, rfl, two, fun c1 n1 => ?_⟩
  have s1 := same_upd (o := .tup [V.str "turn", V.str s0.nm]) n1
  have h1 : upd H c1 (.tup [V.str "turn", V.str s0.nm]) c1 = some (.tup (CK.t s0.nm).vals) := upd_same
  generalize upd H c1 (.tup [V.str "turn", V.str s0.nm]) = H1 at s1 h1 ⊢
  refine ⟨_, rfl, _, rfl, _, rfl, _, rfl, _, rfl, five, fun a1 n2 => ?_⟩
  have s2 := same_upd (o := .tup [V.str s0.nm, V.str s0.en, V.str s0.st, V.int s0.wd, V.int s0.ln]) n2
  have h2 : upd H1 a1 (.tup [V.str s0.nm, V.str s0.en, V.str s0.st, V.int s0.wd, V.int s0.ln]) a1 = some (.tup ((CK.t s0.nm).alt s0).vals) := upd_same
  generalize upd H1 a1 (.tup [V.str s0.nm, V.str s0.en, V.str s0.st, V.int s0.wd, V.int s0.ln]) = H2 at s2 h2 ⊢
  exact ⟨_, _, rfl, q a1 c1 (.t s0.nm) H2 (same_trans s1 s2) ⟨h2, s2 _ _ h1, ⟨ok.1, trivial⟩, rfl, fun e => ok.2.2.2.1 (congrArg S5.en e)⟩⟩
theorem ltB2 (T : Tx K mg) {rest : List Stmt} {u : TS} (hu : PSs (TLt P w K mg base f cdv A outer s Hl E) rest u) : PSs (TLt P w K mg base f cdv A outer s Hl E) (ltS 6 :: rest) (tLB u) := by
  have gI := T.fr "int" (by decide +kernel)
  refine weak (pss_cons (ps_if (pt_cmpR op_eq (pv 9) pe_int (nomark _)) (pss_one (ps_par (i := 11) (j := 10) rfl scLater.nd rfl rfl (by decide) rfl rfl (pa_cons (pe_tup (pa_cons pe_str (pa_cons (pv 4) (pa_cons (pe_op op_mod (pe_callTy call_int1 (by rfl) gI (by decide +kernel) (pa_cons (pe_op op_add (pv 8) pe_int) pa_nil)) pe_int) pa_nil))))
      (pa_cons (pe_tup (pa_cons (pv 4) (pa_cons (pv 5) (pa_cons (pv 6) (pa_cons (pv 7) (pa_cons (pe_op op_mod (pe_callTy call_int1 (by rfl) gI (by decide +kernel) (pa_cons (pe_op op_add (pv 8) pe_int) pa_nil)) pe_int) pa_nil)))))) pa_nil)) (by rfl))) pss_nil) hu) ?_
  rintro Z σ H ⟨p, W, q, a, c, i, s0, v, k, rfl, ok, h, q⟩
  have three : 3 ≤ sizeLine := by decide +kernel
  have five : 5 ≤ sizeLine := by decide +kernel
  have ten : (0 : Int) < 10 := by decide
  obtain ⟨m1, m2, m3⟩ := mod_ne ok.2.2.2.2.2.2.1 ok.2.2.2.2.2.2.2
  refine ⟨_, rfl, rfl, _, rfl, ?_⟩
  refine ite2 (fun _ => ?_) (fun _ => q a c k H (Same.refl _) h)
  refine ⟨_, rfl, _, rfl, _, _, rfl, rfl, Or.inl ⟨_, rfl, _, _, rfl, rfl, ten, three, fun c1 n1 => ?_⟩⟩
  have s1 := same_upd (o := .tup [V.str "length", V.str s0.nm, V.int ((s0.ln + 1) % 10)]) n1
  have h1 : upd H c1 (.tup [V.str "length", V.str s0.nm, V.int ((s0.ln + 1) % 10)]) c1 = some (.tup (CK.l s0.nm ((s0.ln + 1) % 10)).vals) := upd_same
  generalize upd H c1 (.tup [V.str "length", V.str s0.nm, V.int ((s0.ln + 1) % 10)]) = H1 at s1 h1 ⊢
  refine ⟨_, rfl, _, rfl, _, rfl, _, rfl, _, rfl, _, _, rfl, rfl, Or.inl ⟨_, rfl, _, _, rfl, rfl, ten, five, fun a1 n2 => ?_⟩⟩
  have s2 := same_upd (o := .tup [V.str s0.nm, V.str s0.st, V.str s0.en, V.int s0.wd, V.int ((s0.ln + 1) % 10)]) n2
  have h2 : upd H1 a1 (.tup [V.str s0.nm, V.str s0.st, V.str s0.en, V.int s0.wd, V.int ((s0.ln + 1) % 10)]) a1 = some (.tup ((CK.l s0.nm ((s0.ln + 1) % 10)).alt s0).vals) := upd_same
  generalize upd H1 a1 (.tup [V.str s0.nm, V.str s0.st, V.str s0.en, V.int s0.wd, V.int ((s0.ln + 1) % 10)]) = H2 at s2 h2 ⊢
  exact ⟨_, _, rfl, q a1 c1 (.l s0.nm _) H2 (same_trans s1 s2) ⟨h2, s2 _ _ h1, ⟨ok.1, m2, m3⟩, rfl, fun e => m1 (congrArg S5.ln e)⟩⟩
end
end K81
end
section
set_option Elab.async false
set_option linter.all false
set_option maxRecDepth 100000
set_option maxHeartbeats 4000000
namespace K81
open PySem PySem.Spec PyProof.Rows L2 H3
section
variable {P : Program} {w : World} {K : PySem.W.Frag} {mg : Str → Option Value} {base : Heap} {f : Addr} {cdv : Value} {A : Around} {outer : List Env} {s : Shared} {Hl : Hp} {E : XK}
def tLA (u : TS) : TS := fun Z σ H => ∃ (p W ls lg lc ln q : Addr) (ts : List (Addr × S5)) (gs cs ns : List Str) (n : Int) (o3 o4 o5 o6 o7 o8 o9 o10 o11 : Option V), σ = [some (.ref p), some (.ref W), some (.ref q), o3, o4, o5, o6, o7, o8, o9, o10, o11] ∧ WoP H p W ls lg lc ln ts gs cs ns ∧ Pu H p n ∧ n ≤ 600000 ∧
  (∀ R H', Same H H' → H R = none → H' R = some (.lst [.ref W, .ref q]) → Z.rt (.ref R) H') ∧
  ∀ (i : Nat) s0 v a c k H', (snds ts)[i]? = some s0 → But p H H' → Pu H' p (n + 2) → ChAt H' a c s0 k → u Z (sgL p W q i s0 v a c) H'
theorem ltA (G : DrawZ P w K mg base) (T : Tx K mg) (hr : Room 9 (A.deeper (envOfC "_law_later" (defScope sLater) s.heap.objs.size f cdv))) {rest : List Stmt} {u : TS} (hu : PSs (TLt P w K mg base f cdv A outer s Hl E) rest u) :
    PSs (TLt P w K mg base f cdv A outer s Hl E) (ltS 0 :: ltS 1 :: ltS 2 :: ltS 3 :: ltS 4 :: rest) (tLA u) := by
  have gI := T.fr "int" (by decide +kernel)
  have gL := T.fr "len" (by decide +kernel)
  have r2 : Room 2 (A.deeper (envOfC "_law_later" (defScope sLater) s.heap.objs.size f cdv)) := hr.mono (by decide)
  refine weak (pss_cons (ps_if (pt_cmpR (op_eqD hr.units) (pe_ix ix_list (pv 1) pe_int (fun _ _ => rfl)) (pe_lst pa_nil) (nomark _)) (pss_one (ps_ret (pe_lst (pa_cons (pv 1) (pa_cons (pv 2) pa_nil))))) pss_nil)
    (pss_cons (ps_set (i := 3) scLater.nd rfl (Or.inl rfl) (pe_fz G r2 (by rfl) (pa_cons (pv 0) (pa_cons (pe_callB call_len_seq (by rfl) gL PySem.boot_len (pa_cons (pe_ix ix_list (pv 1) pe_int (fun _ _ => rfl)) pa_nil)) pa_nil))))
    (pss_cons (ps_asg (pe_ix ix_list (pe_ix ix_list (pv 1) pe_int (fun _ _ => rfl)) (pv 3) (fun _ _ => rfl)) (pg_tup rfl (pgs_cons (pg_name (i := 4) scLater.nd rfl (Or.inl rfl)) (pgs_cons (pg_name (i := 5) scLater.nd rfl (Or.inl rfl)) (pgs_cons (pg_name (i := 6) scLater.nd rfl (Or.inl rfl)) (pgs_cons (pg_name (i := 7) scLater.nd rfl (Or.inl rfl)) (pgs_cons (pg_name (i := 8) scLater.nd rfl (Or.inl rfl)) pgs_nil)))))))
    (pss_cons (ps_par (i := 9) (j := 10) rfl scLater.nd rfl rfl (by decide) rfl rfl (pa_cons (pe_fz G r2 (by rfl) (pa_cons (pv 0) (pa_cons pe_int pa_nil))) (pa_cons (pe_tup (pa_cons (pv 4) (pa_cons (pv 5) (pa_cons (pv 6) (pa_cons (pe_op op_mod (pe_callTy call_int1 (by rfl) gI (by decide +kernel) (pa_cons (pe_op op_add (pv 7) pe_int) pa_nil)) pe_int) (pa_cons (pv 8) pa_nil)))))) pa_nil)) (by rfl))
    (pss_cons (ps_set (i := 11) scLater.nd rfl (Or.inl rfl) (pe_tup (pa_cons pe_str (pa_cons (pv 4) (pa_cons (pe_op op_mod (pe_callTy call_int1 (by rfl) gI (by decide +kernel) (pa_cons (pe_op op_add (pv 7) pe_int) pa_nil)) pe_int) pa_nil))))) hu))))) ?_
  rintro Z σ H ⟨p, W, ls, lg, lc, ln, q, ts, gs, cs, ns, n, o3, o4, o5, o6, o7, o8, o9, o10, o11, rfl, h, hp, hn, z, y⟩
  have sl := sizeLine_eq
  have z0 : 0 ≤ sizeLine := by rw [sl]; decide
  have two : 2 ≤ sizeLine := by rw [sl]; decide
  have three : 3 ≤ sizeLine := by rw [sl]; decide
  have five : 5 ≤ sizeLine := by rw [sl]; decide
  have ten : (0 : Int) < 10 := by decide
  have l2 := h.wo.l2
  have l3 := h.wo.l3
  have so := h.wo.sok
  refine ⟨_, rfl, W, _, ((0 : Nat) : Int), _, rfl, rfl, SqL.of h.at_, atI_nat rfl, z0, fun N nN => ?_⟩
  have s1 := same_upd (o := .lst []) nN
  have hN : upd H N (.lst []) N = some (.lst []) := upd_same
  generalize upd H N (.lst []) = H1 at s1 hN ⊢
  have h1 := h.keep s1
  have p1 := hp.same s1
  refine ⟨_, _, dp_of h1.wo.s, .lst (SqL.of hN) .nil, sts_shaped so.ok, nil_shaped, _, rfl, ?_⟩
  rw [eqv_nil]
  by_cases hne : ts = []
  · refine ifT (by subst hne; rfl) ?_
    exact ⟨_, rfl, _, rfl, two, fun R nR => z R _ (same_trans s1 (same_upd nR)) (s1.free nR) upd_same⟩
  have lpos : 0 < ts.length := List.length_pos_iff.mpr hne
  have hb : ¬ ((snds ts).map S5.data).isEmpty = true := by
    cases ts with
    | nil => exact absurd rfl hne
    | cons => exact fun z => by cases z
  obtain ⟨xs1, hx1, hx2⟩ := p1
  refine ifF hb ⟨_, rfl, _, rfl, W, _, ((0 : Nat) : Int), _, rfl, rfl, SqL.of h1.at_, atI_nat rfl, ls, _, rfl, Or.inl (SqL.of h1.wo.s.1), p, _, n, xs1, rfl, hx1, hx2, by omega, by rw [List.length_map]; omega, by rw [List.length_map]; omega, fun r ys r0 r1 hy => ?_⟩
  rw [List.length_map] at r1
  obtain ⟨i, rfl⟩ := Int.eq_ofNat_of_zero_le r0
  have lt : i < ts.length := by omega
  have b2 : But p H1 (upd H1 p (.lst ys)) := but_self
  have h2 := h1.but b2 ⟨_, hx1⟩
  have p2 : Pu (upd H1 p (.lst ys)) p (n + 1) := ⟨ys, upd_same, hy⟩
  generalize upd H1 p (.lst ys) = H2 at b2 h2 p2 ⊢
  have b02 := (Same.but s1).trans b2
  have et : ts[i]? = some ts[i] := List.getElem?_eq_getElem lt
  generalize ts[i] = t at et
  have ei : (ts.map fun t => V.ref t.1)[i]? = some (.ref t.1) := by
    rw [List.getElem?_map, et]
    rfl
  have es : (snds ts)[i]? = some t.2 := by
    rw [show snds ts = ts.map fun t => t.2 from rfl, List.getElem?_map, et]
    rfl
  have to := so.ok t.2 (List.mem_of_getElem? es)
  have ht2 := h2.wo.s.2 t (List.mem_of_getElem? et)
  refine ⟨_, rfl, W, _, ((0 : Nat) : Int), _, rfl, rfl, SqL.of h2.at_, atI_nat rfl, _, rfl, ls, _, ((i : Nat) : Int), _, rfl, rfl, SqL.of h2.wo.s.1, atI_nat ei, t.1, _, rfl, SqT.of ht2, rfl, _, _, rfl, _, _, rfl, _, _, rfl, _, _, rfl, _, _, rfl, rfl, ?_⟩
  obtain ⟨xs2, hx3, hx4⟩ := p2
  refine ⟨_, rfl, p, 3, n + 1, xs2, rfl, hx3, hx4, by omega, by decide, by decide, fun v ys2 v0 v1 hy2 => ?_⟩
  have b3 : But p H2 (upd H2 p (.lst ys2)) := but_self
  have p3 : Pu (upd H2 p (.lst ys2)) p (n + 1 + 1) := ⟨ys2, upd_same, hy2⟩
  generalize upd H2 p (.lst ys2) = H3 at b3 p3 ⊢
  have b03 := b02.trans b3
  obtain ⟨m1, m2, m3⟩ := mod_ne to.2.2.2.2.1 to.2.2.2.2.2.1
  refine ⟨_, rfl, _, rfl, _, rfl, _, rfl, _, _, rfl, rfl, Or.inl ⟨_, rfl, _, _, rfl, rfl, ten, _, rfl, five, fun a na => ?_⟩⟩
  have s4 := same_upd (o := .tup [V.str t.2.nm, V.str t.2.st, V.str t.2.en, V.int ((t.2.wd + 1) % 10), V.int t.2.ln]) na
  have ha : upd H3 a (.tup [V.str t.2.nm, V.str t.2.st, V.str t.2.en, V.int ((t.2.wd + 1) % 10), V.int t.2.ln]) a = some (.tup ((CK.w t.2.nm ((t.2.wd + 1) % 10)).alt t.2).vals) := upd_same
  generalize upd H3 a (.tup [V.str t.2.nm, V.str t.2.st, V.str t.2.en, V.int ((t.2.wd + 1) % 10), V.int t.2.ln]) = H4 at s4 ha ⊢
  refine ⟨_, _, rfl, ?_⟩
  refine ⟨_, rfl, _, rfl, _, _, rfl, rfl, Or.inl ⟨_, rfl, _, _, rfl, rfl, ten, three, fun c nc => ?_⟩⟩
  have s5 := same_upd (o := .tup [V.str "width", V.str t.2.nm, V.int ((t.2.wd + 1) % 10)]) nc
  have hc : upd H4 c (.tup [V.str "width", V.str t.2.nm, V.int ((t.2.wd + 1) % 10)]) c = some (.tup (CK.w t.2.nm ((t.2.wd + 1) % 10)).vals) := upd_same
  generalize upd H4 c (.tup [V.str "width", V.str t.2.nm, V.int ((t.2.wd + 1) % 10)]) = H5 at s5 hc ⊢
  exact y i t.2 v a c (.w t.2.nm _) H5 es (b03.trans (Same.but (same_trans s4 s5))) ((p3.same (same_trans s4 s5)).mono (by omega)) ⟨s5 _ _ ha, hc, ⟨to.1, m2, m3⟩, rfl, fun e => m1 (congrArg S5.wd e)⟩
/-- the later world and the later quarter -/
def tLC (CQ : Addr) : TS := fun Z σ H => ∃ (p W ls lg lc ln q a c : Addr) (ts : List (Addr × S5)) (gs cs ns : List Str) (i : Nat) (s0 : S5) (v : Int) (k : CK), σ = sgL p W q i s0 v a c ∧ WoP H p W ls lg lc ln ts gs cs ns ∧ IsQ H CQ q (snds ts) gs ∧ (snds ts)[i]? = some s0 ∧ ChAt H a c s0 k ∧
  ∀ R W' q' ls' ts' H', Same H H' → H R = none → H' R = some (.lst [.ref W', .ref q']) → Wq H' W' ls' lg ts' gs → IsQ H' CQ q' (snds ts') gs → ts'.length = ts.length → Z.rt (.ref R) H'
theorem ltC {CQ : Addr} (GC : Fz P w K mg base "changed" 9 ["quarter", "change"] (spChanged CQ)) (hr : Room 9 (A.deeper (envOfC "_law_later" (defScope sLater) s.heap.objs.size f cdv))) :
    PSs (TLt P w K mg base f cdv A outer s Hl E) [ltS 7] (tLC CQ) := by
  refine weak (pss_one (ps_ret (pe_lst (pa_cons (pe_lst (pa_cons (pe_op op_cat (pe_op op_cat (pe_slice sl_list (pe_ix ix_list (pv 1) pe_int (fun _ _ => rfl)) po_none (po_some (pv 3))) (pe_lst (pa_cons (pv 10) pa_nil))) (pe_slice sl_list (pe_ix ix_list (pv 1) pe_int (fun _ _ => rfl)) (po_some (pe_op op_add (pv 3) pe_int)) po_none))
      (pa_cons (pe_ix ix_list (pv 1) pe_int (fun _ _ => rfl)) (pa_cons (pe_ix ix_list (pv 1) pe_int (fun _ _ => rfl)) (pa_cons (pe_ix ix_list (pv 1) pe_int (fun _ _ => rfl)) pa_nil))))) (pa_cons (pe_fz GC hr (by rfl) (pa_cons (pv 2) (pa_cons (pv 11) pa_nil))) pa_nil))))) ?_
  rintro Z σ H ⟨p, W, ls, lg, lc, ln, q, a, c, ts, gs, cs, ns, i, s0, v, k, rfl, h, hq, es, ch, z⟩
  have sl := sizeLine_eq
  have z1 : 1 ≤ sizeLine := by rw [sl]; decide
  have two : 2 ≤ sizeLine := by rw [sl]; decide
  have four : 4 ≤ sizeLine := by rw [sl]; decide
  have l2 := h.wo.l2
  have l3 := h.wo.l3
  have so := h.wo.sok
  have lt : i < ts.length := by
    have := (List.getElem?_eq_some_iff.mp es).1
    rw [snds_len] at this
    exact this
  refine ⟨_, rfl, W, _, ((0 : Nat) : Int), _, rfl, rfl, SqL.of h.at_, atI_nat rfl, _, rfl, _, rfl, ls, _, rfl, SqL.of h.wo.s.1, fun A1 nA1 => ?_⟩
  rw [cut_take, ← List.map_take]
  have s1 := same_upd (o := .lst ((ts.take i).map fun t => V.ref t.1)) nA1
  have hA1 : upd H A1 (.lst ((ts.take i).map fun t => V.ref t.1)) A1 = some (.lst ((ts.take i).map fun t => V.ref t.1)) := upd_same
  generalize upd H A1 (.lst ((ts.take i).map fun t => V.ref t.1)) = H1 at s1 hA1 ⊢
  refine ⟨_, rfl, z1, fun A2 nA2 => ?_⟩
  have s2 := same_upd (o := .lst [V.ref a]) nA2
  have hA2 : upd H1 A2 (.lst [V.ref a]) A2 = some (.lst [V.ref a]) := upd_same
  generalize upd H1 A2 (.lst [V.ref a]) = H2 at s2 hA2 ⊢
  refine ⟨A1, A2, _, _, rfl, rfl, s2 _ _ hA1, hA2, by rw [List.length_map, List.length_take]; simp only [List.length_cons, List.length_nil]; omega, fun A3 nA3 => ?_⟩
  have s3 := same_upd (o := .lst (((ts.take i).map fun t => V.ref t.1) ++ [V.ref a])) nA3
  have hA3 : upd H2 A3 (.lst (((ts.take i).map fun t => V.ref t.1) ++ [V.ref a])) A3 = some (.lst (((ts.take i).map fun t => V.ref t.1) ++ [V.ref a])) := upd_same
  generalize upd H2 A3 (.lst (((ts.take i).map fun t => V.ref t.1) ++ [V.ref a])) = H3 at s3 hA3 ⊢
  have s03 := same_trans s1 (same_trans s2 s3)
  refine ⟨_, rfl, W, _, ((0 : Nat) : Int), _, rfl, rfl, SqL.of (s03 _ _ h.at_), atI_nat rfl, _, rfl, _, _, rfl, rfl, _, rfl, ls, _, rfl, SqL.of (s03 _ _ h.wo.s.1), fun A4 nA4 => ?_⟩
  rw [show ((i : Int) + 1) = ((i + 1 : Nat) : Int) by omega, cut_drop, ← List.map_drop]
  have s4 := same_upd (o := .lst ((ts.drop (i + 1)).map fun t => V.ref t.1)) nA4
  have hA4 : upd H3 A4 (.lst ((ts.drop (i + 1)).map fun t => V.ref t.1)) A4 = some (.lst ((ts.drop (i + 1)).map fun t => V.ref t.1)) := upd_same
  generalize upd H3 A4 (.lst ((ts.drop (i + 1)).map fun t => V.ref t.1)) = H4 at s4 hA4 ⊢
  refine ⟨A3, A4, _, _, rfl, rfl, s4 _ _ hA3, hA4, by simp only [List.length_append, List.length_map, List.length_take, List.length_drop, List.length_cons, List.length_nil]; omega, fun A5 nA5 => ?_⟩
  generalize hnew : (ts.take i ++ [(a, k.alt s0)]) ++ ts.drop (i + 1) = us
  have eus : (((ts.take i).map fun t => V.ref t.1) ++ [V.ref a]) ++ ((ts.drop (i + 1)).map fun t => V.ref t.1) = us.map fun t => V.ref t.1 := by
    rw [← hnew, List.map_append, List.map_append]
    rfl
  rw [eus]
  have s04 := same_trans s03 s4
  have s5 := same_upd (o := .lst (us.map fun t => V.ref t.1)) nA5
  have s05 := same_trans s04 s5
  have hA5 : Sts (upd H4 A5 (.lst (us.map fun t => V.ref t.1))) A5 us := ⟨upd_same, fun t ht => by
    rw [← hnew] at ht
    rcases List.mem_append.mp ht with m | m
    · rcases List.mem_append.mp m with m | m
      · exact s05 _ _ (h.wo.s.2 t (List.mem_of_mem_take m))
      · rw [List.mem_singleton.mp m]
        exact s05 _ _ ch.a
    · exact s05 _ _ (h.wo.s.2 t (List.mem_of_mem_drop m))⟩
  generalize upd H4 A5 (.lst (us.map fun t => V.ref t.1)) = H5 at s5 s05 hA5 ⊢
  have hW5 := s05 _ _ h.at_
  refine ⟨_, rfl, W, _, ((1 : Nat) : Int), _, rfl, rfl, SqL.of hW5, atI_nat rfl, _, rfl, W, _, ((2 : Nat) : Int), _, rfl, rfl, SqL.of hW5, atI_nat rfl, _, rfl, W, _, ((3 : Nat) : Int), _, rfl, rfl, SqL.of hW5, atI_nat rfl, four, fun W' nW' => ?_⟩
  have s6 := same_upd (o := .lst [V.ref A5, V.ref lg, V.ref lc, V.ref ln]) nW'
  have hW' : upd H5 W' (.lst [V.ref A5, V.ref lg, V.ref lc, V.ref ln]) W' = some (.lst [V.ref A5, V.ref lg, V.ref lc, V.ref ln]) := upd_same
  generalize upd H5 W' (.lst [V.ref A5, V.ref lg, V.ref lc, V.ref ln]) = H6 at s6 hW' ⊢
  have s06 := same_trans s05 s6
  have sus : snds us = ((snds ts).take i ++ [k.alt s0]) ++ (snds ts).drop (i + 1) := by
    rw [← hnew]
    show ((ts.take i ++ [(a, k.alt s0)]) ++ ts.drop (i + 1)).map (fun t => t.2) = (((ts.map fun t => t.2).take i) ++ [k.alt s0]) ++ (ts.map fun t => t.2).drop (i + 1)
    rw [List.map_append, List.map_append, List.map_take, List.map_drop]
    rfl
  have pm : (snds us).Perm (chgS (snds ts) k) := by
    rw [sus]
    exact put_perm so.nd es ch.nm
  have uso : SOk (snds us) := (chg_ok so ch.ok).perm pm
  refine ⟨_, rfl, _, rfl, q, c, snds ts, gs, k, rfl, hq.keep s06, s06 _ _ ch.c, ch.ok, ⟨s0, List.mem_of_getElem? es, ch.nm.symm, ch.ne⟩, fun q' H7 s7 nq hq' => ?_⟩
  refine ⟨two, fun R nR => ?_⟩
  have s8 := same_upd (o := .lst [V.ref W', V.ref q']) nR
  refine z R W' q' A5 us _ (same_trans s06 (same_trans s7 s8)) ((same_trans s06 s7).free nR) upd_same ?_ ((hq'.perm pm).keep s8) ?_
  · have s68 := same_trans s7 s8
    exact ⟨⟨lc, ln, s68 _ _ hW'⟩, (hA5.keep s6).keep s68, s68 _ _ (s06 _ _ h.wo.g), uso, hq.go⟩
  · have e1 := congrArg List.length sus
    rw [snds_len] at e1
    simp only [List.length_append, List.length_take, List.length_drop, List.length_cons, List.length_nil, snds_len] at e1
    omega
/-! ### _law_later -/
def spLater (CQ : Addr) : Sp := fun vs H Q _ => ∃ (p W ls lg lc ln q : Addr) (ts : List (Addr × S5)) (gs cs ns : List Str) (n : Int), vs = [.ref p, .ref W, .ref q] ∧ WoP H p W ls lg lc ln ts gs cs ns ∧ IsQ H CQ q (snds ts) gs ∧ Pu H p n ∧ n ≤ 600000 ∧
  ∀ R W' q' ls' ts' H', But p H H' → Pu H' p (n + 2) → H R = none → H' R = some (.lst [.ref W', .ref q']) → Wq H' W' ls' lg ts' gs → IsQ H' CQ q' (snds ts') gs → ts'.length = ts.length → Q (.ref R) H'
theorem ok_later {CQ : Addr} {f : Addr} {fd : FuncData} (F : FnP K "_law_later" sLater f fd) (G : DrawZ P w K mg base) (GC : Fz P w K mg base "changed" 9 ["quarter", "change"] (spChanged CQ)) (T : Tx K mg) : FnOk P w K mg base CX0 10 f fd ["_law_purse_here", "_law_world_here", "_law_quarter_here"] (spLater CQ) := by
  refine F.ok scLater (fun vs H Q E h => ?_) (fun cdv A outer s H vs Q E hr h => ?_)
  · obtain ⟨_, _, _, _, _, _, _, _, _, _, _, _, rfl, _⟩ := h
    rfl
  · obtain ⟨p, W, ls, lg, lc, ln, q, ts, gs, cs, ns, n, rfl, hW, hq, hp, hn, z⟩ := h
    refine ⟨_, PSs.nox (ltA G T hr (ltB1 (ltB2 T (ltC GC hr)))), ?_⟩
    refine ⟨p, W, ls, lg, lc, ln, q, ts, gs, cs, ns, n, _, _, _, _, _, _, _, _, _, rfl, hW, hp, hn, fun R H' s nR hR => ?_, fun i s0 v a c k H1 es b1 p1 ch => ?_⟩
    · exact z R W q ls ts H' (Same.but s) ((hp.same s).mono (by omega)) nR hR (hW.keep s).wq (hq.keep s) rfl
    · have to := hW.wo.sok.ok s0 (List.mem_of_getElem? es)
      have hW1 := hW.but b1 hp.lst
      have hq1 := hq.but hp b1
      refine ⟨p, W, q, a, c, i, s0, v, k, rfl, to, ch, fun a c k H2 s2 ch => ?_⟩
      refine ⟨p, W, q, a, c, i, s0, v, k, rfl, to, ch, fun a c k H3 s3 ch => ?_⟩
      have s13 := same_trans s2 s3
      refine ⟨p, W, ls, lg, lc, ln, q, a, c, ts, gs, cs, ns, i, s0, v, k, rfl, hW1.keep s13, hq1.keep s13, es, ch, fun R W' q' ls' ts' H4 s4 nR hR hw hq' hl => ?_⟩
      have b04 := b1.trans (Same.but (same_trans s13 s4))
      have p3 := p1.same s13
      have nRp : R ≠ p := fun e => by
        obtain ⟨xs, hx⟩ := p3.lst
        rw [e, hx] at nR
        cases nR
      exact z R W' q' ls' ts' H4 b04 (p3.same s4) ((b1.trans (Same.but s13)).free nR nRp) hR hw hq' hl
end
end K81
end
section
set_option Elab.async false
set_option linter.all false
set_option maxRecDepth 100000
set_option maxHeartbeats 4000000
namespace K81
open PySem PySem.Spec PyProof.Rows L2 H3
/-- all that the law's own look at the stages calls -/
structure SgE (P : Program) (w : World) (K : PySem.W.Frag) (mg : Str → Option Value) (base : Heap) (CQ : Addr) : Prop where
  T : Tx K mg
  ms : Ms P w K mg base CQ
  eq : EqZ P w K mg base CQ
  lo : Fz P w K mg base "_law_lots" 1 ["_law_things"] spLots
  st : Fz P w K mg base "stage_of" 10 ["quarter", "works", "lot"] (spStage CQ)
  du : Fz P w K mg base "during" 9 ["quarter", "works", "lot", "now"] (spDuring CQ)
  ma : Fz P w K mg base "_law_is_made" 7 ["_law_told", "_law_due"] (spMade CQ)
  dn : Fz P w K mg base "_law_done" 1 ["_law_world_here", "_law_works_here", "_law_lot", "_law_now"] spDone
  lq : Fz P w K mg base "_law_quarter" 8 ["_law_world_here"] (spLQuarter CQ)
/-- a quarter, its world, some works -/
structure SgB (H : Hp) (CQ W ls lg q l : Addr) (ts : List (Addr × S5)) (gs : List Str) (ws : List (Addr × S5)) : Prop where
  w : Wq H W ls lg ts gs
  q : IsQ H CQ q (snds ts) gs
  l : Sts H l ws
  wo : SOk (snds ws)
  l5 : ws.length ≤ 5
  len : ts.length + ws.length ≤ 60
theorem SgB.keep {H H' : Hp} {CQ W ls lg q l : Addr} {ts : List (Addr × S5)} {gs : List Str} {ws : List (Addr × S5)} (h : SgB H CQ W ls lg q l ts gs ws) (s : Same H H') : SgB H' CQ W ls lg q l ts gs ws := ⟨h.w.keep s, h.q.keep s, h.l.keep s, h.wo, h.l5, h.len⟩
/-- and a lot, both handed on as copies, and the stage that was told -/
structure SgT (H : Hp) (CQ W ls lg q l lot hd gv tl : Addr) (ts : List (Addr × S5)) (gs : List Str) (ws : List (Addr × S5)) (xs : List Int) : Prop where
  b : SgB H CQ W ls lg q l ts gs ws
  lot : Is H lot xs
  lx : Lot (snds ws).length xs
  hd : Is H hd xs
  gv : Sts H gv ws
  tl : IsQ H CQ tl (whileS (snds ts) (snds ws) xs []) gs
theorem SgT.keep {H H' : Hp} {CQ W ls lg q l lot hd gv tl : Addr} {ts : List (Addr × S5)} {gs : List Str} {ws : List (Addr × S5)} {xs : List Int} (h : SgT H CQ W ls lg q l lot hd gv tl ts gs ws xs) (s : Same H H') : SgT H' CQ W ls lg q l lot hd gv tl ts gs ws xs := ⟨h.b.keep s, s _ _ h.lot, h.lx, s _ _ h.hd, h.gv.keep s, h.tl.keep s⟩
theorem dp_is {K : PySem.W.Frag} {H : Hp} {D : Addr} {xs : List Int} (h : Is H D xs) : Dp K H (.ref D) (.list (xs.map PyData.int)) := .lst (SqL.of h) (dp_ints xs)
abbrev NSg : List Str := ["_law_world_here", "_law_quarter_here", "_law_works_here", "_law_lots_here", "_law_lot", "_law_handed", "_law_given", "_law_told", "_law_now", "_law_some", "_law_between", "_law_at"]
theorem scSg : FnScope NSg ["_law_world_here", "_law_quarter_here", "_law_works_here"] (defScope sStages) := ⟨rfl, rfl, rfl, by decide +kernel, rfl, by decide +kernel, by decide +kernel⟩
def sgO (j : Nat) : Stmt := (forBody ((defBody sStages).getD 1 (.Pass ⟨0, 0, 0, 0⟩))).getD j (.Pass ⟨0, 0, 0, 0⟩)
def sgI (j : Nat) : Stmt := (forBody (sgO 5)).getD j (.Pass ⟨0, 0, 0, 0⟩)
abbrev TSg (P : Program) (w : World) (K : PySem.W.Frag) (mg : Str → Option Value) (base : Heap) (f : Addr) (cdv : Value) (A : Around) (outer : List Env) (s : Shared) (Hl : Hp) (E : XK) : Cx := (cxOf CX0 P w K mg base NSg "_law_stages_right" (defScope sStages) f cdv A outer s Hl E).nox
abbrev sgS (W q l L lot : Addr) (o5 o6 o7 o8 o9 o10 o11 : Option V) : L2.St := [some (.ref W), some (.ref q), some (.ref l), some (.ref L), some (.ref lot), o5, o6, o7, o8, o9, o10, o11]
section
variable {P : Program} {w : World} {K : PySem.W.Frag} {mg : Str → Option Value} {base : Heap} {f : Addr} {cdv : Value} {A : Around} {outer : List Env} {s : Shared} {Hl : Hp} {E : XK} {CQ : Addr}
/-- the copies and the stage -/
def tSA (CQ : Addr) (u : TS) : TS := fun Z σ H => ∃ (W ls lg q l L lot : Addr) (ts : List (Addr × S5)) (gs : List Str) (ws : List (Addr × S5)) (xs : List Int) (o5 o6 o7 o8 o9 o10 o11 : Option V), σ = sgS W q l L lot o5 o6 o7 o8 o9 o10 o11 ∧ SgB H CQ W ls lg q l ts gs ws ∧ Is H lot xs ∧ Lot (snds ws).length xs ∧
  ∀ hd gv tl H', Same H H' → SgT H' CQ W ls lg q l lot hd gv tl ts gs ws xs → u Z (sgS W q l L lot (some (.ref hd)) (some (.ref gv)) (some (.ref tl)) o8 o9 o10 o11) H'
theorem stA (S : SgE P w K mg base CQ) (hr : Room 10 (A.deeper (envOfC "_law_stages_right" (defScope sStages) s.heap.objs.size f cdv))) {rest : List Stmt} {u : TS} (hu : PSs (TSg P w K mg base f cdv A outer s Hl E) rest u) :
    PSs (TSg P w K mg base f cdv A outer s Hl E) (sgO 0 :: sgO 1 :: rest) (tSA CQ u) := by
  have gLi := S.T.fr "list" (by decide +kernel)
  refine weak (pss_cons (ps_par (i := 5) (j := 6) rfl scSg.nd rfl rfl (by decide) rfl rfl (pa_cons (pe_callTy call_list_of (by rfl) gLi (by decide +kernel) (pa_cons (pv 4) pa_nil)) (pa_cons (pe_callTy call_list_of (by rfl) gLi (by decide +kernel) (pa_cons (pv 2) pa_nil)) pa_nil)) (by rfl))
    (pss_cons (ps_set (i := 7) scSg.nd rfl (Or.inl rfl) (pe_fz S.st hr (by rfl) (pa_cons (pv 1) (pa_cons (pv 6) (pa_cons (pv 5) pa_nil))))) hu)) ?_
  rintro Z σ H ⟨W, ls, lg, q, l, L, lot, ts, gs, ws, xs, o5, o6, o7, o8, o9, o10, o11, rfl, b, hlot, lx, z⟩
  refine ⟨_, rfl, lot, _, rfl, Or.inl (SqL.of hlot), fun hd nhd => ?_⟩
  have s1 := same_upd (o := .lst (xs.map V.int)) nhd
  have hhd : Is (upd H hd (.lst (xs.map V.int))) hd xs := upd_same
  generalize upd H hd (.lst (xs.map V.int)) = H1 at s1 hhd ⊢
  have b1 := b.keep s1
  refine ⟨_, rfl, l, _, rfl, Or.inl (SqL.of b1.l.1), fun gv ngv => ?_⟩
  have s2 := same_upd (o := .lst (ws.map fun t => V.ref t.1)) ngv
  have hgv : Sts (upd H1 gv (.lst (ws.map fun t => V.ref t.1))) gv ws := ⟨upd_same, fun t ht => s2 _ _ (b1.l.2 t ht)⟩
  generalize upd H1 gv (.lst (ws.map fun t => V.ref t.1)) = H2 at s2 hgv ⊢
  have s02 := same_trans s1 s2
  have b2 := b.keep s02
  refine ⟨_, _, rfl, ?_⟩
  refine ⟨_, rfl, _, rfl, _, rfl, q, gv, hd, snds ts, gs, ws, xs, rfl, b2.q, hgv, b2.wo, s2 _ _ hhd, lx, by rw [snds_len]; exact b2.len, fun tl H3 s3 ntl htl => ?_⟩
  exact z hd gv tl H3 (same_trans s02 s3) ⟨b2.keep s3, (same_trans s02 s3) _ _ hlot, lx, s3 _ _ (s2 _ _ hhd), hgv.keep s3, htl⟩
/-- it is as it should be; what was handed stays -/
def tSB (CQ : Addr) (u : TS) : TS := fun Z σ H => ∃ (W ls lg q l L lot hd gv tl : Addr) (ts : List (Addr × S5)) (gs : List Str) (ws : List (Addr × S5)) (xs : List Int) (o8 o9 o10 o11 : Option V), σ = sgS W q l L lot (some (.ref hd)) (some (.ref gv)) (some (.ref tl)) o8 o9 o10 o11 ∧ SgT H CQ W ls lg q l lot hd gv tl ts gs ws xs ∧
  ∀ H', Same H H' → SgT H' CQ W ls lg q l lot hd gv tl ts gs ws xs → u Z (sgS W q l L lot (some (.ref hd)) (some (.ref gv)) (some (.ref tl)) o8 o9 o10 o11) H'
theorem stB (S : SgE P w K mg base CQ) (hr : Room 10 (A.deeper (envOfC "_law_stages_right" (defScope sStages) s.heap.objs.size f cdv))) {rest : List Stmt} {u : TS} (hu : PSs (TSg P w K mg base f cdv A outer s Hl E) rest u) :
    PSs (TSg P w K mg base f cdv A outer s Hl E) (sgO 2 :: rest) (tSB CQ u) := by
  have r7 : Room 7 (A.deeper (envOfC "_law_stages_right" (defScope sStages) s.heap.objs.size f cdv)) := hr.mono (by decide)
  have r1 : Room 1 (A.deeper (envOfC "_law_stages_right" (defScope sStages) s.heap.objs.size f cdv)) := hr.mono (by decide)
  refine weak (pss_cons (ps_if (PW.pt (pw_or (pt_not (pt_val (pe_fz S.ma r7 (by rfl) (pa_cons (pv 7) (pa_cons (pe_fz S.dn r1 (by rfl) (pa_cons (pv 0) (pa_cons (pv 2) (pa_cons (pv 4) (pa_cons (pe_lst pa_nil) pa_nil))))) pa_nil)))))
      (pw_or (pt_cmpR (op_neD hr.units) (pv 5) (pv 4) (nomark _)) (pw_or1 (pt_cmpR (op_neD hr.units) (pv 6) (pv 2) (nomark _)))))) (pss_one (ps_ret pe_bl)) pss_nil) hu) ?_
  rintro Z σ H ⟨W, ls, lg, q, l, L, lot, hd, gv, tl, ts, gs, ws, xs, o8, o9, o10, o11, rfl, h, z⟩
  have z0 : 0 ≤ sizeLine := by rw [sizeLine_eq]; decide
  refine ⟨_, rfl, _, rfl, _, rfl, _, rfl, z0, fun D nD => ?_⟩
  have s1 := same_upd (o := .lst []) nD
  have hD : Is (upd H D (.lst [])) D [] := upd_same
  generalize upd H D (.lst []) = H1 at s1 hD ⊢
  have h1 := h.keep s1
  refine ⟨W, ls, lg, l, lot, D, ts, gs, ws, xs, [], rfl, ⟨h1.b.w, h1.b.l, h1.b.wo, h1.lot, h1.lx, hD, lot_nil, h1.b.len⟩, fun R D2 x y ds H2 s2 nR hR hD2 e2 => ?_⟩
  have h2 := h1.keep s2
  have e3 : snds ds = whileS (snds ts) (snds ws) xs [] := by
    rw [e2]
    exact done_while h2.b.wo.nd h2.lx lot_nil (fun y hy => by simp at hy)
  refine ⟨tl, R, D2, lg, x, y, ds, gs, rfl, by rw [e3]; exact h2.tl, hR, hD2, h2.b.w.g, fun H3 s3 => ⟨_, rfl, ifF (by decide) ?_⟩⟩
  have h3 := h2.keep s3
  refine ⟨_, rfl, _, rfl, _, _, dp_is h3.hd, dp_is h3.lot, ints_shaped xs, ints_shaped xs, _, rfl, ifF (by rw [eqv_ints]; simp) ?_⟩
  refine ⟨_, rfl, _, rfl, _, _, dp_of h3.gv, dp_of h3.b.l, sts_shaped h3.b.wo.ok, sts_shaped h3.b.wo.ok, _, rfl, ifF (by rw [eqv_sts]; simp) ?_⟩
  exact z H3 (same_trans s1 (same_trans s2 s3)) h3
/-- what it told may be spoilt; asked again it is the same -/
theorem stC (S : SgE P w K mg base CQ) (hr : Room 10 (A.deeper (envOfC "_law_stages_right" (defScope sStages) s.heap.objs.size f cdv))) {rest : List Stmt} {u : TS} (hu : PSs (TSg P w K mg base f cdv A outer s Hl E) rest u) :
    PSs (TSg P w K mg base f cdv A outer s Hl E) (sgO 3 :: sgO 4 :: rest) (tSB CQ u) := by
  have r1 : Room 1 (A.deeper (envOfC "_law_stages_right" (defScope sStages) s.heap.objs.size f cdv)) := hr.mono (by decide)
  have r2 : Room 2 (A.deeper (envOfC "_law_stages_right" (defScope sStages) s.heap.objs.size f cdv)) := hr.mono (by decide)
  refine weak (pss_cons (ps_expr (pe_bm PySem.F.plainAttrs_list PySem.F.slot_list_append PySem.F.type_list_append mt_append (pe_mz S.ms.qs (pv 7) r1) (pa_cons pe_non pa_nil)))
    (pss_cons (ps_if (pt_cmpR (op_qNe S.eq r2) (pe_fz S.st hr (by rfl) (pa_cons (pv 1) (pa_cons (pv 2) (pa_cons (pv 4) pa_nil)))) (pv 7) (nomark _)) (pss_one (ps_ret pe_bl)) pss_nil) hu)) ?_
  rintro Z σ H ⟨W, ls, lg, q, l, L, lot, hd, gv, tl, ts, gs, ws, xs, o8, o9, o10, o11, rfl, h, z⟩
  have sl := sizeLine_eq
  obtain ⟨dx, ml, mg', mts, mgs, hqp, pt, as, pg, ag⟩ := h.tl.ex
  have m60 := (h.tl.so.perm pt).l
  rw [snds_len] at m60
  refine ⟨_, rfl, tl, dx, _, rfl, hqp.at_, rfl, tl, dx, ml, _, _, rfl, hqp.at_, rfl, hqp.s.1, fun D nD => ?_⟩
  have hD : upd H D (.lst (mts.map fun t => V.ref t.1)) D = some (.lst (mts.map fun t => V.ref t.1)) := upd_same
  refine ⟨Or.inl ⟨rfl, _, SqL.of hD⟩, D, _, _, rfl, rfl, hD, by rw [List.length_map]; omega, ?_⟩
  have s1 : Same H (upd (upd H D (.lst (mts.map fun t => V.ref t.1))) D (.lst ((mts.map fun t => V.ref t.1) ++ [V.non]))) := fun b o e => by
    have ne := ne_of_none e nD
    rw [upd_ne ne, upd_ne ne]
    exact e
  generalize upd (upd H D (.lst (mts.map fun t => V.ref t.1))) D (.lst ((mts.map fun t => V.ref t.1) ++ [V.non])) = H1 at s1 ⊢
  have h1 := h.keep s1
  refine ⟨_, rfl, _, rfl, _, rfl, q, l, lot, snds ts, gs, ws, xs, rfl, h1.b.q, h1.b.l, h1.b.wo, h1.lot, h1.lx, by rw [snds_len]; exact h1.b.len, fun q2 H2 s2 nq2 hq2 => ?_⟩
  have h2 := h1.keep s2
  refine ⟨_, rfl, q2, tl, _, _, _, _, rfl, rfl, hq2, h2.tl, fun k hk => ?_⟩
  have ek : k = true := hk.mpr ⟨List.Perm.refl _, List.Perm.refl _⟩
  subst ek
  exact ⟨_, rfl, ifF (by decide) (z H2 (same_trans s1 s2) h2)⟩
end
end K81
end
section
set_option Elab.async false
set_option linter.all false
set_option maxRecDepth 100000
set_option maxHeartbeats 4000000
namespace K81
open PySem PySem.Spec PyProof.Rows L2 H3
/-- three lists as one -/
theorem shaped3 {a b c : PyData} (ha : PyData.canLay0 a = true ∧ PyData.depth a ≤ 5) (hb : PyData.canLay0 b = true ∧ PyData.depth b ≤ 5) (hc : PyData.canLay0 c = true ∧ PyData.depth c ≤ 5) : SeqAt.shaped (.list [a, b, c]) = true := by
  have h1 : PyData.canLay0 (.list [a, b, c]) = true := by simp [PyData.canLay0, PyData.canLayAll0, ha.1, hb.1, hc.1]
  have h2 : PyData.depth (.list [a, b, c]) ≤ 64 := by
    simp only [PyData.depth, PyData.depthAll]
    omega
  unfold SeqAt.shaped
  rw [h1, decide_eq_true h2]
  rfl
theorem cd_ints (xs : List Int) : PyData.canLay0 (.list (xs.map PyData.int)) = true ∧ PyData.depth (.list (xs.map PyData.int)) ≤ 5 := ⟨lay_ints xs, by
  have := depth_ints xs
  show PyData.depthAll (xs.map PyData.int) + 1 ≤ 5
  omega⟩
theorem cd_sts {ss : List S5} (h : ∀ s ∈ ss, s.Ok) : PyData.canLay0 (.list (ss.map S5.data)) = true ∧ PyData.depth (.list (ss.map S5.data)) ≤ 5 := ⟨lay_sts ss h, by
  have := dep_sts ss
  omega⟩
theorem eqv3 {a b c : PyData} (ha : PyData.eqv a a = true) (hb : PyData.eqv b b = true) (hc : PyData.eqv c c = true) : PyData.eqv (.list [a, b, c]) (.list [a, b, c]) = true := by
  simp [PyData.eqv, PyData.eqvAll, ha, hb, hc]
/-- no position of the one stands in the other -/
def apart (xs ys : List Int) : Bool := !(ys.any fun y => decide (y ∈ xs))
theorem apart_of {xs ys : List Int} (h : apart xs ys = true) : ∀ y ∈ ys, y ∉ xs := fun y hy hx => by
  unfold apart at h
  rw [Bool.not_eq_true', List.any_eq_false] at h
  exact h y hy (decide_eq_true hx)
section
variable {P : Program} {w : World} {K : PySem.W.Frag} {mg : Str → Option Value} {base : Heap} {f : Addr} {cdv : Value} {A : Around} {outer : List Env} {s : Shared} {Hl : Hp} {E : XK} {CQ : Addr}
/-- while others are being done -/
def tSI (CQ : Addr) : TS := fun Z σ H => ∃ (W ls lg q l L lot hd gv tl nw : Addr) (ts : List (Addr × S5)) (gs : List Str) (ws : List (Addr × S5)) (xs ys : List Int) (o9 o10 o11 : Option V), σ = sgS W q l L lot (some (.ref hd)) (some (.ref gv)) (some (.ref tl)) (some (.ref nw)) o9 o10 o11 ∧ SgT H CQ W ls lg q l lot hd gv tl ts gs ws xs ∧ Is H nw ys ∧ Lot (snds ws).length ys ∧ (∀ y ∈ ys, y ∉ xs) ∧
  ∀ o9 o10 H', Same H H' → Z.nx (sgS W q l L lot (some (.ref hd)) (some (.ref gv)) (some (.ref tl)) (some (.ref nw)) o9 o10 o11) H'
theorem stI (S : SgE P w K mg base CQ) (hr : Room 10 (A.deeper (envOfC "_law_stages_right" (defScope sStages) s.heap.objs.size f cdv))) :
    PSs (TSg P w K mg base f cdv A outer s Hl E) [sgI 0, sgI 1, sgI 2] (tSI CQ) := by
  have gLi := S.T.fr "list" (by decide +kernel)
  have r9 : Room 9 (A.deeper (envOfC "_law_stages_right" (defScope sStages) s.heap.objs.size f cdv)) := hr.mono (by decide)
  have r7 : Room 7 (A.deeper (envOfC "_law_stages_right" (defScope sStages) s.heap.objs.size f cdv)) := hr.mono (by decide)
  have r1 : Room 1 (A.deeper (envOfC "_law_stages_right" (defScope sStages) s.heap.objs.size f cdv)) := hr.mono (by decide)
  refine weak (pss_cons (ps_set (i := 9) scSg.nd rfl (Or.inl rfl) (pe_callTy call_list_of (by rfl) gLi (by decide +kernel) (pa_cons (pv 8) pa_nil)))
    (pss_cons (ps_set (i := 10) scSg.nd rfl (Or.inl rfl) (pe_fz S.du r9 (by rfl) (pa_cons (pv 1) (pa_cons (pv 6) (pa_cons (pv 5) (pa_cons (pv 9) pa_nil))))))
    (pss_one (ps_if (PW.pt (pw_or (pt_not (pt_val (pe_fz S.ma r7 (by rfl) (pa_cons (pv 10) (pa_cons (pe_fz S.dn r1 (by rfl) (pa_cons (pv 0) (pa_cons (pv 2) (pa_cons (pv 4) (pa_cons (pv 8) pa_nil))))) pa_nil)))))
      (pw_or1 (pt_cmpR (op_neD hr.units) (pe_lst (pa_cons (pv 5) (pa_cons (pv 9) (pa_cons (pv 6) pa_nil)))) (pe_lst (pa_cons (pv 4) (pa_cons (pv 8) (pa_cons (pv 2) pa_nil)))) (nomark _))))) (pss_one (ps_ret pe_bl)) pss_nil)))) ?_
  rintro Z σ H ⟨W, ls, lg, q, l, L, lot, hd, gv, tl, nw, ts, gs, ws, xs, ys, o9, o10, o11, rfl, h, hnw, ly, dj, z⟩
  have sl := sizeLine_eq
  have three : 3 ≤ sizeLine := by rw [sl]; decide
  refine ⟨_, rfl, nw, _, rfl, Or.inl (SqL.of hnw), fun so nso => ?_⟩
  have s1 := same_upd (o := .lst (ys.map V.int)) nso
  have hso : Is (upd H so (.lst (ys.map V.int))) so ys := upd_same
  generalize upd H so (.lst (ys.map V.int)) = H1 at s1 hso ⊢
  have h1 := h.keep s1
  refine ⟨_, rfl, _, rfl, _, rfl, _, rfl, q, gv, hd, so, snds ts, gs, ws, xs, ys, rfl, ⟨h1.b.q, h1.gv, h1.b.wo, h1.hd, h1.lx, hso, ly, by rw [snds_len]; exact h1.b.len⟩, dj, fun bt H2 s2 nbt hbt => ?_⟩
  have h2 := h1.keep s2
  have s02 := same_trans s1 s2
  refine ⟨_, rfl, _, rfl, _, rfl, _, rfl, _, rfl, W, ls, lg, l, lot, nw, ts, gs, ws, xs, ys, rfl, ⟨h2.b.w, h2.b.l, h2.b.wo, h2.lot, h2.lx, s02 _ _ hnw, ly, h2.b.len⟩, fun R D2 x y ds H3 s3 nR hR hD2 e2 => ?_⟩
  have h3 := h2.keep s3
  have e3 : snds ds = whileS (snds ts) (snds ws) xs ys := by
    rw [e2]
    exact done_while h3.b.wo.nd h3.lx ly dj
  refine ⟨bt, R, D2, lg, x, y, ds, gs, rfl, by rw [e3]; exact hbt.keep s3, hR, hD2, h3.b.w.g, fun H4 s4 => ⟨_, rfl, ifF (by decide) ?_⟩⟩
  have h4 := h3.keep s4
  have s24 := same_trans s3 s4
  have s04 := same_trans s02 s24
  have hso4 := s24 _ _ (s2 _ _ hso)
  refine ⟨_, rfl, _, rfl, _, rfl, three, fun L1 nL1 => ?_⟩
  have s5 := same_upd (o := .lst [V.ref hd, V.ref so, V.ref gv]) nL1
  have hL1 : upd H4 L1 (.lst [V.ref hd, V.ref so, V.ref gv]) L1 = some (.lst [V.ref hd, V.ref so, V.ref gv]) := upd_same
  generalize upd H4 L1 (.lst [V.ref hd, V.ref so, V.ref gv]) = H5 at s5 hL1 ⊢
  refine ⟨_, rfl, _, rfl, _, rfl, three, fun L2 nL2 => ?_⟩
  have s6 := same_upd (o := .lst [V.ref lot, V.ref nw, V.ref l]) nL2
  have hL2 : upd H5 L2 (.lst [V.ref lot, V.ref nw, V.ref l]) L2 = some (.lst [V.ref lot, V.ref nw, V.ref l]) := upd_same
  generalize upd H5 L2 (.lst [V.ref lot, V.ref nw, V.ref l]) = H6 at s6 hL2 ⊢
  have s46 := same_trans s5 s6
  have h6 := h4.keep s46
  have s06 := same_trans s04 s46
  have d1 : Dp K H6 (.ref L1) (.list [.list (xs.map PyData.int), .list (ys.map PyData.int), .list ((snds ws).map S5.data)]) := .lst (SqL.of (s6 _ _ hL1)) (.cons (dp_is h6.hd) (.cons (dp_is (s46 _ _ hso4)) (.cons (dp_of h6.gv) .nil)))
  have d2 : Dp K H6 (.ref L2) (.list [.list (xs.map PyData.int), .list (ys.map PyData.int), .list ((snds ws).map S5.data)]) := .lst (SqL.of hL2) (.cons (dp_is h6.lot) (.cons (dp_is (s06 _ _ hnw)) (.cons (dp_of h6.b.l) .nil)))
  have sh := shaped3 (cd_ints xs) (cd_ints ys) (cd_sts h6.b.wo.ok)
  have ev := eqv3 (a := .list (xs.map PyData.int)) (b := .list (ys.map PyData.int)) (c := .list ((snds ws).map S5.data)) (by rw [eqv_ints]; simp) (by rw [eqv_ints]; simp) (by rw [eqv_sts]; simp)
  refine ⟨_, _, d1, d2, sh, sh, _, rfl, ifF (by rw [ev]; decide) ?_⟩
  exact z _ _ H6 s06
/-- all lots apart from the lot -/
def tSD (CQ : Addr) : TS := fun Z σ H => ∃ (W ls lg q l L lot hd gv tl : Addr) (ts : List (Addr × S5)) (gs : List Str) (ws : List (Addr × S5)) (xs : List Int) (lots : List (Addr × List Int)) (o8 o9 o10 o11 : Option V), σ = sgS W q l L lot (some (.ref hd)) (some (.ref gv)) (some (.ref tl)) o8 o9 o10 o11 ∧ SgT H CQ W ls lg q l lot hd gv tl ts gs ws xs ∧ LotsAt H L (snds ws).length lots ∧ lots.length ≤ 1000 ∧
  ∀ o8 o9 o10 H', Same H H' → Z.nx (sgS W q l L lot (some (.ref hd)) (some (.ref gv)) (some (.ref tl)) o8 o9 o10 o11) H'
theorem stD (S : SgE P w K mg base CQ) (hr : Room 10 (A.deeper (envOfC "_law_stages_right" (defScope sStages) s.heap.objs.size f cdv))) :
    PSs (TSg P w K mg base f cdv A outer s Hl E) [sgO 5] (tSD CQ) := by
  have gAny := S.T.fr "any" (by decide +kernel)
  refine weak (pss_one (ps_for PassesOwn.never rfl (pi_list (pe_lc (own := [("_law_now", 8)]) (g := gName 8) (tt := tNot (tB (tCB (rAny K) (tCons (tLc (iList K (tVar 8)) (gName 11) tYes (tOp (rIn K false) (tVar 11) (tVar 4)) [11]) tNil)))) (te := tVar 8) rfl scSg.nd (pi_list (pv 3)) (blkOk_by (own := [("_law_now", 8)]) (N := NSg) (sc := defScope sStages) (by decide +kernel))
        (fun _ _ _ _ _ => pg_name (i := 8) scSg.nd rfl (Or.inl rfl)) (fun _ _ _ _ _ => pts_one (pt_not (pt_val (pe_callB (cr_any rfl) (by rfl) gAny (by decide +kernel) (pa_cons (pe_lc (own := [("_law_at", 11)]) (g := gName 11) (tt := tYes) (te := tOp (rIn K false) (tVar 11) (tVar 4)) rfl scSg.nd (pi_list (pv 8)) (blkOk_by (own := [("_law_at", 11)]) (N := NSg) (by rfl))
            (fun _ _ _ _ _ => pg_name (i := 11) scSg.nd rfl (Or.inl rfl)) (fun _ _ _ _ _ => pts_nil) (fun _ _ _ _ _ => pe_cmpR op_in_seq (pv 11) (pv 4) rfl)) pa_nil))))) (fun _ _ _ _ _ => pv 8)))
      (pg_name (i := 8) scSg.nd rfl (Or.inl rfl)) (stI S hr))) ?_
  rintro Z σ H ⟨W, ls, lg, q, l, L, lot, hd, gv, tl, ts, gs, ws, xs, lots, o8, o9, o10, o11, rfl, h, hL, l1000, z⟩
  have sl := sizeLine_eq
  refine ⟨_, rfl, L, rfl, ⟨_, SqL.of hL.at_⟩, fun N1 nN1 => ?_⟩
  refine lc_val (us := lots) (vf := fun z => V.ref z.1) (p := fun z => apart xs z.2) (gv := fun z => V.ref z.1) nN1 hL.at_ (by omega) (fun y hy H' s1 N N0 k1 k2 => ?_) (fun H1 s1 hN1 => ?_)
  · have hy' := s1 _ _ (hL.is y hy)
    have yl := (hL.lot y hy).len
    have wl := h.b.l5
    rw [snds_len] at yl
    refine ⟨rfl, _, rfl, y.1, rfl, ⟨_, SqL.of hy'⟩, fun N2 nN2 => ?_⟩
    refine lc_val (us := y.2) (vf := V.int) (p := fun _ => true) (gv := fun v => V.bl (decide (v ∈ xs))) nN2 hy' (by omega) (fun v hv H2 s2 N N0 k1 k2 => ?_) (fun H2 s2 hN2 => ?_)
    · refine ⟨rfl, _, rfl, _, rfl, lot, xs.map V.int, rfl, Or.inl (SqL.of (s2 _ _ (s1 _ _ h.lot))), rfl, flat_ints xs, ?_⟩
      rw [inV_int]
      exact k1 rfl _ (Same.refl _)
    · rw [List.filter_eq_self.mpr fun _ _ => rfl] at hN2
      have e : (y.2.map fun v => V.bl (decide (v ∈ xs))) = (y.2.map fun v => decide (v ∈ xs)).map V.bl := by
        rw [List.map_map]
        rfl
      rw [e] at hN2
      refine ⟨N2, _, rfl, SqL.of hN2, ?_⟩
      have ea : (y.2.map fun v => decide (v ∈ xs)).any id = y.2.any fun v => decide (v ∈ xs) := by
        rw [List.any_map]
        rfl
      rw [ea]
      refine ⟨_, rfl, ?_⟩
      cases hap : apart xs y.2 with
      | true =>
        have : (!(y.2.any fun v => decide (v ∈ xs))) = true := hap
        rw [this]
        exact ifT rfl ⟨_, rfl, k1 hap _ s2⟩
      | false =>
        have : (!(y.2.any fun v => decide (v ∈ xs))) = false := hap
        rw [this]
        exact ifF (by decide) (k2 hap _ s2)
  · refine ⟨N1, rfl, ⟨_, SqL.of hN1⟩, ?_⟩
    have h1 := h.keep s1
    have hL1 := hL.keep s1
    refine for_list (K := K) (a := N1) (xs := (lots.filter fun z => apart xs z.2).map fun z => V.ref z.1) (fun i σ H' => Same H1 H' ∧ ∃ o8 o9 o10 : Option V, σ = sgS W q l L lot (some (.ref hd)) (some (.ref gv)) (some (.ref tl)) o8 o9 o10 o11) ⟨Same.refl _, _, _, _, rfl⟩ (fun i σ H' _ h => SqL.of (h.1 _ _ hN1)) ?_ ?_
    · rintro i x σ H' hi ⟨s2, o8, o9, o10, rfl⟩
      obtain ⟨y, hy, rfl⟩ := at_map hi
      have ym := List.mem_filter.mp (List.mem_of_getElem? hy)
      have hL2 := hL1.keep s2
      exact ⟨W, ls, lg, q, l, L, lot, hd, gv, tl, y.1, ts, gs, ws, xs, y.2, _, _, _, rfl, h1.keep s2, hL2.is y ym.1, hL2.lot y ym.1, apart_of ym.2, fun o9 o10 H3 s3 => ⟨same_trans s2 s3, _, _, _, rfl⟩⟩
    · rintro σ H' ⟨s2, o8, o9, o10, rfl⟩
      exact z _ _ _ H' (same_trans s1 s2)
/-! ### _law_stages_right -/
def spStages (CQ : Addr) : Sp := fun vs H Q _ => ∃ (W ls lg q l : Addr) (ts : List (Addr × S5)) (gs : List Str) (ws : List (Addr × S5)), vs = [.ref W, .ref q, .ref l] ∧ SgB H CQ W ls lg q l ts gs ws ∧ ∀ H', Same H H' → Q (.bl true) H'
theorem ok_stages {f : Addr} {fd : FuncData} (F : FnP K "_law_stages_right" sStages f fd) (S : SgE P w K mg base CQ) : FnOk P w K mg base CX0 11 f fd ["_law_world_here", "_law_quarter_here", "_law_works_here"] (spStages CQ) := by
  refine F.ok scSg (fun vs H Q E h => ?_) (fun cdv A outer s H vs Q E hr h => ?_)
  · obtain ⟨_, _, _, _, _, _, _, _, rfl, _⟩ := h
    rfl
  · obtain ⟨W, ls, lg, q, l, ts, gs, ws, rfl, b, z⟩ := h
    have gLi := S.T.fr "list" (by decide +kernel)
    have gR := S.T.fr "range" (by decide +kernel)
    have gL := S.T.fr "len" (by decide +kernel)
    have r1 : Room 1 (A.deeper (envOfC "_law_stages_right" (defScope sStages) s.heap.objs.size f cdv)) := hr.mono (by decide)
    have r8 : Room 8 (A.deeper (envOfC "_law_stages_right" (defScope sStages) s.heap.objs.size f cdv)) := hr.mono (by decide)
    refine ⟨_, PSs.nox (pss_cons (ps_set (i := 3) scSg.nd rfl (Or.inl rfl) (pe_fz S.lo r1 (by rfl) (pa_cons (pe_listRg rfl (by rfl) gLi (prg_1 (by rfl) gR (pe_callB call_len_seq (by rfl) gL PySem.boot_len (pa_cons (pv 2) pa_nil)))) pa_nil)))
      (pss_cons (ps_for PassesOwn.never rfl (pi_list (pv 3)) (pg_name (i := 4) scSg.nd rfl (Or.inr rfl)) (stA S hr (stB S hr (stC S hr (stD S hr)))))
      (pss_one (ps_ret (pe_cmpR (op_qEq S.eq r1) (pv 1) (pe_fz S.lq r8 (by rfl) (pa_cons (pv 0) pa_nil)) (nomark _)))))), ?_⟩
    have l5 := b.l5
    refine ⟨_, rfl, l, _, rfl, Or.inl (SqL.of b.l.1), ws.length, by rw [List.length_map], RgOk.of_le (by omega) (by omega) (by omega) (by omega), fun R nR => ?_⟩
    have s1 := same_upd (o := .lst (rgV 0 (ws.length : Int))) nR
    have hR : Is (upd H R (.lst (rgV 0 (ws.length : Int)))) R (rgI ws.length) := by
      show upd H R (.lst (rgV 0 (ws.length : Int))) R = _
      rw [upd_same, rgV_nat]
    generalize upd H R (.lst (rgV 0 (ws.length : Int))) = H1 at s1 hR ⊢
    refine ⟨R, ws.length, rfl, hR, by omega, fun L lots H2 s2 nL hL hl => ?_⟩
    have s02 := same_trans s1 s2
    have b2 := b.keep s02
    have p5 : 2 ^ ws.length ≤ 32 := Nat.pow_le_pow_right (by decide) (show ws.length ≤ 5 from l5)
    rw [← snds_len] at hL
    refine ⟨_, rfl, L, rfl, ⟨_, SqL.of hL.at_⟩, ?_⟩
    refine for_list (K := K) (a := L) (xs := lots.map fun z => V.ref z.1) (fun i σ H' => Same H2 H' ∧ ∃ o4 o5 o6 o7 o8 o9 o10 o11 : Option V, σ = [some (.ref W), some (.ref q), some (.ref l), some (.ref L), o4, o5, o6, o7, o8, o9, o10, o11]) ⟨Same.refl _, _, _, _, _, _, _, _, _, rfl⟩ (fun i σ H' _ h => SqL.of (h.1 _ _ hL.at_)) ?_ ?_
    · rintro i x σ H' hi ⟨s3, o4, o5, o6, o7, o8, o9, o10, o11, rfl⟩
      obtain ⟨y, hy, rfl⟩ := at_map hi
      have ym := List.mem_of_getElem? hy
      have b3 := b2.keep s3
      have hL3 := hL.keep s3
      refine ⟨W, ls, lg, q, l, L, y.1, ts, gs, ws, y.2, _, _, _, _, _, _, _, rfl, b3, hL3.is y ym, hL3.lot y ym, fun hd gv tl H4 s4 t4 => ?_⟩
      refine ⟨W, ls, lg, q, l, L, y.1, hd, gv, tl, ts, gs, ws, y.2, _, _, _, _, rfl, t4, fun H5 s5 t5 => ?_⟩
      refine ⟨W, ls, lg, q, l, L, y.1, hd, gv, tl, ts, gs, ws, y.2, _, _, _, _, rfl, t5, fun H6 s6 t6 => ?_⟩
      have s46 := same_trans s4 (same_trans s5 s6)
      refine ⟨W, ls, lg, q, l, L, y.1, hd, gv, tl, ts, gs, ws, y.2, lots, _, _, _, _, rfl, t6, hL3.keep s46, by omega, fun o8 o9 o10 H7 s7 => ?_⟩
      exact ⟨same_trans s3 (same_trans s46 s7), _, _, _, _, _, _, _, _, rfl⟩
    · rintro σ H' ⟨s3, o4, o5, o6, o7, o8, o9, o10, o11, rfl⟩
      have b3 := b2.keep s3
      refine ⟨_, rfl, _, rfl, W, ls, lg, ts, gs, rfl, b3.w, fun q' H4 s4 nq hq => ?_⟩
      refine ⟨q, q', _, _, _, _, rfl, rfl, (b3.keep s4).q, hq, fun k hk => ?_⟩
      have ek : k = true := hk.mpr ⟨List.Perm.refl _, List.Perm.refl _⟩
      subst ek
      exact z H4 (same_trans s02 (same_trans s3 s4))
end
end K81
end
section
set_option Elab.async false
set_option linter.all false
set_option maxRecDepth 100000
set_option maxHeartbeats 4000000
namespace K81
open PySem PySem.Spec PyProof.Rows L2 H3
/-- the works given so far, the lot done so far -/
structure GrT (H : Hp) (CQ W ls lg q gv lo : Addr) (ts : List (Addr × S5)) (gs : List Str) (ws : List (Addr × S5)) (xs : List Int) : Prop where
  w : Wq H W ls lg ts gs
  q : IsQ H CQ q (snds ts) gs
  l : Sts H gv ws
  wo : SOk (snds ws)
  x : Is H lo xs
  lx : Lot (snds ws).length xs
  len : ts.length + ws.length ≤ 60
theorem GrT.keep {H H' : Hp} {CQ W ls lg q gv lo : Addr} {ts : List (Addr × S5)} {gs : List Str} {ws : List (Addr × S5)} {xs : List Int} (h : GrT H CQ W ls lg q gv lo ts gs ws xs) (s : Same H H') : GrT H' CQ W ls lg q gv lo ts gs ws xs := ⟨h.w.keep s, h.q.keep s, h.l.keep s, h.wo, s _ _ h.x, h.lx, h.len⟩
abbrev NGr : List Str := ["_law_world_here", "_law_quarter_here", "_law_works_here", "_law_given", "_law_lot", "_law_work", "_law_now"]
theorem scGrown : FnScope NGr ["_law_world_here", "_law_quarter_here", "_law_works_here"] (defScope sGrown) := ⟨rfl, rfl, rfl, by decide +kernel, rfl, by decide +kernel, by decide +kernel⟩
def grB (j : Nat) : Stmt := (forBody ((defBody sGrown).getD 1 (.Pass ⟨0, 0, 0, 0⟩))).getD j (.Pass ⟨0, 0, 0, 0⟩)
abbrev TGr (P : Program) (w : World) (K : PySem.W.Frag) (mg : Str → Option Value) (base : Heap) (f : Addr) (cdv : Value) (A : Around) (outer : List Env) (s : Shared) (Hl : Hp) (E : XK) : Cx := (cxOf CX0 P w K mg base NGr "_law_grown_right" (defScope sGrown) f cdv A outer s Hl E).nox
abbrev sgG (W q l gv lo : Addr) (o5 o6 : Option V) : L2.St := [some (.ref W), some (.ref q), some (.ref l), some (.ref gv), some (.ref lo), o5, o6]
section
variable {P : Program} {w : World} {K : PySem.W.Frag} {mg : Str → Option Value} {base : Heap} {f : Addr} {cdv : Value} {A : Around} {outer : List Env} {s : Shared} {Hl : Hp} {E : XK} {CQ : Addr}
def tGS (CQ : Addr) (u : TS) : TS := fun Z σ H => ∃ (W ls lg q l gv lo : Addr) (ts : List (Addr × S5)) (gs : List Str) (ws : List (Addr × S5)) (xs : List Int) (o5 o6 : Option V), σ = sgG W q l gv lo o5 o6 ∧ GrT H CQ W ls lg q gv lo ts gs ws xs ∧ ∀ H', Same H H' → u Z (sgG W q l gv lo o5 o6) H'
/-- the stage is as it should be (1) -/
theorem grS1 (S : SgE P w K mg base CQ) (hr : Room 10 (A.deeper (envOfC "_law_grown_right" (defScope sGrown) s.heap.objs.size f cdv))) {rest : List Stmt} {u : TS} (hu : PSs (TGr P w K mg base f cdv A outer s Hl E) rest u) :
    PSs (TGr P w K mg base f cdv A outer s Hl E) (grB 1 :: rest) (tGS CQ u) := by
  have r7 : Room 7 (A.deeper (envOfC "_law_grown_right" (defScope sGrown) s.heap.objs.size f cdv)) := hr.mono (by decide)
  have r1 : Room 1 (A.deeper (envOfC "_law_grown_right" (defScope sGrown) s.heap.objs.size f cdv)) := hr.mono (by decide)
  refine weak (pss_cons (ps_if (pt_not (pt_val (pe_fz S.ma r7 (by rfl) (pa_cons (pe_fz S.st hr (by rfl) (pa_cons (pv 1) (pa_cons (pv 3) (pa_cons (pv 4) pa_nil)))) (pa_cons (pe_fz S.dn r1 (by rfl) (pa_cons (pv 0) (pa_cons (pv 3) (pa_cons (pv 4) (pa_cons (pe_lst pa_nil) pa_nil))))) pa_nil))))) (pss_one (ps_ret pe_bl)) pss_nil) hu) ?_
  rintro Z σ H ⟨W, ls, lg, q, l, gv, lo, ts, gs, ws, xs, o5, o6, rfl, h, z⟩
  have z0 : 0 ≤ sizeLine := by rw [sizeLine_eq]; decide
  refine ⟨_, rfl, _, rfl, _, rfl, q, gv, lo, snds ts, gs, ws, xs, rfl, h.q, h.l, h.wo, h.x, h.lx, by rw [snds_len]; exact h.len, fun tl H1 s1 ntl htl => ?_⟩
  have h1 := h.keep s1
  refine ⟨_, rfl, _, rfl, _, rfl, z0, fun D nD => ?_⟩
  have s2 := same_upd (o := .lst []) nD
  have hD : Is (upd H1 D (.lst [])) D [] := upd_same
  generalize upd H1 D (.lst []) = H2 at s2 hD ⊢
  have h2 := h1.keep s2
  refine ⟨W, ls, lg, gv, lo, D, ts, gs, ws, xs, [], rfl, ⟨h2.w, h2.l, h2.wo, h2.x, h2.lx, hD, lot_nil, h2.len⟩, fun R D2 x y ds H3 s3 nR hR hD2 e2 => ?_⟩
  have h3 := h2.keep s3
  have e3 : snds ds = whileS (snds ts) (snds ws) xs [] := by
    rw [e2]
    exact done_while h3.wo.nd h3.lx lot_nil (fun y hy => by simp at hy)
  have s13 := same_trans s2 s3
  refine ⟨tl, R, D2, lg, x, y, ds, gs, rfl, by rw [e3]; exact htl.keep s13, hR, hD2, h3.w.g, fun H4 s4 => ⟨_, rfl, ifF (by decide) ?_⟩⟩
  exact z H4 (same_trans s1 (same_trans s13 s4))
/-- the stage is as it should be (5) -/
theorem grS5 (S : SgE P w K mg base CQ) (hr : Room 10 (A.deeper (envOfC "_law_grown_right" (defScope sGrown) s.heap.objs.size f cdv))) {rest : List Stmt} {u : TS} (hu : PSs (TGr P w K mg base f cdv A outer s Hl E) rest u) :
    PSs (TGr P w K mg base f cdv A outer s Hl E) (grB 5 :: rest) (tGS CQ u) := by
  have r7 : Room 7 (A.deeper (envOfC "_law_grown_right" (defScope sGrown) s.heap.objs.size f cdv)) := hr.mono (by decide)
  have r1 : Room 1 (A.deeper (envOfC "_law_grown_right" (defScope sGrown) s.heap.objs.size f cdv)) := hr.mono (by decide)
  refine weak (pss_cons (ps_if (pt_not (pt_val (pe_fz S.ma r7 (by rfl) (pa_cons (pe_fz S.st hr (by rfl) (pa_cons (pv 1) (pa_cons (pv 3) (pa_cons (pv 4) pa_nil)))) (pa_cons (pe_fz S.dn r1 (by rfl) (pa_cons (pv 0) (pa_cons (pv 3) (pa_cons (pv 4) (pa_cons (pe_lst pa_nil) pa_nil))))) pa_nil))))) (pss_one (ps_ret pe_bl)) pss_nil) hu) ?_
  rintro Z σ H ⟨W, ls, lg, q, l, gv, lo, ts, gs, ws, xs, o5, o6, rfl, h, z⟩
  have z0 : 0 ≤ sizeLine := by rw [sizeLine_eq]; decide
  refine ⟨_, rfl, _, rfl, _, rfl, q, gv, lo, snds ts, gs, ws, xs, rfl, h.q, h.l, h.wo, h.x, h.lx, by rw [snds_len]; exact h.len, fun tl H1 s1 ntl htl => ?_⟩
  have h1 := h.keep s1
  refine ⟨_, rfl, _, rfl, _, rfl, z0, fun D nD => ?_⟩
  have s2 := same_upd (o := .lst []) nD
  have hD : Is (upd H1 D (.lst [])) D [] := upd_same
  generalize upd H1 D (.lst []) = H2 at s2 hD ⊢
  have h2 := h1.keep s2
  refine ⟨W, ls, lg, gv, lo, D, ts, gs, ws, xs, [], rfl, ⟨h2.w, h2.l, h2.wo, h2.x, h2.lx, hD, lot_nil, h2.len⟩, fun R D2 x y ds H3 s3 nR hR hD2 e2 => ?_⟩
  have h3 := h2.keep s3
  have e3 : snds ds = whileS (snds ts) (snds ws) xs [] := by
    rw [e2]
    exact done_while h3.wo.nd h3.lx lot_nil (fun y hy => by simp at hy)
  have s13 := same_trans s2 s3
  refine ⟨tl, R, D2, lg, x, y, ds, gs, rfl, by rw [e3]; exact htl.keep s13, hR, hD2, h3.w.g, fun H4 s4 => ⟨_, rfl, ifF (by decide) ?_⟩⟩
  exact z H4 (same_trans s1 (same_trans s13 s4))

/-- while the last work is being done -/
def tGD (CQ : Addr) (u : TS) : TS := fun Z σ H => ∃ (W ls lg q l gv lo : Addr) (ts : List (Addr × S5)) (gs : List Str) (ws : List (Addr × S5)) (xs : List Int) (i : Nat) (o5 o6 : Option V), σ = sgG W q l gv lo o5 o6 ∧ GrT H CQ W ls lg q gv lo ts gs ws xs ∧ ws.length = i + 1 ∧ (i : Int) ∉ xs ∧ ∀ o6 H', Same H H' → u Z (sgG W q l gv lo o5 o6) H'
theorem grD (S : SgE P w K mg base CQ) (hr : Room 10 (A.deeper (envOfC "_law_grown_right" (defScope sGrown) s.heap.objs.size f cdv))) {rest : List Stmt} {u : TS} (hu : PSs (TGr P w K mg base f cdv A outer s Hl E) rest u) :
    PSs (TGr P w K mg base f cdv A outer s Hl E) (grB 2 :: grB 3 :: rest) (tGD CQ u) := by
  have gL := S.T.fr "len" (by decide +kernel)
  have r9 : Room 9 (A.deeper (envOfC "_law_grown_right" (defScope sGrown) s.heap.objs.size f cdv)) := hr.mono (by decide)
  have r7 : Room 7 (A.deeper (envOfC "_law_grown_right" (defScope sGrown) s.heap.objs.size f cdv)) := hr.mono (by decide)
  have r1 : Room 1 (A.deeper (envOfC "_law_grown_right" (defScope sGrown) s.heap.objs.size f cdv)) := hr.mono (by decide)
  refine weak (pss_cons (ps_set (i := 6) scGrown.nd rfl (Or.inl rfl) (pe_lst (pa_cons (pe_op op_sub (pe_callB call_len_seq (by rfl) gL PySem.boot_len (pa_cons (pv 3) pa_nil)) pe_int) pa_nil)))
    (pss_cons (ps_if (pt_not (pt_val (pe_fz S.ma r7 (by rfl) (pa_cons (pe_fz S.du r9 (by rfl) (pa_cons (pv 1) (pa_cons (pv 3) (pa_cons (pv 4) (pa_cons (pv 6) pa_nil))))) (pa_cons (pe_fz S.dn r1 (by rfl) (pa_cons (pv 0) (pa_cons (pv 3) (pa_cons (pv 4) (pa_cons (pv 6) pa_nil))))) pa_nil))))) (pss_one (ps_ret pe_bl)) pss_nil) hu)) ?_
  rintro Z σ H ⟨W, ls, lg, q, l, gv, lo, ts, gs, ws, xs, i, o5, o6, rfl, h, wl, ni, z⟩
  have z1 : 1 ≤ sizeLine := by rw [sizeLine_eq]; decide
  have e1 : (((ws.map fun t => V.ref t.1).length : Nat) : Int) - 1 = (i : Int) := by
    rw [List.length_map, wl]
    omega
  refine ⟨_, rfl, gv, _, rfl, Or.inl (SqL.of h.l.1), _, _, rfl, rfl, z1, fun D nD => ?_⟩
  have e2 : (HO.lst [V.int ((((ws.map fun t => V.ref t.1).length : Nat) : Int) - 1)]) = .lst [V.int (i : Int)] := by rw [e1]
  show _
  have s1 := same_upd (o := .lst [V.int ((((ws.map fun t => V.ref t.1).length : Nat) : Int) - 1)]) nD
  have hD : Is (upd H D (.lst [V.int ((((ws.map fun t => V.ref t.1).length : Nat) : Int) - 1)])) D [(i : Int)] := by
    show upd H D (.lst [V.int ((((ws.map fun t => V.ref t.1).length : Nat) : Int) - 1)]) D = _
    rw [upd_same, e2]
    rfl
  generalize upd H D (.lst [V.int ((((ws.map fun t => V.ref t.1).length : Nat) : Int) - 1)]) = H1 at s1 hD ⊢
  have h1 := h.keep s1
  have ly : Lot (snds ws).length [(i : Int)] := ⟨List.pairwise_singleton _ _, fun x hx => by rw [List.mem_singleton.mp hx]; omega, fun x hx => by rw [List.mem_singleton.mp hx, snds_len, wl]; omega⟩
  have dj : ∀ y ∈ [(i : Int)], y ∉ xs := fun y hy => by
    rw [List.mem_singleton.mp hy]
    exact ni
  refine ⟨_, rfl, _, rfl, _, rfl, _, rfl, q, gv, lo, D, snds ts, gs, ws, xs, [(i : Int)], rfl, ⟨h1.q, h1.l, h1.wo, h1.x, h1.lx, hD, ly, by rw [snds_len]; exact h1.len⟩, dj, fun tl H2 s2 ntl htl => ?_⟩
  have h2 := h1.keep s2
  refine ⟨_, rfl, _, rfl, _, rfl, _, rfl, W, ls, lg, gv, lo, D, ts, gs, ws, xs, [(i : Int)], rfl, ⟨h2.w, h2.l, h2.wo, h2.x, h2.lx, s2 _ _ hD, ly, h2.len⟩, fun R D2 x y ds H3 s3 nR hR hD2 e3 => ?_⟩
  have h3 := h2.keep s3
  have e4 : snds ds = whileS (snds ts) (snds ws) xs [(i : Int)] := by
    rw [e3]
    exact done_while h3.wo.nd h3.lx ly dj
  refine ⟨tl, R, D2, lg, x, y, ds, gs, rfl, by rw [e4]; exact htl.keep s3, hR, hD2, h3.w.g, fun H4 s4 => ⟨_, rfl, ifF (by decide) ?_⟩⟩
  exact z _ H4 (same_trans s1 (same_trans s2 (same_trans s3 s4)))
/-! ### _law_grown_right -/
def spGrown (CQ : Addr) : Sp := fun vs H Q _ => ∃ (W ls lg q l : Addr) (ts : List (Addr × S5)) (gs : List Str) (ws : List (Addr × S5)), vs = [.ref W, .ref q, .ref l] ∧ SgB H CQ W ls lg q l ts gs ws ∧ ∀ H', Same H H' → Q (.bl true) H'
theorem sok_take {ws : List (Addr × S5)} (h : SOk (snds ws)) (i : Nat) : SOk (snds (ws.take i)) := by
  have e : snds (ws.take i) = (snds ws).take i := by
    show (ws.take i).map (fun t => t.2) = (ws.map fun t => t.2).take i
    rw [List.map_take]
  rw [e]
  refine ⟨fun s hs => h.ok s (List.mem_of_mem_take hs), ?_, ?_⟩
  · show (((snds ws).take i).map S5.nm).Nodup
    rw [List.map_take]
    exact (List.take_sublist _ _).nodup h.nd
  · have := h.l
    rw [List.length_take]
    omega
theorem ok_grown {f : Addr} {fd : FuncData} (F : FnP K "_law_grown_right" sGrown f fd) (S : SgE P w K mg base CQ) : FnOk P w K mg base CX0 11 f fd ["_law_world_here", "_law_quarter_here", "_law_works_here"] (spGrown CQ) := by
  refine F.ok scGrown (fun vs H Q E h => ?_) (fun cdv A outer s H vs Q E hr h => ?_)
  · obtain ⟨_, _, _, _, _, _, _, _, rfl, _⟩ := h
    rfl
  · obtain ⟨W, ls, lg, q, l, ts, gs, ws, rfl, b, z⟩ := h
    have gL := S.T.fr "len" (by decide +kernel)
    have sl := sizeLine_eq
    have z0 : 0 ≤ sizeLine := by rw [sl]; decide
    refine ⟨_, PSs.nox (pss_cons (ps_par (i := 3) (j := 4) rfl scGrown.nd rfl rfl (by decide) rfl rfl (pa_cons (pe_lst pa_nil) (pa_cons (pe_lst pa_nil) pa_nil)) (by rfl))
      (pss_cons (ps_for PassesOwn.never rfl (pi_list (pv 2)) (pg_name (i := 5) scGrown.nd rfl (Or.inl rfl))
        (pss_cons (ps_expr (pe_bm PySem.F.plainAttrs_list PySem.F.slot_list_append PySem.F.type_list_append mt_append (pv 3) (pa_cons (pv 5) pa_nil)))
          (grS1 S hr (grD S hr (pss_cons (ps_expr (pe_bm PySem.F.plainAttrs_list PySem.F.slot_list_append PySem.F.type_list_append mt_append (pv 4) (pa_cons (pe_op op_sub (pe_callB call_len_seq (by rfl) gL PySem.boot_len (pa_cons (pv 3) pa_nil)) pe_int) pa_nil)))
            (grS5 S hr pss_nil))))))
      (pss_one (ps_ret pe_bl)))), ?_⟩
    have l5 := b.l5
    refine ⟨z0, fun gv ngv => ?_⟩
    have s1 := same_upd (o := .lst []) ngv
    have hg0 : upd H gv (.lst []) gv = some (.lst []) := upd_same
    generalize upd H gv (.lst []) = H1 at s1 hg0 ⊢
    refine ⟨z0, fun lo nlo => ⟨_, _, rfl, ?_⟩⟩
    have s2 := same_upd (o := .lst []) nlo
    have hl0 : upd H1 lo (.lst []) lo = some (.lst []) := upd_same
    have ngl : gv ≠ lo := fun e => by
      rw [e, nlo] at hg0
      cases hg0
    have hg2 := s2 _ _ hg0
    have nlo0 := s1.free nlo
    generalize upd H1 lo (.lst []) = H2 at s2 hl0 hg2 ⊢
    have s02 := same_trans s1 s2
    refine ⟨_, rfl, l, rfl, ⟨_, SqL.of (s02 _ _ b.l.1)⟩, ?_⟩
    refine for_list (K := K) (a := l) (xs := ws.map fun t => V.ref t.1) (fun i σ H' => Same H H' ∧ H' gv = some (.lst ((ws.take i).map fun t => V.ref t.1)) ∧ Is H' lo (rgI i) ∧ ∃ o5 o6 : Option V, σ = sgG W q l gv lo o5 o6) ⟨s02, hg2, hl0, _, _, rfl⟩ (fun i σ H' _ h => SqL.of (h.1 _ _ b.l.1)) ?_ ?_
    · rintro i x σ H' hi ⟨s3, hgv, hlo, o5, o6, rfl⟩
      obtain ⟨t, ht, rfl⟩ := at_map hi
      have lt := (List.getElem?_eq_some_iff.mp ht).1
      have et : (ws.take (i + 1)).map (fun t => V.ref t.1) = ((ws.take i).map fun t => V.ref t.1) ++ [V.ref t.1] := by
        rw [List.take_add_one, ht, List.map_append]
        rfl
      have li : (ws.take (i + 1)).length = i + 1 := by
        rw [List.length_take]
        omega
      refine ⟨_, rfl, Or.inl ⟨rfl, _, SqL.of hgv⟩, _, rfl, gv, _, _, rfl, rfl, hgv, by rw [List.length_map, List.length_take]; omega, ?_⟩
      rw [← et]
      have s4 : Same H (upd H' gv (.lst ((ws.take (i + 1)).map fun t => V.ref t.1))) := fun b o e => by
        rw [upd_ne (ne_of_none e ngv)]
        exact s3 _ _ e
      have hgv4 : upd H' gv (.lst ((ws.take (i + 1)).map fun t => V.ref t.1)) gv = some (.lst ((ws.take (i + 1)).map fun t => V.ref t.1)) := upd_same
      have hlo4 : Is (upd H' gv (.lst ((ws.take (i + 1)).map fun t => V.ref t.1))) lo (rgI i) := by
        show upd H' gv (.lst ((ws.take (i + 1)).map fun t => V.ref t.1)) lo = _
        rw [upd_ne (Ne.symm ngl)]
        exact hlo
      generalize upd H' gv (.lst ((ws.take (i + 1)).map fun t => V.ref t.1)) = H4 at s4 hgv4 hlo4 ⊢
      have mk : ∀ {H' : Hp} {xs : List Int}, Same H H' → H' gv = some (.lst ((ws.take (i + 1)).map fun t => V.ref t.1)) → Is H' lo xs → Lot (i + 1) xs → GrT H' CQ W ls lg q gv lo ts gs (ws.take (i + 1)) xs := fun {H' xs} s hg hx lx =>
        ⟨b.w.keep s, b.q.keep s, ⟨hg, fun t ht => s _ _ (b.l.2 t (List.mem_of_mem_take ht))⟩, sok_take b.wo _, hx, by rw [snds_len, li]; exact lx, by have := b.len; rw [li]; omega⟩
      refine ⟨W, ls, lg, q, l, gv, lo, ts, gs, ws.take (i + 1), rgI i, _, _, rfl, mk s4 hgv4 hlo4 ((rgI_lot i).mono (by omega)), fun H5 s5 => ?_⟩
      have hgv5 := s5 _ _ hgv4
      have hlo5 := s5 _ _ hlo4
      have s05 := same_trans s4 s5
      refine ⟨W, ls, lg, q, l, gv, lo, ts, gs, ws.take (i + 1), rgI i, i, _, _, rfl, mk s05 hgv5 hlo5 ((rgI_lot i).mono (by omega)), li, fun h => by have := (mem_rgI.mp h).2; omega, fun o6 H6 s6 => ?_⟩
      have hgv6 := s6 _ _ hgv5
      have hlo6 := s6 _ _ hlo5
      have s06 := same_trans s05 s6
      have e1 : ((((ws.take (i + 1)).map fun t => V.ref t.1).length : Nat) : Int) - 1 = (i : Int) := by
        rw [List.length_map, li]
        omega
      refine ⟨_, rfl, Or.inl ⟨rfl, _, SqL.of hlo6⟩, _, rfl, gv, _, rfl, Or.inl (SqL.of hgv6), _, _, rfl, rfl, lo, _, _, rfl, rfl, hlo6, by rw [List.length_map, List.length_map, List.length_range]; omega, ?_⟩
      show tGS CQ tNext _ _ (upd H6 lo (.lst (((rgI i).map V.int) ++ [V.int (((((ws.take (i + 1)).map fun t => V.ref t.1).length : Nat) : Int) - 1)])))
      rw [e1]
      have er : ((rgI i).map V.int) ++ [V.int (i : Int)] = (rgI (i + 1)).map V.int := by
        show (((List.range i).map fun i : Nat => (i : Int)).map V.int) ++ _ = ((List.range (i + 1)).map fun i : Nat => (i : Int)).map V.int
        rw [List.range_succ, List.map_append, List.map_append]
        rfl
      rw [er]
      have s7 : Same H (upd H6 lo (.lst ((rgI (i + 1)).map V.int))) := fun b o e => by
        rw [upd_ne (ne_of_none e nlo0)]
        exact s06 _ _ e
      have hlo7 : Is (upd H6 lo (.lst ((rgI (i + 1)).map V.int))) lo (rgI (i + 1)) := upd_same
      have hgv7 : upd H6 lo (.lst ((rgI (i + 1)).map V.int)) gv = some (.lst ((ws.take (i + 1)).map fun t => V.ref t.1)) := by
        rw [upd_ne ngl]
        exact hgv6
      generalize upd H6 lo (.lst ((rgI (i + 1)).map V.int)) = H7 at s7 hlo7 hgv7 ⊢
      refine ⟨W, ls, lg, q, l, gv, lo, ts, gs, ws.take (i + 1), rgI (i + 1), _, _, rfl, mk s7 hgv7 hlo7 (rgI_lot _), fun H8 s8 => ?_⟩
      exact ⟨same_trans s7 s8, s8 _ _ hgv7, s8 _ _ hlo7, _, _, rfl⟩
    · rintro σ H' ⟨s3, _, _, o5, o6, rfl⟩
      exact z H' s3
end
end K81
end
section
set_option Elab.async false
set_option linter.all false
set_option maxRecDepth 100000
set_option maxHeartbeats 4000000
namespace K81
open PySem PySem.Spec PyProof.Rows L2 H3
abbrev NLaw : List Str := ["_law_script", "_law_purse_here", "_law_world_here", "_law_quarter_here", "_law_rows", "_law_works_here", "_law_later_here"]
theorem scLaw : FnScope NLaw ["_law_script"] (defScope sLaw) := ⟨rfl, rfl, rfl, by decide +kernel, rfl, by decide +kernel, by decide +kernel⟩
def lwS (j : Nat) : Stmt := (defBody sLaw).getD j (.Pass ⟨0, 0, 0, 0⟩)
def lwB (j : Nat) : Stmt := (forBody (lwS 0)).getD j (.Pass ⟨0, 0, 0, 0⟩)
/-- all that law calls -/
structure LawE (P : Program) (w : World) (K : PySem.W.Frag) (mg : Str → Option Value) (base : Heap) (CQ : Addr) : Prop where
  S : SgE P w K mg base CQ
  pu : Fz P w K mg base "_law_purses" 2 ["_law_script", "_law_few"] (spPurses K)
  dr : DrawZ P w K mg base
  wo : Fz P w K mg base "_law_world" 6 ["_law_purse_here", "_law_gates", "_law_inner", "_law_top"] spWorld
  wk : Fz P w K mg base "_law_works" 5 ["_law_purse_here", "_law_world_here", "_law_many"] spWorks
  lt : Fz P w K mg base "_law_later" 10 ["_law_purse_here", "_law_world_here", "_law_quarter_here"] (spLater CQ)
  sg : Fz P w K mg base "_law_stages_right" 11 ["_law_world_here", "_law_quarter_here", "_law_works_here"] (spStages CQ)
  gr : Fz P w K mg base "_law_grown_right" 11 ["_law_world_here", "_law_quarter_here", "_law_works_here"] (spGrown CQ)
/-- a world, its quarter, two rows of works -/
structure LwT (H : Hp) (CQ p W ls lg lc ln q R l1 l2 : Addr) (ts : List (Addr × S5)) (gs cs ns : List Str) (us1 us2 : List (Addr × S5)) (n : Int) : Prop where
  wo : WoP H p W ls lg lc ln ts gs cs ns
  q : IsQ H CQ q (snds ts) gs
  pu : Pu H p n
  r : H R = some (.lst [.ref l1, .ref l2])
  s1 : Sts H l1 us1
  o1 : SOk (snds us1)
  k1 : us1.length ≤ 5
  s2 : Sts H l2 us2
  o2 : SOk (snds us2)
  k2 : us2.length ≤ 5
theorem LwT.keep {H H' : Hp} {CQ p W ls lg lc ln q R l1 l2 : Addr} {ts : List (Addr × S5)} {gs cs ns : List Str} {us1 us2 : List (Addr × S5)} {n : Int} (h : LwT H CQ p W ls lg lc ln q R l1 l2 ts gs cs ns us1 us2 n) (s : Same H H') : LwT H' CQ p W ls lg lc ln q R l1 l2 ts gs cs ns us1 us2 n :=
  ⟨h.wo.keep s, h.q.keep s, h.pu.same s, s _ _ h.r, h.s1.keep s, h.o1, h.k1, h.s2.keep s, h.o2, h.k2⟩
theorem LwT.len {H : Hp} {CQ p W ls lg lc ln q R l1 l2 : Addr} {ts : List (Addr × S5)} {gs cs ns : List Str} {us1 us2 : List (Addr × S5)} {n : Int} (h : LwT H CQ p W ls lg lc ln q R l1 l2 ts gs cs ns us1 us2 n) : ts.length ≤ 14 := by
  have := h.wo.wo.l2
  have := h.wo.wo.l3
  omega
theorem LwT.b1 {H : Hp} {CQ p W ls lg lc ln q R l1 l2 : Addr} {ts : List (Addr × S5)} {gs cs ns : List Str} {us1 us2 : List (Addr × S5)} {n : Int} (h : LwT H CQ p W ls lg lc ln q R l1 l2 ts gs cs ns us1 us2 n) : SgB H CQ W ls lg q l1 ts gs us1 := ⟨h.wo.wq, h.q, h.s1, h.o1, h.k1, by have := h.len; have := h.k1; omega⟩
theorem LwT.b2 {H : Hp} {CQ p W ls lg lc ln q R l1 l2 : Addr} {ts : List (Addr × S5)} {gs cs ns : List Str} {us1 us2 : List (Addr × S5)} {n : Int} (h : LwT H CQ p W ls lg lc ln q R l1 l2 ts gs cs ns us1 us2 n) : SgB H CQ W ls lg q l2 ts gs us2 := ⟨h.wo.wq, h.q, h.s2, h.o2, h.k2, by have := h.len; have := h.k2; omega⟩
section
variable {P : Program} {w : World} {K : PySem.W.Frag} {mg : Str → Option Value} {base : Heap} {f : Addr} {cdv : Value} {A : Around} {outer : List Env} {s : Shared} {Hl : Hp} {E : XK} {CQ : Addr}
abbrev TLw (P : Program) (w : World) (K : PySem.W.Frag) (mg : Str → Option Value) (base : Heap) (f : Addr) (cdv : Value) (A : Around) (outer : List Env) (s : Shared) (Hl : Hp) (E : XK) : Cx := (cxOf CX0 P w K mg base NLaw "law" (defScope sLaw) f cdv A outer s Hl E).nox
/-- what is drawn -/
def tL1 (CQ : Addr) (u : TS) : TS := fun Z σ H => ∃ (o0 o2 o3 o4 o5 o6 : Option V) (p : Addr), σ = [o0, some (.ref p), o2, o3, o4, o5, o6] ∧ Pu H p 0 ∧
  ∀ W ls lg lc ln q R l1 l2 ts gs cs ns us1 us2 H', But p H H' → LwT H' CQ p W ls lg lc ln q R l1 l2 ts gs cs ns us1 us2 2000 → u Z [o0, some (.ref p), some (.ref W), some (.ref q), some (.ref R), o5, o6] H'
theorem lw1 (L : LawE P w K mg base CQ) (hr : Room 11 (A.deeper (envOfC "law" (defScope sLaw) s.heap.objs.size f cdv))) {rest : List Stmt} {u : TS} (hu : PSs (TLw P w K mg base f cdv A outer s Hl E) rest u) :
    PSs (TLw P w K mg base f cdv A outer s Hl E) (lwB 0 :: lwB 1 :: lwB 2 :: rest) (tL1 CQ u) := by
  have r2 : Room 2 (A.deeper (envOfC "law" (defScope sLaw) s.heap.objs.size f cdv)) := hr.mono (by decide)
  have r5 : Room 5 (A.deeper (envOfC "law" (defScope sLaw) s.heap.objs.size f cdv)) := hr.mono (by decide)
  have r6 : Room 6 (A.deeper (envOfC "law" (defScope sLaw) s.heap.objs.size f cdv)) := hr.mono (by decide)
  have r8 : Room 8 (A.deeper (envOfC "law" (defScope sLaw) s.heap.objs.size f cdv)) := hr.mono (by decide)
  refine weak (pss_cons (ps_set (i := 2) scLaw.nd rfl (Or.inl rfl) (pe_fz L.wo r6 (by rfl) (pa_cons (pv 1) (pa_cons (pe_op op_add pe_int (pe_fz L.dr r2 (by rfl) (pa_cons (pv 1) (pa_cons pe_int pa_nil)))) (pa_cons (pe_fz L.dr r2 (by rfl) (pa_cons (pv 1) (pa_cons pe_int pa_nil))) (pa_cons pe_int pa_nil))))))
    (pss_cons (ps_set (i := 3) scLaw.nd rfl (Or.inl rfl) (pe_fz L.S.lq r8 (by rfl) (pa_cons (pv 2) pa_nil)))
    (pss_cons (ps_set (i := 4) scLaw.nd rfl (Or.inl rfl) (pe_lst (pa_cons (pe_fz L.wk r5 (by rfl) (pa_cons (pv 1) (pa_cons (pv 2) (pa_cons (pe_op op_add pe_int (pe_fz L.dr r2 (by rfl) (pa_cons (pv 1) (pa_cons pe_int pa_nil)))) pa_nil)))) (pa_cons (pe_fz L.wk r5 (by rfl) (pa_cons (pv 1) (pa_cons (pv 2) (pa_cons (pe_fz L.dr r2 (by rfl) (pa_cons (pv 1) (pa_cons pe_int pa_nil))) pa_nil)))) pa_nil)))) hu))) ?_
  rintro Z σ H ⟨o0, o2, o3, o4, o5, o6, p, rfl, ⟨xs, hx, hu⟩, q⟩
  have two : 2 ≤ sizeLine := by rw [sizeLine_eq]; decide
  have b0 : ∀ {H : Hp} {o : HO}, But p H (upd H p o) := but_self
  refine ⟨_, rfl, _, rfl, p, 4, 0, xs, rfl, hx, hu, by decide, by decide, by decide, fun r1 ys1 r10 r15 hu1 => ⟨_, _, rfl, rfl, ?_⟩⟩
  have b1 : But p H (upd H p (.lst ys1)) := b0
  have p1 : upd H p (.lst ys1) p = some (.lst ys1) := upd_same
  generalize upd H p (.lst ys1) = H1 at b1 p1 ⊢
  refine ⟨_, rfl, p, 3, _, ys1, rfl, p1, hu1, by decide, by decide, by decide, fun r2 ys2 r20 r25 hu2 => ?_⟩
  have b2 : But p H1 (upd H1 p (.lst ys2)) := b0
  have p2 : upd H1 p (.lst ys2) p = some (.lst ys2) := upd_same
  generalize upd H1 p (.lst ys2) = H2 at b2 p2 ⊢
  have hp2 : Pu H2 p (0 + 1 + 1) := ⟨ys2, p2, hu2⟩
  refine ⟨p, _, _, 8, _, rfl, hp2, by decide, by omega, by omega, by omega, by omega, by omega, by omega, fun W ls lg lc ln ts gs cs ns H3 hp3 b3 nW hW wo nw e1 e2 e3 => ?_⟩
  obtain ⟨m1, m2, m3, m4, m5⟩ := nw
  have nep : ∀ {a : Addr}, H2 a = none → a ≠ p := fun {a} e z => by
    rw [z, p2] at e
    cases e
  have wop : WoP H3 p W ls lg lc ln ts gs cs ns := ⟨hW, wo, nep nW, nep m1, nep m2, nep m3, nep m4⟩
  have c7 : cs.length ≤ 7 := by omega
  refine ⟨_, rfl, W, ls, lg, ts, gs, rfl, wop.wq, fun qq H4 s4 nq isq => ?_⟩
  have wop4 := wop.keep s4
  obtain ⟨ys4, p4, hu4⟩ := hp3.same s4
  have b04 := (b1.trans b2).trans (b3.trans (Same.but s4))
  refine ⟨_, rfl, _, rfl, _, rfl, p, 5, _, ys4, rfl, p4, hu4, by decide, by decide, by decide, fun r5 ys5 r50 r55 hu5 => ⟨_, _, rfl, rfl, ?_⟩⟩
  have b5 : But p H4 (upd H4 p (.lst ys5)) := b0
  have p5 : Pu (upd H4 p (.lst ys5)) p (0 + 1 + 1 + 1000 + 1) := ⟨ys5, upd_same, hu5⟩
  generalize upd H4 p (.lst ys5) = H5 at b5 p5 ⊢
  have wop5 := wop4.but b5 ⟨_, p4⟩
  have isq5 := isq.but ⟨ys4, p4, hu4⟩ b5
  obtain ⟨m, rfl⟩ := Int.eq_ofNat_of_zero_le r50
  refine ⟨p, W, ls, lg, lc, ln, ts, gs, cs, ns, m + 1, _, by simp [Int.add_comm], wop5, p5, by decide, by omega, c7, fun D1 us1 H6 b6 p6 nD1 hD1 o1 k1 => ?_⟩
  have wop6 := wop5.but b6 p5.lst
  have isq6 := isq5.but p5 b6
  obtain ⟨ys6, hp6, hu6⟩ := p6
  refine ⟨_, rfl, _, rfl, _, rfl, p, 4, _, ys6, rfl, hp6, hu6, by decide, by decide, by decide, fun r7 ys7 r70 r75 hu7 => ?_⟩
  have b7 : But p H6 (upd H6 p (.lst ys7)) := b0
  have p7 : Pu (upd H6 p (.lst ys7)) p (0 + 1 + 1 + 1000 + 1 + 300 + 1) := ⟨ys7, upd_same, hu7⟩
  generalize upd H6 p (.lst ys7) = H7 at b7 p7 ⊢
  have P6 : Pu H6 p (0 + 1 + 1 + 1000 + 1 + 300) := ⟨ys6, hp6, hu6⟩
  have wop7 := wop6.but b7 P6.lst
  have isq7 := isq6.but P6 b7
  have hD7 := hD1.but b7 (pu_ne_sts P6 hD1.1) P6.lst
  obtain ⟨m2, rfl⟩ := Int.eq_ofNat_of_zero_le r70
  refine ⟨p, W, ls, lg, lc, ln, ts, gs, cs, ns, m2, _, rfl, wop7, p7, by decide, by omega, c7, fun D2 us2 H8 b8 p8 nD2 hD2 o2 k2 => ?_⟩
  have wop8 := wop7.but b8 p7.lst
  have isq8 := isq7.but p7 b8
  have hD8 := hD7.but b8 (pu_ne_sts p7 hD7.1) p7.lst
  refine ⟨two, fun R nR => ?_⟩
  have s9 := same_upd (o := .lst [V.ref D1, V.ref D2]) nR
  have hR : upd H8 R (.lst [V.ref D1, V.ref D2]) R = some (.lst [V.ref D1, V.ref D2]) := upd_same
  generalize upd H8 R (.lst [V.ref D1, V.ref D2]) = H9 at s9 hR ⊢
  exact q W ls lg lc ln qq R D1 D2 ts gs cs ns us1 us2 H9 (b04.trans (b5.trans (b6.trans (b7.trans (b8.trans (Same.but s9)))))) ⟨wop8.keep s9, isq8.keep s9, (p8.same s9).mono (by omega), hR, hD8.keep s9, o1, k1, hD2.keep s9, o2, k2⟩
/-- all stages of all works -/
def tL2 (CQ : Addr) (u : TS) : TS := fun Z σ H => ∃ (o0 o5 o6 : Option V) (p W ls lg lc ln q R l1 l2 : Addr) (ts : List (Addr × S5)) (gs cs ns : List Str) (us1 us2 : List (Addr × S5)), σ = [o0, some (.ref p), some (.ref W), some (.ref q), some (.ref R), o5, o6] ∧ LwT H CQ p W ls lg lc ln q R l1 l2 ts gs cs ns us1 us2 2000 ∧
  ∀ o5 H', But p H H' → LwT H' CQ p W ls lg lc ln q R l1 l2 ts gs cs ns us1 us2 2000 → u Z [o0, some (.ref p), some (.ref W), some (.ref q), some (.ref R), o5, o6] H'
theorem lw2 (L : LawE P w K mg base CQ) (hr : Room 11 (A.deeper (envOfC "law" (defScope sLaw) s.heap.objs.size f cdv))) {rest : List Stmt} {u : TS} (hu : PSs (TLw P w K mg base f cdv A outer s Hl E) rest u) :
    PSs (TLw P w K mg base f cdv A outer s Hl E) (lwB 3 :: rest) (tL2 CQ u) := by
  refine weak (pss_cons (ps_for PassesOwn.never rfl (pi_list (pe_op op_cat (pv 4) (pe_slice sl_list (pv 4) po_none (po_some pe_int)))) (pg_name (i := 5) scLaw.nd rfl (Or.inl rfl))
    (pss_one (ps_if (pt_not (pt_val (pe_fz L.sg hr (by rfl) (pa_cons (pv 2) (pa_cons (pv 3) (pa_cons (pv 5) pa_nil)))))) (pss_one (ps_ret pe_bl)) pss_nil))) hu) ?_
  rintro Z σ H ⟨o0, o5, o6, p, W, ls, lg, lc, ln, q, R, l1, l2, ts, gs, cs, ns, us1, us2, rfl, h, z⟩
  have sl := sizeLine_eq
  refine ⟨_, rfl, _, rfl, _, rfl, R, _, rfl, SqL.of h.r, fun A1 nA1 => ?_⟩
  have ec : cutV [V.ref l1, V.ref l2] none (some 1) = [V.ref l1] := rfl
  rw [ec]
  have s1 := same_upd (o := .lst [V.ref l1]) nA1
  have hA1 : upd H A1 (.lst [V.ref l1]) A1 = some (.lst [V.ref l1]) := upd_same
  generalize upd H A1 (.lst [V.ref l1]) = H1 at s1 hA1 ⊢
  refine ⟨R, A1, _, _, rfl, rfl, s1 _ _ h.r, hA1, by rw [sl]; show 2 + 1 ≤ 16777216; decide, fun N nN => ?_⟩
  have s2 := same_upd (o := .lst ([V.ref l1, V.ref l2] ++ [V.ref l1])) nN
  have hN : upd H1 N (.lst ([V.ref l1, V.ref l2] ++ [V.ref l1])) N = some (.lst [V.ref l1, V.ref l2, V.ref l1]) := upd_same
  generalize upd H1 N (.lst ([V.ref l1, V.ref l2] ++ [V.ref l1])) = H2 at s2 hN ⊢
  have s02 := same_trans s1 s2
  have h2 := h.keep s02
  refine ⟨N, rfl, ⟨_, SqL.of hN⟩, ?_⟩
  refine for_list (K := K) (a := N) (xs := [V.ref l1, V.ref l2, V.ref l1]) (fun i σ H' => Same H2 H' ∧ ∃ o5 : Option V, σ = [o0, some (.ref p), some (.ref W), some (.ref q), some (.ref R), o5, o6]) ⟨Same.refl _, _, rfl⟩ (fun i σ H' _ h => SqL.of (h.1 _ _ hN)) ?_ ?_
  · rintro i x σ H' hi ⟨s3, o5, rfl⟩
    have h3 := h2.keep s3
    have hx : x = .ref l1 ∨ x = .ref l2 := by
      have := List.mem_of_getElem? hi
      simp at this
      rcases this with e | e | e
      · exact Or.inl e
      · exact Or.inr e
      · exact Or.inl e
    rcases hx with rfl | rfl
    · exact ⟨_, rfl, _, rfl, _, rfl, W, ls, lg, q, l1, ts, gs, us1, rfl, h3.b1, fun H4 s4 => ⟨_, rfl, ifF (by decide) ⟨same_trans s3 s4, _, rfl⟩⟩⟩
    · exact ⟨_, rfl, _, rfl, _, rfl, W, ls, lg, q, l2, ts, gs, us2, rfl, h3.b2, fun H4 s4 => ⟨_, rfl, ifF (by decide) ⟨same_trans s3 s4, _, rfl⟩⟩⟩
  · rintro σ H' ⟨s3, o5, rfl⟩
    exact z _ H' (Same.but (same_trans s02 s3)) (h2.keep s3)
/-- and of a later quarter; works that grow -/
def tL3 (CQ : Addr) : TS := fun Z σ H => ∃ (o0 o5 o6 : Option V) (p W ls lg lc ln q R l1 l2 : Addr) (ts : List (Addr × S5)) (gs cs ns : List Str) (us1 us2 : List (Addr × S5)), σ = [o0, some (.ref p), some (.ref W), some (.ref q), some (.ref R), o5, o6] ∧ LwT H CQ p W ls lg lc ln q R l1 l2 ts gs cs ns us1 us2 2000 ∧
  ∀ o6 H', But p H H' → Z.nx [o0, some (.ref p), some (.ref W), some (.ref q), some (.ref R), o5, o6] H'
theorem lw3 (L : LawE P w K mg base CQ) (hr : Room 11 (A.deeper (envOfC "law" (defScope sLaw) s.heap.objs.size f cdv))) :
    PSs (TLw P w K mg base f cdv A outer s Hl E) [lwB 4, lwB 5, lwB 6] (tL3 CQ) := by
  have r10 : Room 10 (A.deeper (envOfC "law" (defScope sLaw) s.heap.objs.size f cdv)) := hr.mono (by decide)
  refine weak (pss_cons (ps_set (i := 6) scLaw.nd rfl (Or.inl rfl) (pe_fz L.lt r10 (by rfl) (pa_cons (pv 1) (pa_cons (pv 2) (pa_cons (pv 3) pa_nil)))))
    (pss_cons (ps_if (PW.pt (pw_or (pt_not (pt_val (pe_fz L.sg hr (by rfl) (pa_cons (pe_ix ix_list (pv 6) pe_int (fun _ _ => rfl)) (pa_cons (pe_ix ix_list (pv 6) pe_int (fun _ _ => rfl)) (pa_cons (pe_ix ix_list (pv 4) pe_int (fun _ _ => rfl)) pa_nil))))))
      (pw_or1 (pt_not (pt_val (pe_fz L.sg hr (by rfl) (pa_cons (pv 2) (pa_cons (pv 3) (pa_cons (pe_ix ix_list (pv 4) pe_int (fun _ _ => rfl)) pa_nil))))))))) (pss_one (ps_ret pe_bl)) pss_nil)
    (pss_one (ps_if (pt_not (pt_val (pe_fz L.gr hr (by rfl) (pa_cons (pv 2) (pa_cons (pv 3) (pa_cons (pe_ix ix_list (pv 4) pe_int (fun _ _ => rfl)) pa_nil)))))) (pss_one (ps_ret pe_bl)) pss_nil)))) ?_
  rintro Z σ H ⟨o0, o5, o6, p, W, ls, lg, lc, ln, q, R, l1, l2, ts, gs, cs, ns, us1, us2, rfl, h, z⟩
  have t14 := h.len
  have nRp : R ≠ p := fun e => by
    obtain ⟨xs, hx, a, b, c, d, ex, _⟩ := h.pu
    have hr := h.r
    rw [e, hx, ex] at hr
    cases hr
  refine ⟨_, rfl, _, rfl, _, rfl, p, W, ls, lg, lc, ln, q, ts, gs, cs, ns, _, rfl, h.wo, h.q, h.pu, by decide, fun R2 W' q' ls' ts' H1 b1 p1 nR2 hR2 hw' hq' hl => ?_⟩
  have h1 : LwT H1 CQ p W ls lg lc ln q R l1 l2 ts gs cs ns us1 us2 2002 := ⟨h.wo.but b1 h.pu.lst, h.q.but h.pu b1, p1, b1 _ _ nRp h.r, h.s1.but b1 (pu_ne_sts h.pu h.s1.1) h.pu.lst, h.o1, h.k1, h.s2.but b1 (pu_ne_sts h.pu h.s2.1) h.pu.lst, h.o2, h.k2⟩
  have sb' : SgB H1 CQ W' ls' lg q' l2 ts' gs us2 := ⟨hw', hq', h1.s2, h1.o2, h1.k2, by have := h1.k2; omega⟩
  refine ⟨_, rfl, R2, _, ((0 : Nat) : Int), _, rfl, rfl, SqL.of hR2, atI_nat rfl, _, rfl, R2, _, ((1 : Nat) : Int), _, rfl, rfl, SqL.of hR2, atI_nat rfl, _, rfl, R, _, ((1 : Nat) : Int), _, rfl, rfl, SqL.of h1.r, atI_nat rfl, W', ls', lg, q', l2, ts', gs, us2, rfl, sb', fun H2 s2 => ⟨_, rfl, ifF (by decide) ?_⟩⟩
  have h2 := h1.keep s2
  refine ⟨_, rfl, _, rfl, _, rfl, R, _, ((1 : Nat) : Int), _, rfl, rfl, SqL.of h2.r, atI_nat rfl, W, ls, lg, q, l2, ts, gs, us2, rfl, h2.b2, fun H3 s3 => ⟨_, rfl, ifF (by decide) ?_⟩⟩
  have h3 := h2.keep s3
  refine ⟨_, rfl, _, rfl, _, rfl, R, _, ((0 : Nat) : Int), _, rfl, rfl, SqL.of h3.r, atI_nat rfl, W, ls, lg, q, l1, ts, gs, us1, rfl, h3.b1, fun H4 s4 => ⟨_, rfl, ifF (by decide) ?_⟩⟩
  exact z _ H4 (b1.trans (Same.but (same_trans s2 (same_trans s3 s4))))
end
section
variable {P : Program} {w : World} {K : PySem.W.Frag} {mg : Str → Option Value} {base : Heap} {CQ : Addr}
def spLaw (K : PySem.W.Frag) : Sp := fun vs H Q _ => ∃ (a : Addr) (ns : List Int), vs = [.ref a] ∧ SqL K H a (ns.map V.int) ∧ ∀ H', Q (.bl true) H'
/-- at the head of the turn i -/
def Pv (D : Addr) (ps : List Addr) (i : Nat) : L2.St → Hp → Prop := fun σ H => (∃ (o0 o1 o2 o3 o4 o5 o6 : Option V), σ = [o0, o1, o2, o3, o4, o5, o6]) ∧ H D = some (.lst (ps.map V.ref)) ∧
  ∀ j p, i ≤ j → ps[j]? = some p → Pu H p 0
theorem ok_law {f : Addr} {fd : FuncData} (F : FnP K "law" sLaw f fd) (L : LawE P w K mg base CQ) : FnOk P w K mg base CX0 12 f fd ["_law_script"] (spLaw K) := by
  refine F.ok scLaw (fun vs H Q E h => ?_) (fun cdv A outer s H vs Q E hr h => ?_)
  · obtain ⟨_, _, rfl, _⟩ := h
    rfl
  · obtain ⟨a, ns, rfl, hS, q⟩ := h
    have r2 : Room 2 (A.deeper (envOfC "law" (defScope sLaw) s.heap.objs.size f cdv)) := hr.mono (by decide)
    refine ⟨_, PSs.nox (pss_cons (ps_for PassesOwn.never rfl (pi_list (pe_fz L.pu r2 (by rfl) (pa_cons (pv 0) (pa_cons pe_int pa_nil)))) (pg_name (i := 1) scLaw.nd rfl (Or.inl rfl)) (lw1 L hr (lw2 L hr (lw3 L hr))))
      (pss_one (ps_ret pe_bl))), ?_⟩
    refine ⟨_, rfl, a, ns, rfl, hS, fun D ps H1 hl nD hP => ⟨D, rfl, ⟨_, SqL.of hP.2.1⟩, ?_⟩⟩
    refine for_list (K := K) (a := D) (xs := ps.map V.ref) (Pv D ps) ⟨⟨_, _, _, _, _, _, _, rfl⟩, hP.2.1, fun j p _ e => ?_⟩ (fun i σ H' _ h => SqL.of h.2.1) (fun i x σ H' hx h => ?_) ?_
    · obtain ⟨_, _, xs, e2, e3⟩ := hP.2.2.2 p (List.mem_of_getElem? e)
      exact ⟨xs, e2, e3⟩
    · obtain ⟨p, hi, rfl⟩ := at_map hx
      obtain ⟨⟨o0, o1, o2, o3, o4, o5, o6, rfl⟩, hD, hp⟩ := h
      have npD : p ≠ D := (hP.2.2.2 p (List.mem_of_getElem? hi)).2.1
      refine ⟨_, _, _, _, _, _, p, rfl, hp i p (Nat.le_refl _) hi, fun W ls lg lc ln qq R l1 l2 ts gs cs ns us1 us2 H2 b2 t2 => ?_⟩
      refine ⟨_, _, _, p, W, ls, lg, lc, ln, qq, R, l1, l2, ts, gs, cs, ns, us1, us2, rfl, t2, fun o5 H3 b3 t3 => ?_⟩
      refine ⟨_, _, _, p, W, ls, lg, lc, ln, qq, R, l1, l2, ts, gs, cs, ns, us1, us2, rfl, t3, fun o6 H4 b4 => ?_⟩
      have b := b2.trans (b3.trans b4)
      refine ⟨⟨_, _, _, _, _, _, _, rfl⟩, b _ _ (Ne.symm npD) hD, fun j r hj hr' => ?_⟩
      obtain ⟨ys, hy, hv⟩ := hp j r (by omega) hr'
      refine ⟨ys, b _ _ (fun y => ?_) hy, hv⟩
      rw [y] at hr'
      have lt := (List.getElem?_eq_some_iff.mp hi).1
      have := (List.getElem?_inj lt hP.2.2.1).mp (hi.trans hr'.symm)
      omega
    · rintro σ H2 ⟨⟨o0, o1, o2, o3, o4, o5, o6, rfl⟩, _, _⟩
      exact q H2
end
end K81
end
section
set_option Elab.async false
set_option linter.all false
set_option maxRecDepth 100000
set_option maxHeartbeats 4000000
namespace K81
open PySem PySem.Spec PyProof.Rows L2
/-! ### what the written part must say -/
def qA (K : PySem.W.Frag) : Addr := He.ga K "Quarter"
def gloB (K : PySem.W.Frag) (x : Str) : Bool := He.eqO (PySem.W.nsIn K mainGlobals x) (some (some (.ref (He.ga K x))))
def metB (K : PySem.W.Frag) (C : Addr) (m : Str) : Bool := He.eqO (PySem.W.findIn K (.ref C) m) (some (some (.ref (He.ma K C m)))) && (PySem.W.isFn K (.ref (He.ma K C m)) && PySem.W.keepIn K (.ref (He.ma K C m)))
theorem metB_ok {K : PySem.W.Frag} {C : Addr} {m : Str} (h : metB K C m = true) : Meth K C m (He.ma K C m) := by
  obtain ⟨h1, h⟩ := He.ba h
  obtain ⟨h2, h3⟩ := He.ba h
  exact ⟨He.eqO_ok h1, h2, h3⟩
def clsB (K : PySem.W.Frag) (C : Addr) : Bool := PySem.W.plainGet K C Str.empty && (PySem.W.hasDictIn K C && (PySem.W.plainOver K C && He.eqO (PySem.W.findIn K (.ref C) "__setattr__") (some (some (.builtin "object.__setattr__")))))
def mkB (K : PySem.W.Frag) (C : Addr) : Bool := PySem.W.makesIn K C && (metB K C "__init__" && PySem.W.keepIn K (.ref C))
def subB (K : PySem.W.Frag) (C : Addr) (T : String) (b : Bool) : Bool := decide (PySem.W.subIn K (.ref C) (.type T) = some b)
def owB (K : PySem.W.Frag) (C : Addr) : Bool := metB K C "__eq__" && (He.eqO (PySem.W.findIn K (.ref C) "__ne__") (some (some (.builtin "object.__ne__"))) && (subB K C "object" true &&
  (subB K C "NoneType" false && (subB K C "int" false && (subB K C "bool" false && (subB K C "str" false && (subB K C "list" false && (subB K C "tuple" false && subB K C "dict" false))))))))
def oneB (K : PySem.W.Frag) (C : Addr) : Bool := clsB K C && (mkB K C && (owB K C && (He.eqO (PySem.W.findIn K (.ref C) "_streets") (some none) && (He.eqO (PySem.W.findIn K (.ref C) "_gates") (some none) &&
  (He.eqO (PySem.W.findIn K (.ref C) "__class__") (some (some (.builtin "object.__class__"))) && (He.eqO (PySem.W.specialIn K (.builtin "object.__class__") "__get__") (some (some (.builtin "getset_descriptor.__get__"))) &&
  (decide (PySem.W.takesIn K (.builtin "object.__class__") = some true) && (decide (PySem.W.mroIn K C (.type "object") = some true) && (decide (PySem.W.kitOne K (.ref C) (.ref C) = some true) &&
  kinds.all fun T => decide (PySem.W.kitOne K (.type T) (.ref C) = some false) && PySem.W.notFirst K C (.type T))))))))))
theorem oneB_ok {K : PySem.W.Frag} {C : Addr} (h : oneB K C = true) : ClsF K C (He.ma K C "__init__") (He.ma K C "__eq__") := by
  obtain ⟨h1, h⟩ := He.ba h
  obtain ⟨h2, h⟩ := He.ba h
  obtain ⟨h3, h⟩ := He.ba h
  obtain ⟨h4, h⟩ := He.ba h
  obtain ⟨h5, h⟩ := He.ba h
  obtain ⟨h6, h⟩ := He.ba h
  obtain ⟨h7, h⟩ := He.ba h
  obtain ⟨h8, h⟩ := He.ba h
  obtain ⟨h9, h⟩ := He.ba h
  obtain ⟨h10, h11⟩ := He.ba h
  obtain ⟨c1, c⟩ := He.ba h1
  obtain ⟨c2, c⟩ := He.ba c
  obtain ⟨c3, c4⟩ := He.ba c
  obtain ⟨m1, m⟩ := He.ba h2
  obtain ⟨m2, m3⟩ := He.ba m
  have mi := metB_ok m2
  obtain ⟨o1, o⟩ := He.ba h3
  obtain ⟨o2, o⟩ := He.ba o
  obtain ⟨o3, o⟩ := He.ba o
  obtain ⟨o4, o⟩ := He.ba o
  obtain ⟨o5, o⟩ := He.ba o
  obtain ⟨o6, o⟩ := He.ba o
  obtain ⟨o7, o⟩ := He.ba o
  obtain ⟨o8, o⟩ := He.ba o
  obtain ⟨o9, o10⟩ := He.ba o
  have me := metB_ok o1
  refine ⟨⟨c1, c2, c3, He.eqO_ok c4⟩, ⟨m1, mi.at_, mi.fn, m3⟩, ⟨me.at_, me.fn, He.eqO_ok o2, of_decide_eq_true o3, of_decide_eq_true o4, of_decide_eq_true o5, of_decide_eq_true o6, of_decide_eq_true o7, of_decide_eq_true o8, of_decide_eq_true o9, of_decide_eq_true o10⟩,
    He.eqO_ok h4, He.eqO_ok h5, He.eqO_ok h6, He.eqO_ok h7, of_decide_eq_true h8, of_decide_eq_true h9, of_decide_eq_true h10, fun T hT => ?_⟩
  obtain ⟨k1, k2⟩ := He.ba (List.all_eq_true.mp h11 T hT)
  exact ⟨of_decide_eq_true k1, k2⟩
def klzB (K : PySem.W.Frag) : Bool := oneB K (qA K) && (gloB K "Quarter" && (metB K (qA K) "streets" && metB K (qA K) "gates"))
def defs1 : List Str := ["is_whole", "is_count", "is_sublist", "are_positions", "check_positions", "set_widths", "shut_streets", "is_word", "is_street", "are_streets", "check_streets", "are_gates", "check_gates", "check_quarter", "is_change", "_altered", "_changed_streets", "fitted", "changed", "quarter_while", "stage_of", "during", "_law_purse"]
def defs2 : List Str := ["_law_mixed", "_law_draw", "_law_purses", "_law_one_of", "_law_shuffled", "_law_exact", "_law_word", "_law_words", "_law_width", "_law_length", "_law_pair", "_law_shape", "_law_streets_of", "_law_world", "_law_quarter", "_law_lots", "_law_works", "_law_done", "_law_later", "_law_is_made", "_law_stages_right", "_law_grown_right", "law"]
def defs : List Str := defs1 ++ defs2
def chk (K : PySem.W.Frag) : Bool := klzB K && ((K.lookup sysModules).isSome && ((frees.all fun x => He.eqO (PySem.W.nsIn K mainGlobals x) (some none)) && defs.all fun x => gloB K x))
/-! ### the head -/
def dM (C m : Str) (q : Str) (st : Stmt) : He.DefD := ⟨(C, some m), m, q, defArgs st, defBody st, defScope st, [], []⟩
def dF (x : Str) (st : Stmt) : He.DefD := ⟨(x, none), x, x, defArgs st, defBody st, defScope st, [], []⟩
def sts : List Stmt := [sWhole, sCount, sSub, sPoss, sChkPos, sSetW, sShut, sIsWord, sIsStreet, sAreStreets, sChkStreets, sAreGates, sChkGates, sChkQuarter, sIsChange, sAltered, sChangedS, sFitted, sChanged, sWhile, sStage, sDuring, sPurse, sMixed, sDraw, sPurses, sOneOf, sShuffled, sExact, sWord, sWords, sWidth, sLength, sPair, sShape, sStreetsOf, sWorld, sQuarter, sLots, sWorks, sDone, sLater, sMade, sStages, sGrown, sLaw]
def fn : List He.DefD := (defs.zip sts).map (fun p => dF p.1 p.2) ++ [dM "Quarter" "__init__" "Quarter.__init__" sQInit, dM "Quarter" "streets" "Quarter.streets" sQStreets, dM "Quarter" "gates" "Quarter.gates" sQGates, dM "Quarter" "__eq__" "Quarter.__eq__" sQEq]
abbrev Al : Type := Bool × List He.FnW
def obsK (K : PySem.W.Frag) : Al := (chk K && fn.all fun d => d.ok K, fn.map fun d => He.fnW K d.at_)
def valK : Al := (true, fn.map He.DefD.val)
def Says (K : PySem.W.Frag) : Prop := obsK K = valK
def obsN (g : Addr → Option Obj) : Al := obsK (He.frG g (sysModules :: He.asD g 5))
abbrev hk : PySem.W.Hook where
  α := Al
  obs := fun s => obsN s.heap.get?
  val := fun _ => valK
  says := fun _ h => ∃ K : PySem.W.Frag, K.In h ∧ Says K
  of := fun _ _ e => ⟨_, He.frG_in, e⟩
  keeps := fun _ _ _ ⟨K, hK, c⟩ k => ⟨K, PySem.W.Frag.In.keeps hK k, c⟩
def ob (s : PySem.W.SharedT) : Al := obsN (HandSHeadRun.getT s)
theorem ob_eq (s : PySem.W.SharedT) : ob s = hk.obs s.abs := by
  have e : HandSHeadRun.getT s = s.abs.heap.get? := funext (HandSHeadRun.getT_eq s)
  show obsN (HandSHeadRun.getT s) = obsN s.abs.heap.get?
  rw [e]
section
variable {K : PySem.W.Frag}
theorem Says.chk (c : Says K) : chk K = true := (He.ba (show (K81.chk K && fn.all fun d => d.ok K) = true from congrArg (fun z : Al => z.1) c)).1
theorem Says.def_ (c : Says K) (i : Nat) {d : He.DefD} (h : fn[i]? = some d := by rfl) : ∃ fd, FunD K d.name d.qual d.params d.body d.scope (d.dvs K) (d.kws K) (He.fAd K d.at_) fd := by
  have c2 := (He.ba (show (K81.chk K && fn.all fun d => d.ok K) = true from congrArg (fun z : Al => z.1) c)).2
  have e : fn.map (fun d => He.fnW K d.at_) = fn.map He.DefD.val := congrArg (fun z : Al => z.2) c
  have e2 : (fn.map fun d => He.fnW K d.at_)[i]? = (fn.map He.DefD.val)[i]? := by rw [e]
  rw [List.getElem?_map, List.getElem?_map, h] at e2
  exact He.DefD.funD (Option.some.inj e2) (List.all_eq_true.mp c2 d (List.mem_of_getElem? h))
theorem tx_of {h : Heap} {mg : Str → Option Value} (X : K.In h) (G : h.Ns mainGlobals mg) (c : chk K = true) :
    Tx K mg ∧ (∀ x ∈ defs, mg x = some (.ref (He.ga K x))) ∧ Klz K mg (qA K) (He.ma K (qA K) "__init__") (He.ma K (qA K) "__eq__") (He.ma K (qA K) "streets") (He.ma K (qA K) "gates") := by
  obtain ⟨c1, c⟩ := He.ba c
  obtain ⟨c2, c⟩ := He.ba c
  obtain ⟨c3, c4⟩ := He.ba c
  obtain ⟨k1, k⟩ := He.ba c1
  obtain ⟨k2, k⟩ := He.ba k
  obtain ⟨k3, k4⟩ := He.ba k
  refine ⟨⟨fun x hx => PySem.W.mg_none_of X G (He.eqO_ok (List.all_eq_true.mp c3 x hx))⟩, fun x hx => PySem.W.mg_of X G (He.eqO_ok (List.all_eq_true.mp c4 x hx)), ?_⟩
  exact ⟨oneB_ok k1, PySem.W.mg_of X G (He.eqO_ok k2), metB_ok k3, metB_ok k4⟩
end
end K81
end
section
set_option Elab.async false
set_option linter.all false
set_option maxRecDepth 100000
set_option maxHeartbeats 4000000
namespace K81
open PySem PySem.Spec PyProof.Rows L2
section
variable {P : Program} {w : World} {K : PySem.W.Frag} {mg : Str → Option Value} {base : Heap}
theorem fz_of {x : Str} {st : Stmt} {ps : List Str} {k : Nat} {sp : Sp} {fd : FuncData} (F : FnP K x st (He.ga K x) fd) (ok : FnOk P w K mg base CX0 k (He.ga K x) fd ps sp) (hm : mg x = some (.ref (He.ga K x)))
    (h : ∀ (kV doc pm : Value) (an : Option Addr) (cdv ct : Value) (us : List Value), us.length = ps.length → bindArgs (PySem.W.fnOf x x (defArgs st) (defBody st) (defScope st) .none kV doc pm an cdv ct) ⟨us, []⟩ = pure (ps.zip us)) : Fz P w K mg base x k ps sp :=
  ⟨_, _, ok, hm, F.kp, F.bindsN h⟩
theorem mz_of {C : Addr} {m q : Str} {st : Stmt} {k : Nat} {sp : Sp} {fd : FuncData} (c : Cls K C) (M : Meth K C m (He.ma K C m)) (F : FnM K m q st (He.ma K C m) fd) (ok : FnOk P w K mg base CX0 k (He.ma K C m) fd ["self"] sp)
    (h : ∀ (kV doc pm : Value) (an : Option Addr) (cdv ct : Value) (us : List Value), us.length = 1 → bindArgs (PySem.W.fnOf m q (defArgs st) (defBody st) (defScope st) .none kV doc pm an cdv ct) ⟨us, []⟩ = pure ((["self"] : List Str).zip us)) : Mz P w K mg base C m k sp :=
  ⟨c, _, _, M, ok, F.bindsN h⟩
theorem env_of (c : Says K) {h : Heap} (X : K.In h) (G : h.Ns mainGlobals mg) : LawE P w K mg base (qA K) := by
  obtain ⟨T, gl, Z⟩ := tx_of X G c.chk
  have g : ∀ {x : Str}, x ∈ defs → mg x = some (.ref (He.ga K x)) := fun h => gl _ h
  obtain ⟨f0, F0⟩ := c.def_ 0 (d := dF "is_whole" sWhole)
  obtain ⟨f1, F1⟩ := c.def_ 1 (d := dF "is_count" sCount)
  obtain ⟨f2, F2⟩ := c.def_ 2 (d := dF "is_sublist" sSub)
  obtain ⟨f3, F3⟩ := c.def_ 3 (d := dF "are_positions" sPoss)
  obtain ⟨f4, F4⟩ := c.def_ 4 (d := dF "check_positions" sChkPos)
  obtain ⟨f5, F5⟩ := c.def_ 5 (d := dF "set_widths" sSetW)
  obtain ⟨f6, F6⟩ := c.def_ 6 (d := dF "shut_streets" sShut)
  obtain ⟨f7, F7⟩ := c.def_ 7 (d := dF "is_word" sIsWord)
  obtain ⟨f8, F8⟩ := c.def_ 8 (d := dF "is_street" sIsStreet)
  obtain ⟨f9, F9⟩ := c.def_ 9 (d := dF "are_streets" sAreStreets)
  obtain ⟨f10, F10⟩ := c.def_ 10 (d := dF "check_streets" sChkStreets)
  obtain ⟨f11, F11⟩ := c.def_ 11 (d := dF "are_gates" sAreGates)
  obtain ⟨f12, F12⟩ := c.def_ 12 (d := dF "check_gates" sChkGates)
  obtain ⟨f13, F13⟩ := c.def_ 13 (d := dF "check_quarter" sChkQuarter)
  obtain ⟨f14, F14⟩ := c.def_ 14 (d := dF "is_change" sIsChange)
  obtain ⟨f15, F15⟩ := c.def_ 15 (d := dF "_altered" sAltered)
  obtain ⟨f16, F16⟩ := c.def_ 16 (d := dF "_changed_streets" sChangedS)
  obtain ⟨f17, F17⟩ := c.def_ 17 (d := dF "fitted" sFitted)
  obtain ⟨f18, F18⟩ := c.def_ 18 (d := dF "changed" sChanged)
  obtain ⟨f19, F19⟩ := c.def_ 19 (d := dF "quarter_while" sWhile)
  obtain ⟨f20, F20⟩ := c.def_ 20 (d := dF "stage_of" sStage)
  obtain ⟨f21, F21⟩ := c.def_ 21 (d := dF "during" sDuring)
  obtain ⟨f22, F22⟩ := c.def_ 22 (d := dF "_law_purse" sPurse)
  obtain ⟨f23, F23⟩ := c.def_ 23 (d := dF "_law_mixed" sMixed)
  obtain ⟨f24, F24⟩ := c.def_ 24 (d := dF "_law_draw" sDraw)
  obtain ⟨f25, F25⟩ := c.def_ 25 (d := dF "_law_purses" sPurses)
  obtain ⟨f26, F26⟩ := c.def_ 26 (d := dF "_law_one_of" sOneOf)
  obtain ⟨f27, F27⟩ := c.def_ 27 (d := dF "_law_shuffled" sShuffled)
  obtain ⟨f28, F28⟩ := c.def_ 28 (d := dF "_law_exact" sExact)
  obtain ⟨f29, F29⟩ := c.def_ 29 (d := dF "_law_word" sWord)
  obtain ⟨f30, F30⟩ := c.def_ 30 (d := dF "_law_words" sWords)
  obtain ⟨f31, F31⟩ := c.def_ 31 (d := dF "_law_width" sWidth)
  obtain ⟨f32, F32⟩ := c.def_ 32 (d := dF "_law_length" sLength)
  obtain ⟨f33, F33⟩ := c.def_ 33 (d := dF "_law_pair" sPair)
  obtain ⟨f34, F34⟩ := c.def_ 34 (d := dF "_law_shape" sShape)
  obtain ⟨f35, F35⟩ := c.def_ 35 (d := dF "_law_streets_of" sStreetsOf)
  obtain ⟨f36, F36⟩ := c.def_ 36 (d := dF "_law_world" sWorld)
  obtain ⟨f37, F37⟩ := c.def_ 37 (d := dF "_law_quarter" sQuarter)
  obtain ⟨f38, F38⟩ := c.def_ 38 (d := dF "_law_lots" sLots)
  obtain ⟨f39, F39⟩ := c.def_ 39 (d := dF "_law_works" sWorks)
  obtain ⟨f40, F40⟩ := c.def_ 40 (d := dF "_law_done" sDone)
  obtain ⟨f41, F41⟩ := c.def_ 41 (d := dF "_law_later" sLater)
  obtain ⟨f42, F42⟩ := c.def_ 42 (d := dF "_law_is_made" sMade)
  obtain ⟨f43, F43⟩ := c.def_ 43 (d := dF "_law_stages_right" sStages)
  obtain ⟨f44, F44⟩ := c.def_ 44 (d := dF "_law_grown_right" sGrown)
  obtain ⟨m0, M0⟩ := c.def_ 46 (d := dM "Quarter" "__init__" "Quarter.__init__" sQInit)
  obtain ⟨m1, M1⟩ := c.def_ 47 (d := dM "Quarter" "streets" "Quarter.streets" sQStreets)
  obtain ⟨m2, M2⟩ := c.def_ 48 (d := dM "Quarter" "gates" "Quarter.gates" sQGates)
  obtain ⟨m3, M3⟩ := c.def_ 49 (d := dM "Quarter" "__eq__" "Quarter.__eq__" sQEq)
  have F0 : FnP K "is_whole" sWhole (He.ga K "is_whole") f0 := F0
  have F1 : FnP K "is_count" sCount (He.ga K "is_count") f1 := F1
  have F2 : FnP K "is_sublist" sSub (He.ga K "is_sublist") f2 := F2
  have F3 : FnP K "are_positions" sPoss (He.ga K "are_positions") f3 := F3
  have F4 : FnP K "check_positions" sChkPos (He.ga K "check_positions") f4 := F4
  have F5 : FnP K "set_widths" sSetW (He.ga K "set_widths") f5 := F5
  have F6 : FnP K "shut_streets" sShut (He.ga K "shut_streets") f6 := F6
  have F7 : FnP K "is_word" sIsWord (He.ga K "is_word") f7 := F7
  have F8 : FnP K "is_street" sIsStreet (He.ga K "is_street") f8 := F8
  have F9 : FnP K "are_streets" sAreStreets (He.ga K "are_streets") f9 := F9
  have F10 : FnP K "check_streets" sChkStreets (He.ga K "check_streets") f10 := F10
  have F11 : FnP K "are_gates" sAreGates (He.ga K "are_gates") f11 := F11
  have F12 : FnP K "check_gates" sChkGates (He.ga K "check_gates") f12 := F12
  have F13 : FnP K "check_quarter" sChkQuarter (He.ga K "check_quarter") f13 := F13
  have F14 : FnP K "is_change" sIsChange (He.ga K "is_change") f14 := F14
  have F15 : FnP K "_altered" sAltered (He.ga K "_altered") f15 := F15
  have F16 : FnP K "_changed_streets" sChangedS (He.ga K "_changed_streets") f16 := F16
  have F17 : FnP K "fitted" sFitted (He.ga K "fitted") f17 := F17
  have F18 : FnP K "changed" sChanged (He.ga K "changed") f18 := F18
  have F19 : FnP K "quarter_while" sWhile (He.ga K "quarter_while") f19 := F19
  have F20 : FnP K "stage_of" sStage (He.ga K "stage_of") f20 := F20
  have F21 : FnP K "during" sDuring (He.ga K "during") f21 := F21
  have F22 : FnP K "_law_purse" sPurse (He.ga K "_law_purse") f22 := F22
  have F23 : FnP K "_law_mixed" sMixed (He.ga K "_law_mixed") f23 := F23
  have F24 : FnP K "_law_draw" sDraw (He.ga K "_law_draw") f24 := F24
  have F25 : FnP K "_law_purses" sPurses (He.ga K "_law_purses") f25 := F25
  have F26 : FnP K "_law_one_of" sOneOf (He.ga K "_law_one_of") f26 := F26
  have F27 : FnP K "_law_shuffled" sShuffled (He.ga K "_law_shuffled") f27 := F27
  have F28 : FnP K "_law_exact" sExact (He.ga K "_law_exact") f28 := F28
  have F29 : FnP K "_law_word" sWord (He.ga K "_law_word") f29 := F29
  have F30 : FnP K "_law_words" sWords (He.ga K "_law_words") f30 := F30
  have F31 : FnP K "_law_width" sWidth (He.ga K "_law_width") f31 := F31
  have F32 : FnP K "_law_length" sLength (He.ga K "_law_length") f32 := F32
  have F33 : FnP K "_law_pair" sPair (He.ga K "_law_pair") f33 := F33
  have F34 : FnP K "_law_shape" sShape (He.ga K "_law_shape") f34 := F34
  have F35 : FnP K "_law_streets_of" sStreetsOf (He.ga K "_law_streets_of") f35 := F35
  have F36 : FnP K "_law_world" sWorld (He.ga K "_law_world") f36 := F36
  have F37 : FnP K "_law_quarter" sQuarter (He.ga K "_law_quarter") f37 := F37
  have F38 : FnP K "_law_lots" sLots (He.ga K "_law_lots") f38 := F38
  have F39 : FnP K "_law_works" sWorks (He.ga K "_law_works") f39 := F39
  have F40 : FnP K "_law_done" sDone (He.ga K "_law_done") f40 := F40
  have F41 : FnP K "_law_later" sLater (He.ga K "_law_later") f41 := F41
  have F42 : FnP K "_law_is_made" sMade (He.ga K "_law_is_made") f42 := F42
  have F43 : FnP K "_law_stages_right" sStages (He.ga K "_law_stages_right") f43 := F43
  have F44 : FnP K "_law_grown_right" sGrown (He.ga K "_law_grown_right") f44 := F44
  have M0 : FnM K "__init__" "Quarter.__init__" sQInit (He.ma K (qA K) "__init__") m0 := M0
  have M1 : FnM K "streets" "Quarter.streets" sQStreets (He.ma K (qA K) "streets") m1 := M1
  have M2 : FnM K "gates" "Quarter.gates" sQGates (He.ma K (qA K) "gates") m2 := M2
  have M3 : FnM K "__eq__" "Quarter.__eq__" sQEq (He.ma K (qA K) "__eq__") m3 := M3
  have GD : FnOk P w K mg base CX0 2 (He.ga K "_law_draw") f24 ["_law_purse_here", "_law_many"] spDraw := ok_draw F24 F23 (g (by decide +kernel)) T
  have ZD : DrawZ P w K mg base := fz_of F24 (GD) (g (by decide +kernel)) fun _ _ _ _ _ _ us hl => match us, hl with | [_, _], _ => rfl
  have ZPu : Fz P w K mg base "_law_purses" 2 ["_law_script", "_law_few"] (spPurses K) := fz_of F25 (ok_purses F25 F22 (g (by decide +kernel)) T) (g (by decide +kernel)) fun _ _ _ _ _ _ us hl => match us, hl with | [_, _], _ => rfl
  have ZO : OneZ P w K mg base := fz_of F26 (ok_oneOf F26 GD F24 (g (by decide +kernel)) T) (g (by decide +kernel)) fun _ _ _ _ _ _ us hl => match us, hl with | [_, _], _ => rfl
  have ZSh : Fz P w K mg base "_law_shuffled" 3 ["_law_purse_here", "_law_some"] spShuffled := fz_of F27 (ok_shuffled F27 ZD T) (g (by decide +kernel)) fun _ _ _ _ _ _ us hl => match us, hl with | [_, _], _ => rfl
  have bE : Binds K f28 ["_law_one", "_law_other"] [] := F28.bindsN fun _ _ _ _ _ _ us hl => match us, hl with | [_, _], _ => rfl
  have ZE : Fz P w K mg base "_law_exact" 6 ["_law_one", "_law_other"] (spExact 5) := ⟨_, _, ok_exact F28 (g (by decide +kernel)) F28.kp bE T 5, g (by decide +kernel), F28.kp, bE⟩
  have ZW : WordZ P w K mg base := fz_of F29 (ok_word F29 GD F24 (g (by decide +kernel)) T) (g (by decide +kernel)) fun _ _ _ _ _ _ us hl => match us, hl with | [_], _ => rfl
  have ZWs : Fz P w K mg base "_law_words" 4 ["_law_purse_here", "_law_many"] spWords := fz_of F30 (ok_words F30 ZD ZW T) (g (by decide +kernel)) fun _ _ _ _ _ _ us hl => match us, hl with | [_, _], _ => rfl
  have ZWi : WidthZ P w K mg base := fz_of F31 (ok_width F31 ZO) (g (by decide +kernel)) fun _ _ _ _ _ _ us hl => match us, hl with | [_], _ => rfl
  have ZLe : LengthZ P w K mg base := fz_of F32 (ok_length F32 ZO) (g (by decide +kernel)) fun _ _ _ _ _ _ us hl => match us, hl with | [_], _ => rfl
  have ZPa : PairZ P w K mg base := fz_of F33 (ok_pair F33 ZO) (g (by decide +kernel)) fun _ _ _ _ _ _ us hl => match us, hl with | [_, _], _ => rfl
  have ZSp : Fz P w K mg base "_law_shape" 3 ["_law_purse_here", "_law_gates", "_law_inner"] spShape := fz_of F34 (ok_shape F34 ZD T) (g (by decide +kernel)) fun _ _ _ _ _ _ us hl => match us, hl with | [_, _, _], _ => rfl
  have ZSt : Fz P w K mg base "_law_streets_of" 5 ["_law_purse_here", "_law_crossings", "_law_names", "_law_pairs", "_law_many"] spStreetsOf := fz_of F35 (ok_streetsOf F35 ZD ZO ZPa ZWi ZLe T) (g (by decide +kernel)) fun _ _ _ _ _ _ us hl => match us, hl with | [_, _, _, _, _], _ => rfl
  have ZWo : Fz P w K mg base "_law_world" 6 ["_law_purse_here", "_law_gates", "_law_inner", "_law_top"] spWorld := fz_of F36 (ok_world F36 ZD ZWs ZSh ZSp ZSt T) (g (by decide +kernel)) fun _ _ _ _ _ _ us hl => match us, hl with | [_, _, _, _], _ => rfl
  have ZWh : Fz P w K mg base "is_whole" 1 ["value"] spIsWhole := fz_of F0 (ok_isWhole F0 T) (g (by decide +kernel)) fun _ _ _ _ _ _ us hl => match us, hl with | [_], _ => rfl
  have ZC : Fz P w K mg base "is_count" 2 ["value"] spIsCount := fz_of F1 (ok_isCount F1 ZWh T) (g (by decide +kernel)) fun _ _ _ _ _ _ us hl => match us, hl with | [_], _ => rfl
  have ZIw : Fz P w K mg base "is_word" 1 ["value"] spIsWord := fz_of F7 (ok_isWord F7 T) (g (by decide +kernel)) fun _ _ _ _ _ _ us hl => match us, hl with | [_], _ => rfl
  have ZIs : Fz P w K mg base "is_street" 3 ["value"] spIsStreet := fz_of F8 (ok_isStreet F8 ZC ZIw T) (g (by decide +kernel)) fun _ _ _ _ _ _ us hl => match us, hl with | [_], _ => rfl
  have ZAs : Fz P w K mg base "are_streets" 4 ["value"] (spAreStreets K) := fz_of F9 (ok_areStreets F9 ZIs T) (g (by decide +kernel)) fun _ _ _ _ _ _ us hl => match us, hl with | [_], _ => rfl
  have ZCs : Fz P w K mg base "check_streets" 5 ["value"] (spChkStreets K) := fz_of F10 (ok_chkStreets F10 ZAs T) (g (by decide +kernel)) fun _ _ _ _ _ _ us hl => match us, hl with | [_], _ => rfl
  have ZAg : Fz P w K mg base "are_gates" 2 ["value"] spAreGates := fz_of F11 (ok_areGates F11 ZIw T) (g (by decide +kernel)) fun _ _ _ _ _ _ us hl => match us, hl with | [_], _ => rfl
  have ZCg : Fz P w K mg base "check_gates" 3 ["value"] spChkGates := fz_of F12 (ok_chkGates F12 ZAg T) (g (by decide +kernel)) fun _ _ _ _ _ _ us hl => match us, hl with | [_], _ => rfl
  have MQ : MkQ P w K mg base (qA K) := mkQ_of M0 Z.q.mkr Z.mQ (ok_qInit M0 Z.q ZCs ZCg T)
  have QS : Mz P w K mg base (qA K) "streets" 1 (spFld (qA K) "_streets") := mz_of Z.q.cl Z.qs M1 (ok_qStreets M1 Z.q T) fun _ _ _ _ _ _ us hl => match us, hl with | [_], _ => rfl
  have QG : Mz P w K mg base (qA K) "gates" 1 (spFld (qA K) "_gates") := mz_of Z.q.cl Z.qg M2 (ok_qGates M2 Z.q T) fun _ _ _ _ _ _ us hl => match us, hl with | [_], _ => rfl
  have EZ : EqZ P w K mg base (qA K) := ⟨_, _, _, _, _, Z, ok_qEq M3 Z T, FunD.bindsN M3 fun _ _ _ _ _ _ us hl => match us, hl with | [_, _], _ => rfl⟩
  have MS : Ms P w K mg base (qA K) := ⟨QS, QG, MQ⟩
  have ZCq : Fz P w K mg base "check_quarter" 1 ["value"] (spIns (qA K)) := fz_of F13 (ok_chkQ F13 Z.q Z.mQ T) (g (by decide +kernel)) fun _ _ _ _ _ _ us hl => match us, hl with | [_], _ => rfl
  have ZSu : Fz P w K mg base "is_sublist" 1 ["value", "things"] spSub := fz_of F2 (ok_sub F2 T) (g (by decide +kernel)) fun _ _ _ _ _ _ us hl => match us, hl with | [_, _], _ => rfl
  have ZPo : Fz P w K mg base "are_positions" 3 ["value", "many"] spPoss := fz_of F3 (ok_poss F3 ZSu ZC T) (g (by decide +kernel)) fun _ _ _ _ _ _ us hl => match us, hl with | [_, _], _ => rfl
  have ZCp : Fz P w K mg base "check_positions" 4 ["value", "many"] spChkPos := fz_of F4 (ok_chkPos F4 ZPo T) (g (by decide +kernel)) fun _ _ _ _ _ _ us hl => match us, hl with | [_, _], _ => rfl
  have ZSw : Fz P w K mg base "set_widths" 1 ["streets", "names", "number"] spSetW := fz_of F5 (ok_setW F5 T) (g (by decide +kernel)) fun _ _ _ _ _ _ us hl => match us, hl with | [_, _, _], _ => rfl
  have ZSs : Fz P w K mg base "shut_streets" 2 ["streets", "names"] spShut := fz_of F6 (ok_shut F6 ZSw) (g (by decide +kernel)) fun _ _ _ _ _ _ us hl => match us, hl with | [_, _], _ => rfl
  have ZWl : Fz P w K mg base "quarter_while" 8 ["quarter", "works", "done", "now"] (spWhile (qA K)) := fz_of F19 (ok_while F19 MS ZSs) (g (by decide +kernel)) fun _ _ _ _ _ _ us hl => match us, hl with | [_, _, _, _], _ => rfl
  have ZDu : Fz P w K mg base "during" 9 ["quarter", "works", "lot", "now"] (spDuring (qA K)) := fz_of F21 (ok_during F21 ZCq ZCs ZCp ZWl T) (g (by decide +kernel)) fun _ _ _ _ _ _ us hl => match us, hl with | [_, _, _, _], _ => rfl
  have ZSg : Fz P w K mg base "stage_of" 10 ["quarter", "works", "lot"] (spStage (qA K)) := fz_of F20 (ok_stage F20 ZDu) (g (by decide +kernel)) fun _ _ _ _ _ _ us hl => match us, hl with | [_, _, _], _ => rfl
  have ZIc : Fz P w K mg base "is_change" 4 ["value"] spIsChange := fz_of F14 (ok_isChange F14 ZC ZIw T) (g (by decide +kernel)) fun _ _ _ _ _ _ us hl => match us, hl with | [_], _ => rfl
  have ZAl : Fz P w K mg base "_altered" 1 ["street", "change"] spAlt := fz_of F15 (ok_alt F15) (g (by decide +kernel)) fun _ _ _ _ _ _ us hl => match us, hl with | [_, _], _ => rfl
  have ZCh : Fz P w K mg base "_changed_streets" 2 ["streets", "change"] spChgS := fz_of F16 (ok_chgS F16 ZAl T) (g (by decide +kernel)) fun _ _ _ _ _ _ us hl => match us, hl with | [_, _], _ => rfl
  have ZFi : Fz P w K mg base "fitted" 8 ["quarter", "change"] (spChanged (qA K)) := fz_of F17 (ok_fitted F17 MS ZCh) (g (by decide +kernel)) fun _ _ _ _ _ _ us hl => match us, hl with | [_, _], _ => rfl
  have ZCd : Fz P w K mg base "changed" 9 ["quarter", "change"] (spChanged (qA K)) := fz_of F18 (ok_changed F18 ZCq ZIc ZFi) (g (by decide +kernel)) fun _ _ _ _ _ _ us hl => match us, hl with | [_, _], _ => rfl
  have ZLo : Fz P w K mg base "_law_lots" 1 ["_law_things"] spLots := fz_of F38 (ok_lots F38) (g (by decide +kernel)) fun _ _ _ _ _ _ us hl => match us, hl with | [_], _ => rfl
  have ZDn : Fz P w K mg base "_law_done" 1 ["_law_world_here", "_law_works_here", "_law_lot", "_law_now"] spDone := fz_of F40 (ok_done F40) (g (by decide +kernel)) fun _ _ _ _ _ _ us hl => match us, hl with | [_, _, _, _], _ => rfl
  have ZMa : Fz P w K mg base "_law_is_made" 7 ["_law_told", "_law_due"] (spMade (qA K)) := fz_of F42 (ok_made F42 Z.q Z.mQ MS ZE T) (g (by decide +kernel)) fun _ _ _ _ _ _ us hl => match us, hl with | [_, _], _ => rfl
  have ZLq : Fz P w K mg base "_law_quarter" 8 ["_law_world_here"] (spLQuarter (qA K)) := fz_of F37 (ok_lQuarter F37 MQ T) (g (by decide +kernel)) fun _ _ _ _ _ _ us hl => match us, hl with | [_], _ => rfl
  have ZWk : Fz P w K mg base "_law_works" 5 ["_law_purse_here", "_law_world_here", "_law_many"] spWorks := fz_of F39 (ok_works F39 ZD ZO ZPa ZWi ZLe ZWs ZSh T) (g (by decide +kernel)) fun _ _ _ _ _ _ us hl => match us, hl with | [_, _, _], _ => rfl
  have ZLt : Fz P w K mg base "_law_later" 10 ["_law_purse_here", "_law_world_here", "_law_quarter_here"] (spLater (qA K)) := fz_of F41 (ok_later F41 ZD ZCd T) (g (by decide +kernel)) fun _ _ _ _ _ _ us hl => match us, hl with | [_, _, _], _ => rfl
  have S : SgE P w K mg base (qA K) := ⟨T, MS, EZ, ZLo, ZSg, ZDu, ZMa, ZDn, ZLq⟩
  have ZSt2 : Fz P w K mg base "_law_stages_right" 11 ["_law_world_here", "_law_quarter_here", "_law_works_here"] (spStages (qA K)) := fz_of F43 (ok_stages F43 S) (g (by decide +kernel)) fun _ _ _ _ _ _ us hl => match us, hl with | [_, _, _], _ => rfl
  have ZGr : Fz P w K mg base "_law_grown_right" 11 ["_law_world_here", "_law_quarter_here", "_law_works_here"] (spGrown (qA K)) := fz_of F44 (ok_grown F44 S) (g (by decide +kernel)) fun _ _ _ _ _ _ us hl => match us, hl with | [_, _, _], _ => rfl
  exact ⟨S, ZPu, ZD, ZWo, ZWk, ZLt, ZSt2, ZGr⟩
theorem facts {h : Heap} {f : Addr} (X : K.In h) (G : h.Ns mainGlobals mg) (hfa : mg ("law" : Str) = some (.ref f)) (c : Says K) :
    ∃ fd : FuncData, (∀ (s : Shared) (v : Value), BindsTo s fd ⟨[v], []⟩ [("_law_script", v)]) ∧ ∀ base : Heap, FnOk P w K mg base CX0 12 f fd ["_law_script"] (spLaw K) := by
  obtain ⟨T, gl, Z⟩ := tx_of X G c.chk
  obtain ⟨fd, F⟩ := c.def_ 45 (d := dF "law" sLaw)
  have F : FnP K "law" sLaw (He.ga K "law") fd := F
  have e := hfa.symm.trans (gl "law" (by decide +kernel))
  cases e
  have b := FunD.bindsA (ps := ["_law_script"]) F fun _ _ _ _ _ _ us hl => match us, hl with | [_], _ => rfl
  exact ⟨fd, fun s v => b s [v] rfl, fun base => ok_law F (env_of c X G)⟩
end
end K81
end
section
set_option Elab.async false
set_option linter.all false
set_option maxRecDepth 100000
set_option maxHeartbeats 0
namespace K81
open PySem PySem.W PySem.Calls PyProof.Rows
abbrev R : OpenRow := OpenLaw.row PySem.Challenge.rw_gatequarters_k81_whole_stages
def n1 : List PySem.Str := ["GateError", "InvalidStreets", "InvalidGates", "InvalidQuarter", "InvalidChange", "InvalidLot", "is_whole", "is_count", "is_sublist", "are_positions", "check_positions", "set_widths", "shut_streets", "is_word", "is_street", "are_streets", "check_streets"]
def n2 : List PySem.Str := ["are_gates", "check_gates", "Quarter", "check_quarter", "is_change", "_altered", "_changed_streets", "fitted", "changed", "quarter_while", "stage_of", "during", "_law_purse", "_law_mixed", "_law_draw", "_law_purses", "_law_one_of"]
def n3 : List PySem.Str := ["_law_shuffled", "_law_exact", "_law_word", "_law_words", "_law_width", "_law_length", "_law_pair", "_law_shape", "_law_streets_of", "_law_world", "_law_quarter", "_law_lots", "_law_works", "_law_done", "_law_later", "_law_is_made", "_law_stages_right", "_law_grown_right"]
def names : List PySem.Str := n1 ++ n2 ++ n3
abbrev qv : Program := view R.prog [60]
theorem run (w : World) : HandSHeadRun.RunEq R qv hk ob 12000 names w := by
  intro os
  kernel_rfl
end K81
end
section
open PySem PySem.W PySem.Calls PyProof.Rows
set_option Elab.async false
set_option linter.all false
set_option maxRecDepth 100000
set_option maxHeartbeats 0
theorem PySem.Challenge.cw_gatequarters_k81_whole_stages_holds : PySem.Challenge.rw_gatequarters_k81_whole_stages.Holds := by
  w_on; o_law
  refine HandSHeadRun.head_any (r := OpenLaw.row PySem.Challenge.rw_gatequarters_k81_whole_stages) (q := view (OpenLaw.row PySem.Challenge.rw_gatequarters_k81_whole_stages).prog [60]) (H := K81.hk) (ob := K81.ob) (M := 12000) (loose := K81.names) (d := HandSHeadRun.topDef (OpenLaw.row PySem.Challenge.rw_gatequarters_k81_whole_stages).prog 60) (kwd := []) K81.ob_eq
    (by kernel_rfl) (fun s => by kernel_rfl) K81.run (by kernel_rfl) (by kernel_rfl) (by kernel_rfl) (by rfl) (by first | assumption | decide +kernel) (by decide +kernel) ⟨rfl, rfl, rfl, rfl, rfl, by decide +kernel⟩ ?hw ?hc
  case hw => w_witness2
  case hc =>
    refine L2.walk_ofE (l := PySem.Challenge.rw_gatequarters_k81_whole_stages) (n := 63) (k := 12) (CX := L2.CX0) (x := "_law_script") rfl (by decide) (by kernel_rfl) ⟨rfl, by decide, by decide⟩ ?F (fun _ _ _ _ h => h)
    intro w mg fa h Y G hmg0
    obtain ⟨K, KX, c⟩ := Y
    have hmg : mg ("law" : PySem.Str) = some (.ref fa) := by
      have e : (HandSHeadRun.topDef (OpenLaw.row PySem.Challenge.rw_gatequarters_k81_whole_stages).prog 60).name = ("law" : PySem.Str) := by kernel_rfl
      rw [← e]
      exact hmg0
    obtain ⟨fd, hb, hF⟩ := K81.facts (P := (PySem.Challenge.rw_gatequarters_k81_whole_stages).prog) (w := w) KX G hmg c
    exact ⟨K, fd, K81.spLaw K, KX, hb, fun H a ns hl _ hS => ⟨a, ns, rfl, hS, fun _ => rfl⟩, fun base _ _ => hF base⟩
end
