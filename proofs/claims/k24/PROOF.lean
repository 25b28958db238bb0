import PyProof.Rows.All
import Wide.All
import OpenK.AllK
import Wide.FinOn
import HandS.ForMost
import HandS.Dict
import KE.KeyNested
import KE.KDictKeyed
import HandS.Conv
import HandS.Sort
import KE.KDictDisplayH
import HandS.ForExc
import HandS.Wide
import HandS.EndBits
import HandS.TryOnly
import HandS.Flow
import HandS.Style
import HandS.TupAny
import HandS.IsInst
import HandS.ExcIs
import HandS.Deep
import HandS.TupMul
import HandS.Iter
import KE.GoesMore
import HandS.Star
import HandS.Gcd
import HandS.Zip
import HandS.Rev
import HandS.Walk
import HandS.ExcCtx
import HandS.HotCalls
import HandS.Hot
import PyProof.SeqIndex
import PyProof.EqKinds
import PySem.Challenge.RW_rowsteps_k24_n_to_five
set_option Elab.async false
set_option linter.all false
set_option maxRecDepth 100000
set_option maxHeartbeats 4000000
namespace DE
open PySem PySem.Spec PyProof.Rows L2

/-! ### dicts whose keys are tuples of numbers, of any depth -/
mutual
/-- a key that holds numbers and tuples alone -/
def nOk : NestedKey → Bool
  | .num _ => true
  | .tup ks => nOks ks
  | _ => false
def nOks : List NestedKey → Bool
  | [] => true
  | k :: ks => nOk k && nOks ks
end
mutual
/-- its hash: the same in every world -/
def hashN : NestedKey → Int
  | .num i => hashInt i
  | .tup ks => reduceHash (Builtin.Tuple.tupleHashOf (hashNs ks))
  | _ => 0
def hashNs : List NestedKey → List Int
  | [] => []
  | k :: ks => hashN k :: hashNs ks
end
mutual
theorem hash_N (w : World) : ∀ k : NestedKey, nOk k = true → k.hash w = hashN k
  | .num i, _ => by simp only [NestedKey.hash, hashN]
  | .tup ks, h => by
    simp only [nOk] at h
    simp only [NestedKey.hash, hashN, hash_Ns w ks h]
  | .none, h => by simp [nOk] at h
  | .text _, h => by simp [nOk] at h
theorem hash_Ns (w : World) : ∀ ks : List NestedKey, nOks ks = true → NestedKey.hashes w ks = hashNs ks
  | [], _ => by simp only [NestedKey.hashes, hashNs]
  | k :: ks, h => by
    simp only [nOks, Bool.and_eq_true] at h
    simp only [NestedKey.hashes, hashNs, hash_N w k h.1, hash_Ns w ks h.2]
end
/-- a key that may be asked for -/
def kOk (k : NestedKey) : Bool := nOk k && decide (k.depth ≤ 8) && match k with | .tup _ => true | _ => false
abbrev NE := NestedKey × Addr × V
def entN (x : NestedKey × Addr × Value) : DictEntry := ⟨hashN x.1, .ref x.2.1, x.2.2⟩
abbrev NP : List NE → List (NestedKey × Addr × Value) → Prop := Paired fun p q => p.1 = q.1 ∧ p.2.1 = q.2.1 ∧ RelV p.2.2 q.2.2
/-- what stands at a -/
def DNp (a : Addr) (es : List NE) : Heap → Prop := fun h => es.length ≤ sizeLine ∧ (a == sysModules) = false ∧ ∃ vs, NP es vs ∧ ∃ o ens ep, h.get? a = some o ∧ o.ExactDict ∧ o.data = .dict ens ep ∧ ens.toList = vs.map entN ∧ (vs.map (·.1)).Nodup
theorem DNp.obj {P : Program} {w : World} {H : Hp} {h : Heap} {a : Addr} {es : List NE} (x : DNp a es h) : ObjOk P w H h a (.ext (DNp a es)) := by
  obtain ⟨z, y, vs, r, o, ens, ep, e, c⟩ := id x
  exact ⟨x, ⟨o, e⟩, fun h1 h2 ⟨z, y, vs, r, o, ens, ep, e, c⟩ k => ⟨z, y, vs, r, o, ens, ep, k _ e, c⟩⟩
mutual
/-- the value is the key -/
inductive NkV (K : PySem.W.Frag) (H : Hp) : NestedKey → V → Prop
  | num (i : Int) : NkV K H (.num i) (.int i)
  | tup {a : Addr} {xs : List V} {ks : List NestedKey} : SqT K H a xs → NkVs K H ks xs → NkV K H (.tup ks) (.ref a)
inductive NkVs (K : PySem.W.Frag) (H : Hp) : List NestedKey → List V → Prop
  | nil : NkVs K H [] []
  | cons {k : NestedKey} {ks : List NestedKey} {v : V} {vs : List V} : NkV K H k v → NkVs K H ks vs → NkVs K H (k :: ks) (v :: vs)
end
section
variable {X : Cx} {pins : List (Addr × Obj)} {σ : L2.St} {H : Hp} {s : Shared}
mutual
theorem NkV.is (I : Inv X pins σ H s) : ∀ {k : NestedKey} {v : V} {u : Value}, NkV X.K H k v → RelV v u → NestedIs s.heap k u
  | _, _, _, .num i, r => by
    obtain ⟨t, rfl⟩ := r
    exact .int i t
  | _, _, _, .tup (a := a) h q, r => by
    obtain rfl : _ = Value.ref a := r
    obtain ⟨its, rv, ⟨o, ho, hc, n, hd⟩, _⟩ := I.tuple h
    exact .tup ho hc hd (by simpa using NkVs.is I q rv)
theorem NkVs.is (I : Inv X pins σ H s) : ∀ {ks : List NestedKey} {vs : List V} {us : List Value}, NkVs X.K H ks vs → Vals vs us → NestedAll s.heap ks us
  | _, _, _, .nil, r => by cases r; exact .nil
  | _, _, _, .cons h q, r => by
    cases r with | cons r1 r2 => exact .cons (NkV.is I h r1) (NkVs.is I q r2)
end
theorem kOk_n {k : NestedKey} (h : kOk k = true) : nOk k = true := by
  unfold kOk at h
  simp only [Bool.and_eq_true] at h
  exact h.1.1
theorem kOk_d {k : NestedKey} (h : kOk k = true) : k.depth ≤ 8 := by
  unfold kOk at h
  simp only [Bool.and_eq_true, decide_eq_true_eq] at h
  exact h.1.2
/-- what is known of the keys of a dict -/
def Nks (K : PySem.W.Frag) (H : Hp) (es : List NE) : Prop := ∀ e ∈ es, kOk e.1 = true ∧ NkV K H e.1 (.ref e.2.1)
theorem NP.mem : ∀ {es : List NE} {vs : List (NestedKey × Addr × Value)}, NP es vs → ∀ x ∈ vs, ∃ e ∈ es, e.1 = x.1 ∧ e.2.1 = x.2.1
  | _, _, .nil, x, h => by cases h
  | _, _, .cons h t, x, hx => (List.mem_cons.mp hx).elim (fun e => e ▸ ⟨_, List.mem_cons_self, h.1, h.2.1⟩) fun e => let ⟨e', h1, h2⟩ := NP.mem t x e; ⟨e', List.mem_cons_of_mem _ h1, h2⟩
theorem nd_of {a : Addr} {es : List NE} (I : Inv X pins σ H s) (e : H a = some (.ext (DNp a es))) (n : Nks X.K H es) : es.length ≤ sizeLine ∧ (a == sysModules) = false ∧ ∃ vs, NP es vs ∧ s.heap.DictOfH (nestedKind X.prog X.w) a vs := by
  obtain ⟨⟨z, y, vs, r, o, ens, ep, ho, hx, hd, he, hn⟩, _, _⟩ := I.hok a _ e
  have hk : ∀ x ∈ vs, kOk x.1 = true ∧ NkV X.K H x.1 (.ref x.2.1) := fun x hx => by
    obtain ⟨e, he, e1, e2⟩ := NP.mem r x hx
    rw [← e1, ← e2]
    exact n e he
  refine ⟨z, y, vs, r, o, ens, ep, ho, hx, hd, ?_, fun x hx => ⟨(hk x hx).2.is I rfl, kOk_d (hk x hx).1⟩, hn⟩
  rw [he]
  refine List.map_congr_left fun x hx => ?_
  unfold entN entryOfKey
  show DictEntry.mk (hashN x.1) _ _ = DictEntry.mk (x.1.hash X.w) _ _
  rw [hash_N _ _ (kOk_n (hk x hx).1)]
def getE (es : List NE) (k : NestedKey) : Option V := (es.find? fun x => decide (x.1 = k)).map (·.2.2)
def putE (es : List NE) (k : NestedKey) (a : Addr) (v : V) : List NE := if (getE es k).isSome then es.map fun x => if x.1 = k then (x.1, x.2.1, v) else x else es ++ [(k, a, v)]
theorem NP.get : ∀ {es : List NE} {vs : List (NestedKey × Addr × Value)} (k : NestedKey), NP es vs → RelO (getE es k) ((atKey vs k).map (·.2))
  | _, _, k, .nil => True.intro
  | _, _, k, .cons (a := p) (b := q) (l₁ := es) (l₂ := vs) h t => by
    have ih := NP.get k t
    by_cases e : p.1 = k
    · have e2 : q.1 = k := h.1 ▸ e
      simp only [getE, atKey, List.find?_cons, e, e2, decide_true, Option.map_some]
      exact h.2.2
    · have e2 : ¬ q.1 = k := h.1 ▸ e
      simpa [getE, atKey, List.find?_cons, e, e2] using ih
theorem NP.repl (k : NestedKey) {y : V} {u : Value} (ry : RelV y u) : ∀ {es : List NE} {vs : List (NestedKey × Addr × Value)}, NP es vs → NP (es.map fun x => if x.1 = k then (x.1, x.2.1, y) else x) (vs.map (putAt k u))
  | _, _, .nil => .nil
  | _, _, .cons (a := p) (b := x) h t => by
    refine .cons ?_ (NP.repl k ry t)
    by_cases e : p.1 = k
    · have e2 : x.1 = k := h.1 ▸ e
      simp only [putAt, e, e2, if_true]
      exact ⟨trivial, h.2.1, ry⟩
    · have e2 : ¬ x.1 = k := h.1 ▸ e
      simp only [putAt, e, e2, if_false]
      exact h
theorem NP.snoc (k : NestedKey) {a : Addr} {y : V} {u : Value} (ry : RelV y u) : ∀ {es : List NE} {vs : List (NestedKey × Addr × Value)}, NP es vs → NP (es ++ [(k, a, y)]) (vs ++ [(k, a, u)])
  | _, _, .nil => .cons ⟨rfl, rfl, ry⟩ .nil
  | _, _, .cons h t => .cons h (NP.snoc k ry t)
theorem NP.put {es : List NE} {vs : List (NestedKey × Addr × Value)} (k : NestedKey) {a : Addr} {y : V} {u : Value} (r : NP es vs) (ry : RelV y u) : NP (putE es k a y) (storedH vs k a u) := by
  have q := (NP.get k r).isSome_eq
  rw [Option.isSome_map] at q
  unfold putE storedH
  rw [q]
  split
  · exact NP.repl k ry r
  · exact NP.snoc k ry r
theorem NP.len {es : List NE} {vs : List (NestedKey × Addr × Value)} (r : NP es vs) : es.length = vs.length := Paired.length r
theorem putE_len (es : List NE) (k : NestedKey) (a : Addr) (v : V) : (putE es k a v).length ≤ es.length + 1 := by
  unfold putE
  split
  · simp
  · simp
theorem mem_putE {es : List NE} {k : NestedKey} {a : Addr} {v : V} {e : NE} (h : e ∈ putE es k a v) : (∃ e' ∈ es, e'.1 = e.1 ∧ e'.2.1 = e.2.1) ∨ (e.1 = k ∧ e.2.1 = a) := by
  unfold putE at h
  split at h
  · obtain ⟨x, hx, rfl⟩ := List.mem_map.mp h
    refine .inl ⟨x, hx, ?_⟩
    split <;> exact ⟨rfl, rfl⟩
  · rcases List.mem_append.mp h with h | h
    · exact .inl ⟨e, h, rfl, rfl⟩
    · rw [List.mem_singleton.mp h]; exact .inr ⟨rfl, rfl⟩
section
variable {a b : Addr} {es : List NE} {k : NestedKey} {v : V} {u r : Value} {A : Around} {E : Value → Shared → Prop}
theorem n_room (hu : A.units + 10 < cLine) : (nestedKind X.prog X.w).room A.in1 := by show A.units + 1 + 8 < cLine; omega
theorem n_getItem {Q : Value → Shared → Prop} (hu : A.units + 10 < cLine) (I : Inv X pins σ H s) (e : H a = some (.ext (DNp a es))) (n : Nks X.K H es) (ok : kOk k = true) (hk : NkV X.K H k (.ref b)) (g : getE es k = some v)
    (h : ∀ w' s', Inv X pins σ H s' → RelV v w' → Q w' s') : wpAny (model X.prog X.w) A (getItem (.ref a) (.ref b)) Q E s := by
  obtain ⟨z, y, vs, rel, dd⟩ := nd_of I e n
  obtain ⟨w', hw, rw'⟩ := RelO.some_of (v := v) (o := (atKey vs k).map (·.2)) (by rw [← g]; exact rel.get k)
  obtain ⟨p, hp, hp2⟩ := Option.map_eq_some_iff.mp hw
  refine wpAny_getItem_heap (n_room hu) ⟨hk.is I rfl, kOk_d ok⟩ dd hp ?_
  rw [hp2]
  exact h w' _ (I.tok _) rw'
theorem n_in {Q : Value → Shared → Prop} (hu : A.units + 10 < cLine) (I : Inv X pins σ H s) (e : H a = some (.ext (DNp a es))) (n : Nks X.K H es) (ok : kOk k = true) (hk : NkV X.K H k (.ref b))
    (h : ∀ s', Inv X pins σ H s' → Q (.bool (getE es k).isSome) s') : wpAny (model X.prog X.w) A (compareOp .In (.ref b) (.ref a)) Q E s := by
  obtain ⟨z, y, vs, rel, dd⟩ := nd_of I e n
  refine wpAny_in_heap (n_room hu) ⟨hk.is I rfl, kOk_d ok⟩ y dd ?_
  have q := (rel.get k).isSome_eq
  rw [Option.isSome_map] at q
  rw [← q]
  exact h _ (I.tok _)
theorem n_notIn {Q : Value → Shared → Prop} (hu : A.units + 10 < cLine) (I : Inv X pins σ H s) (e : H a = some (.ext (DNp a es))) (n : Nks X.K H es) (ok : kOk k = true) (hk : NkV X.K H k (.ref b))
    (h : ∀ s', Inv X pins σ H s' → Q (.bool (!(getE es k).isSome)) s') : wpAny (model X.prog X.w) A (compareOp .NotIn (.ref b) (.ref a)) Q E s := by
  obtain ⟨z, y, vs, rel, dd⟩ := nd_of I e n
  refine wpAny_notIn_heap (n_room hu) ⟨hk.is I rfl, kOk_d ok⟩ y dd ?_
  have q := (rel.get k).isSome_eq
  rw [Option.isSome_map] at q
  rw [← q]
  exact h _ (I.tok _)
theorem n_setItem {Q : Unit → Shared → Prop} (hu : A.units + 10 < cLine) (I : Inv X pins σ H s) (e : H a = some (.ext (DNp a es))) (n : Nks X.K H es) (ok : kOk k = true) (hk : NkV X.K H k (.ref b)) (l : es.length < sizeLine) (rv : RelV v r)
    (h : ∀ s', Inv X pins σ (upd H a (.ext (DNp a (putE es k b v)))) s' → Q () s') : wpAny (model X.prog X.w) A (setItem (.ref a) (.ref b) r) Q E s := by
  obtain ⟨z, y, vs, rel, dd⟩ := nd_of I e n
  have hz : vs.length ≤ sizeLine := by rw [← rel.len]; exact z
  have hl : (putE es k b v).length ≤ sizeLine := by have := putE_len es k b v; omega
  refine wpAny_setItem_heap (hsz := hz) (n_room hu) ⟨hk.is I rfl, kOk_d ok⟩ dd fun h' dd' hs => h _ ?_
  obtain ⟨q, ens, ep, hq, h2, h3, h4, hm, h5⟩ := dd'
  refine d_write I (by rw [e]; exact True.intro) hs ⟨q, hq⟩ (DNp.obj ⟨hl, y, _, rel.put k rv, q, ens, ep, hq, h2, h3, ?_, h5⟩)
  rw [h4]
  refine List.map_congr_left fun x hx => ?_
  obtain ⟨e1, he1, e2, e3⟩ := NP.mem (rel.put (a := b) k rv) x hx
  have hok : kOk x.1 = true := by
    rw [← e2]
    rcases mem_putE he1 with ⟨e', h1, h2, _⟩ | ⟨h1, _⟩
    · rw [← h2]; exact (n e' h1).1
    · rw [h1]; exact ok
  unfold entN entryOfKey
  show DictEntry.mk (x.1.hash X.w) _ _ = DictEntry.mk (hashN x.1) _ _
  rw [hash_N _ _ (kOk_n hok)]
end
theorem n_empty {P : Program} {w : World} {H : Hp} (h : Heap) (hb : sysModules < h.objs.size) : ObjOk P w H (h.push { cls := .type "dict", data := .dict #[] }) h.objs.size (.ext (DNp h.objs.size [])) :=
  DNp.obj ⟨Nat.zero_le _, beq_eq_false_iff_ne.mpr (Ne.symm (Nat.ne_of_lt hb)), [], .nil, _, #[], 0, Heap.get?_push_size _ rfl, ⟨rfl, rfl, rfl⟩, rfl, rfl, List.nodup_nil⟩
end
section
variable {X : Cx} {pos : Pos}
def tDNewN : TE := fun _ H Q => ∀ p, H p = none → Q (.ref p) (upd H p (.ext (DNp p [])))
theorem pe_dnewN : PE X (.Dict [] [] pos) tDNewN := ⟨fun pins s σ H Q I h =>
  wpAny_Dict_empty ⟨.ref s.heap.objs.size, _, I.laid (a := s.heap.objs.size) (o := .ext (DNp s.heap.objs.size [])) (t' := s.toks) (fun _ _ q => Heap.get?_push_of_some _ q) (Nat.le_refl _) (n_empty s.heap I.big), rfl, h _ (I.hok.fresh (Nat.le_refl _))⟩⟩
end
/-- a dict read at a key: what a dict of DE tells -/
def NGet (K : PySem.W.Frag) (H : Hp) (a : Addr) (y : V) (r : Option V) : Prop := ∃ es k b, H a = some (.ext (DNp a es)) ∧ Nks K H es ∧ kOk k = true ∧ y = .ref b ∧ NkV K H k (.ref b) ∧ r = getE es k
def NPut (K : PySem.W.Frag) (H : Hp) (a : Addr) (y v : V) (H' : Hp) : Prop := ∃ es k b, H a = some (.ext (DNp a es)) ∧ Nks K H es ∧ kOk k = true ∧ y = .ref b ∧ NkV K H k (.ref b) ∧ es.length < sizeLine ∧ H' = upd H a (.ext (DNp a (putE es k b v)))
section
variable {X : Cx} {o i value : Expr} {pos pos' : Pos} {td ty tv : TE}
theorem nget_typeIs {pins : List (Addr × Obj)} {σ : L2.St} {H : Hp} {s : Shared} {a : Addr} {y : V} {r : Option V} (I : Inv X pins σ H s) (g : NGet X.K H a y r) : s.TypeIs (.ref a) "dict" := by
  obtain ⟨es, k, b, e, n, _⟩ := g
  obtain ⟨_, _, vs, _, dd⟩ := nd_of I e n
  exact dd.typeIs
def tNGet (K : PySem.W.Frag) (td ty : TE) : TE := fun σ H Q => td σ H fun x H1 => ty σ H1 fun y H2 => ∃ a v, x = .ref a ∧ NGet K H2 a y (some v) ∧ Q v H2
def tNIn (K : PySem.W.Frag) (neg : Bool) (ty td : TE) : TE := fun σ H Q => ty σ H fun y H1 => td σ H1 fun x H2 => ∃ a o, x = .ref a ∧ NGet K H2 a y o ∧ Q (.bl (if neg = true then !o.isSome else o.isSome)) H2
def sNPut (K : PySem.W.Frag) (td ty tv : TE) : TS := fun D σ H => tv σ H fun v H1 => td σ H1 fun x H2 => ty σ H2 fun y H3 => ∃ a H4, x = .ref a ∧ NPut K H3 a y v H4 ∧ D.nx σ H4
theorem pe_nget (hu : X.A.units + 10 < cLine) (ho : PE X o td) (hi : PE X i ty) (hs : NoSl i) : PE X (.Subscript o i pos) (tNGet X.K td ty) := by
  refine ⟨fun pins s σ H Q I h => ?_⟩
  refine subD_of PySem.F.slot_dict_getitem.lookup hs (thn (ho.run pins s σ H _ I h) fun u s1 ⟨x, H1, I1, rx, q1⟩ => thn (hi.run pins s1 σ H1 _ I1 q1) fun iv s2 ⟨y, H2, I2, ry, a, v, ex, g, q2⟩ => ?_)
  subst ex
  obtain rfl : u = Value.ref a := rx
  refine ⟨nget_typeIs I2 g, ?_⟩
  obtain ⟨es, k, b, e, n, ok, ey, hk, g⟩ := g
  subst ey
  obtain rfl : iv = Value.ref b := ry
  exact n_getItem hu I2 e n ok hk g.symm fun w' s3 I3 rw' => ⟨v, H2, I3, rw', q2⟩
theorem pc_nin (hu : X.A.units + 10 < cLine) (hi : PE X i ty) (ho : PE X o td) : PC X .In i o (tNIn X.K false ty td) := by
  refine ⟨fun pins s σ H Q I h => ?_⟩
  refine thn (hi.run pins s σ H _ I h) fun iv s1 ⟨y, H1, I1, ry, q1⟩ => thn (ho.run pins s1 σ H1 _ I1 q1) fun u s2 ⟨x, H2, I2, rx, a, ov, ex, g, q2⟩ => ?_
  subst ex
  obtain rfl : u = Value.ref a := rx
  obtain ⟨es, k, b, e, n, ok, ey, hk, g⟩ := g
  subst ey g
  obtain rfl : iv = Value.ref b := ry
  exact n_in hu I2 e n ok hk fun s3 I3 => ⟨.bl _, H2, I3, rfl, q2⟩
theorem pc_nnin (hu : X.A.units + 10 < cLine) (hi : PE X i ty) (ho : PE X o td) : PC X .NotIn i o (tNIn X.K true ty td) := by
  refine ⟨fun pins s σ H Q I h => ?_⟩
  refine thn (hi.run pins s σ H _ I h) fun iv s1 ⟨y, H1, I1, ry, q1⟩ => thn (ho.run pins s1 σ H1 _ I1 q1) fun u s2 ⟨x, H2, I2, rx, a, ov, ex, g, q2⟩ => ?_
  subst ex
  obtain rfl : u = Value.ref a := rx
  obtain ⟨es, k, b, e, n, ok, ey, hk, g⟩ := g
  subst ey g
  obtain rfl : iv = Value.ref b := ry
  exact n_notIn hu I2 e n ok hk fun s3 I3 => ⟨.bl _, H2, I3, rfl, q2⟩
theorem ps_nput (hu : X.A.units + 10 < cLine) (ho : PE X o td) (hi : PE X i ty) (hv : PE X value tv) (hs : swapsWith value (some (.Subscript o i pos')) pos.line X.env = pure false) :
    PS X (.Assign [.Subscript o i pos'] value pos) (sNPut X.K td ty tv) := by
  refine ⟨fun pins s σ H D I h => ?_⟩
  refine wpAny_Assign_Subscript (thn (hv.run pins s σ H _ I h) fun r s1 ⟨v, H1, I1, rv, q1⟩ => thn (ho.run pins s1 σ H1 _ I1 q1) fun u s2 ⟨x, H2, I2, rx, q2⟩ => thn (hi.run pins s2 σ H2 _ I2 q2) fun iv s3 ⟨y, H3, I3, ry, a, H4, ex, g, q3⟩ => ?_) hs
  subst ex
  obtain rfl : u = Value.ref a := rx
  obtain ⟨es, k, b, e, n, ok, ey, hk, l, eH⟩ := g
  subst ey eH
  obtain rfl : iv = Value.ref b := ry
  exact n_setItem hu I3 e n ok hk l rv fun s4 I4 => ⟨σ, _, I4, q3⟩
/-- len(d) -/
theorem call_len_n : CallR X (.builtin "len") (fun xs H Q => ∃ a es, xs = [.ref a] ∧ H a = some (.ext (DNp a es)) ∧ Nks X.K H es ∧ Q (.int es.length) H) := by
  intro pins s σ H xs us Q I r h
  obtain ⟨a, es, rfl, e, n, q⟩ := h
  obtain ⟨u, rfl, rx⟩ := vals1 r
  obtain rfl : u = Value.ref a := rx
  obtain ⟨z, y, vs, rel, dd⟩ := nd_of I e n
  have hm : s.heap.DictKeyed (nestedKind X.prog X.w) a (pairsH vs) := ⟨vs, dd, rfl⟩
  have hl : (pairsH vs).length = es.length := by rw [pairsH_length, rel.len]
  refine PyProof.Rows.call_len_slot (n := (pairsH vs).length) hm.typeIs PySem.F.slot_dict_len (fun Q' hq => len_keyed y hm hq) (by omega) (by rw [hl]; rw [sizeLine_eq] at z; omega) ?_
  rw [hl]
  exact ⟨.int es.length, H, I.tok _, ⟨_, rfl⟩, q⟩
end
end DE
set_option linter.all false
set_option maxRecDepth 100000
set_option maxHeartbeats 4000000
namespace DE
open PySem PySem.Spec PyProof.Rows L2
section
variable {X : Cx}
/-- the signs of a text -/
def sgV (x : Str) : List V := x.cps.toList.map fun c => V.str ⟨#[c]⟩
/-- list(text) -/
theorem call_list_txt (hc : X.calm = true) : CallR X (.type "list") (fun xs H Q => ∃ x, xs = [.str x] ∧ x.length ≤ sizeLine ∧ ∀ l, H l = none → Q (.ref l) (upd H l (.lst (sgV x)))) := by
  intro pins s σ H xs us Q I r h
  obtain ⟨x, rfl, hz, q⟩ := h
  obtain ⟨u, rfl, rx⟩ := vals1 r
  obtain ⟨t, rfl⟩ := rx
  refine call_list_str (I.ok.hd hc) x t (hn := hz) fun h' tk acc' c' hk e hi => ?_
  refine ⟨.ref s.heap.objs.size, upd H s.heap.objs.size (.lst (sgV x)), I.laid hk (Nat.le_refl _) (show ObjOk X.prog X.w _ _ _ (.lst (sgV x)) from ⟨?_, acc'.toList, c', ?_, ?_⟩), rfl, q _ (I.hok.fresh (Nat.le_refl _))⟩
  · unfold sgV; rw [List.length_map, Array.length_toList]; exact hz
  · have el : acc'.toList.length = acc'.size := by simp
    refine vals_of_at (by unfold sgV; rw [List.length_map, el, hi.1]; simp) fun j y v h1 h2 => ?_
    obtain ⟨c, u, hj, rfl⟩ := hi.2 j v (by rw [← Array.getElem?_toList]; exact h2)
    unfold sgV at h1
    rw [List.getElem?_map, Array.getElem?_toList, hj] at h1
    cases h1
    exact ⟨u, rfl⟩
  · rw [Array.toArray_toList]; exact e
end
section
variable {X : Cx} {k v : Expr} {pos : Pos} {tk tv : TE}
def tDisp1 (K : PySem.W.Frag) (tk tv : TE) : TE := fun σ H Q => ∀ p, H p = none → tk σ (upd H p (.ext (DNp p []))) fun x H1 => tv σ H1 fun y H2 => H2 p = some (.ext (DNp p [])) ∧ ∃ kk b, x = .ref b ∧ kOk kk = true ∧ NkV K H2 kk (.ref b) ∧ Q (.ref p) (upd H2 p (.ext (DNp p [(kk, b, y)])))
/-- {k: v}, k a tuple -/
def kDisp (K : PySem.W.Frag) (p : Addr) (Q : VK) : List (V × V) → Hp → Prop
  | [(x, y)], H2 => H2 p = some (.ext (DNp p [])) ∧ ∃ kk b, x = .ref b ∧ kOk kk = true ∧ NkV K H2 kk (.ref b) ∧ Q (.ref p) (upd H2 p (.ext (DNp p [(kk, b, y)])))
  | _, _ => False
theorem vv1 {K : PySem.W.Frag} {p : Addr} {Q : VK} {H : Hp} : ∀ {ps : List (V × V)} {ws : List (Value × Value)}, VV ps ws → kDisp K p Q ps H → ∃ x y u w, ps = [(x, y)] ∧ ws = [(u, w)] ∧ RelV x u ∧ RelV y w
  | _, _, .nil, h => h.elim
  | _, _, .cons (a := (x, y)) (b := (u, w)) h .nil, _ => ⟨x, y, u, w, rfl, rfl, h.1, h.2⟩
  | _, _, .cons _ (.cons _ _), h => h.elim
theorem pe_disp1 (hu : X.A.units + 10 < cLine) (hk : PE X k tk) (hv : PE X v tv) : PE X (.Dict [some k] [v] pos) (tDisp1 X.K tk tv) := by
  refine ⟨fun pins s σ H Q I q => ?_⟩
  have hn := I.hok.fresh (Nat.le_refl s.heap.objs.size)
  have I1 := I.laid (a := s.heap.objs.size) (o := .ext (DNp s.heap.objs.size [])) (h' := s.heap.push { cls := .type "dict", data := .dict #[] }) (t' := s.toks) (fun _ _ q => Heap.get?_push_of_some _ q) (Nat.le_refl _) (n_empty s.heap I.big)
  rw [arm_eval_Dict, zip_pairTrees [some k] [v] X.env pos rfl rfl, dictDisplay_pairs (pairTrees [some k] [v] X.env pos) (fun z => by cases z) (by show 1 < 17; omega)]
  refine wpAny_bind (wpAny_standAt (wpAny_bind (wpAny_subDictH (knd := nestedKind X.prog X.w) (Q := fun d s' => wpAny (model X.prog X.w) X.A (pure (Value.ref d)) (EP X pins σ Q) X.xe s') (by show X.A.units + 8 < cLine; omega) (by show 1 ≤ 15; omega) ?_)))
  refine thn ((pps_cons hk hv pps_nil).run pins _ σ _ (kDisp X.K s.heap.objs.size Q) I1 (q _ hn)) fun ws s2 ⟨ps, H2, I2, rel, hh⟩ => ?_
  obtain ⟨x, y, u, w, rfl, rfl, h1, h2⟩ := vv1 rel hh
  obtain ⟨e, kk, b, ex, ok, nk, q2⟩ := hh
  subst ex
  obtain rfl : u = Value.ref b := h1
  obtain ⟨z, hd, vs0, r0, dd⟩ := nd_of I2 e (fun _ h => by cases h)
  cases r0
  refine ⟨[(kk, b, w)], ⟨rfl, rfl, ⟨nk.is I2 rfl, kOk_d ok⟩, trivial⟩, dd, fun h' tk dd' hs => wpAny_pure ⟨.ref s.heap.objs.size, _, ?_, rfl, q2⟩⟩
  obtain ⟨qo, ens, ep, hq, hx, h3, h4, hm, h5⟩ := dd'
  have e4 : storedAllH [] [(kk, b, w)] = [(kk, b, w)] := rfl
  rw [e4] at h4 h5
  refine d_write I2 (by rw [e]; exact True.intro) hs ⟨qo, hq⟩ (DNp.obj ⟨by rw [sizeLine_eq]; simp, hd, [(kk, b, w)], .cons ⟨rfl, rfl, h2⟩ .nil, qo, ens, ep, hq, hx, h3, ?_, h5⟩)
  rw [h4]
  unfold entN entryOfKey
  show [DictEntry.mk (kk.hash X.w) _ _] = [DictEntry.mk (hashN kk) _ _]
  rw [hash_N _ _ (kOk_n ok)]
end
end DE
set_option linter.all false
set_option maxRecDepth 100000
set_option maxHeartbeats 4000000
namespace DE
open PySem PySem.Spec PyProof.Rows L2

/-! ### data -/
inductive D where
  | non | bl (b : Bool) | int (i : Int) | str (x : Str) | tup (ds : List D) | lst (ds : List D) | scr (ns : List Int)
  /-- an instance: its class, its attributes' names and kinds, their values -/
  | obj (c : Str) (fs : List (Str × Nat)) (ds : List D)
  /-- a dict with int and text keys; one whose keys are tuples of such -/
  | dK (ks : List Key) (ds : List D) | dT (ks : List NestedKey) (ds : List D)
  deriving Inhabited
mutual
/-- a key as data -/
def kD : NestedKey → D
  | .num i => .int i
  | .tup ks => .tup (kDs ks)
  | .text x => .str x
  | .none => .non
def kDs : List NestedKey → List D
  | [] => []
  | k :: ks => kD k :: kDs ks
end
mutual
/-- data as a key -/
def nkD : D → Option NestedKey
  | .int i => some (.num i)
  | .tup ds => (nkDs ds).map NestedKey.tup
  | _ => none
def nkDs : List D → Option (List NestedKey)
  | [] => some []
  | d :: ds => match nkD d, nkDs ds with
    | some k, some ks => some (k :: ks)
    | _, _ => none
end
mutual
theorem nkD_eq : ∀ {d : D} {k : NestedKey}, nkD d = some k → d = kD k
  | .int i, k, h => by simp only [nkD, Option.some.injEq] at h; subst h; simp only [kD]
  | .tup ds, k, h => by
    simp only [nkD] at h
    obtain ⟨ks, h1, rfl⟩ := Option.map_eq_some_iff.mp h
    rw [nkDs_eq h1]; simp only [kD]
  | .non, _, h => by simp [nkD] at h
  | .bl _, _, h => by simp [nkD] at h
  | .str _, _, h => by simp [nkD] at h
  | .lst _, _, h => by simp [nkD] at h
  | .scr _, _, h => by simp [nkD] at h
  | .obj _ _ _, _, h => by simp [nkD] at h
  | .dK _ _, _, h => by simp [nkD] at h
  | .dT _ _, _, h => by simp [nkD] at h
theorem nkDs_eq : ∀ {ds : List D} {ks : List NestedKey}, nkDs ds = some ks → ds = kDs ks
  | [], ks, h => by simp only [nkDs, Option.some.injEq] at h; subst h; simp only [kDs]
  | d :: ds, ks, h => by
    simp only [nkDs] at h
    cases h1 : nkD d with
    | none => rw [h1] at h; cases h
    | some k => cases h2 : nkDs ds with
      | none => rw [h1, h2] at h; cases h
      | some l =>
        rw [h1, h2] at h
        cases h
        rw [nkD_eq h1, nkDs_eq h2]; simp only [kDs]
end

abbrev M (α : Type) := Option (Except Str α)
def mok {α : Type} (a : α) : M α := some (.ok a)
def mer {α : Type} (c : Str) : M α := some (.error c)
def bnd {α β : Type} (x : M α) (f : α → M β) : M β := match x with
  | some (.ok a) => f a
  | some (.error c) => some (.error c)
  | none => none
def lft {α : Type} (x : Option α) : M α := match x with
  | some a => some (.ok a)
  | none => none
theorem bnd_ok {α β : Type} (a : α) (f : α → M β) : bnd (some (.ok a)) f = f a := rfl
theorem bnd_er {α β : Type} (c : Str) (f : α → M β) : bnd (some (.error c)) f = some (.error c) := rfl
theorem bnd_no {α β : Type} (f : α → M β) : bnd none f = none := rfl

mutual
def D.toP : D → PyData
  | .non => .none
  | .bl b => .bool b
  | .int i => .int i
  | .str x => .str x
  | .tup ds => .tuple (D.toPs ds)
  | .lst ds => .list (D.toPs ds)
  | .scr ns => .list (ns.map PyData.int)
  | .obj _ _ _ => .none
  | .dK _ _ => .none
  | .dT _ _ => .none
def D.toPs : List D → List PyData
  | [] => []
  | d :: ds => d.toP :: D.toPs ds
end
mutual
/-- no instance and no dict within -/
def D.pl : D → Bool
  | .tup ds => D.pls ds
  | .lst ds => D.pls ds
  | .obj _ _ _ => false
  | .dK _ _ => false
  | .dT _ _ => false
  | _ => true
def D.pls : List D → Bool
  | [] => true
  | d :: ds => d.pl && D.pls ds
end
mutual
/-- no list within -/
def D.noL : D → Bool
  | .tup ds => D.noLs ds
  | .lst _ => false
  | .scr _ => false
  | .obj _ _ _ => false
  | .dK _ _ => false
  | .dT _ _ => false
  | _ => true
def D.noLs : List D → Bool
  | [] => true
  | d :: ds => d.noL && D.noLs ds
end

/-- what may be owned and written -/
def Mo : HO → Prop
  | .lst _ => True
  | .ins _ _ _ => True
  | .dK _ => True
  | .dT _ => True
  | .ext _ => True
  | _ => False
/-- the script: locked, or in the written part -/
def ScrR (K : PySem.W.Frag) (H : Hp) (a : Addr) (ns : List Int) : Prop := (∃ o, H a = some (.frz o (.lst (ns.map V.int)))) ∨
    ∃ (o : Obj) (its : Array Value) (n : Nat), K.lookup a = some o ∧ o.cls = .type "list" ∧ o.dict = none ∧ o.data = .seq its n ∧ its.size ≤ sizeLine ∧ Vals (ns.map V.int) its.toList
theorem ScrR.seq {K : PySem.W.Frag} {H : Hp} {a : Addr} {ns : List Int} (h : ScrR K H a ns) : SqL K H a (ns.map V.int) := h.elim (fun ⟨o, h⟩ => .inl (.inr ⟨o, h⟩)) .inr
theorem ScrR.of {K : PySem.W.Frag} {H : Hp} {a : Addr} {ns : List Int} (hO : Only H) (h : SqL K H a (ns.map V.int)) : ScrR K H a ns := by
  rcases h with (h | h) | h
  · rcases hO a with e | ⟨o, xs, e⟩
    · rw [e] at h; cases h
    · rw [e] at h; cases h
  · exact .inl h
  · exact .inr h

mutual
inductive Rp (K : PySem.W.Frag) (O : Addr → Prop) (H : Hp) : V → D → Prop
  | non : Rp K O H .non .non
  | bl (b : Bool) : Rp K O H (.bl b) (.bl b)
  | int (i : Int) : Rp K O H (.int i) (.int i)
  | str (x : Str) : Rp K O H (.str x) (.str x)
  | tup {a : Addr} {xs : List V} {ds : List D} : SqT K H a xs → Rps K O H xs ds → Rp K O H (.ref a) (.tup ds)
  | lst {a : Addr} {xs : List V} {ds : List D} : H a = some (.lst xs) → ¬ O a → Rps K O H xs ds → Rp K O H (.ref a) (.lst ds)
  | scr {a : Addr} {ns : List Int} : ScrR K H a ns → Rp K O H (.ref a) (.scr ns)
  | obj {a dx C : Addr} {c : Str} {fs : List (Str × Nat)} {xs : List V} {ds : List D} : H a = some (.ins C dx ((fs.map (·.1)).zip xs)) → fs.length = xs.length → PySem.W.nsIn K mainGlobals c = some (some (.ref C)) → ¬ O a → Rps K O H xs ds → Rp K O H (.ref a) (.obj c fs ds)
  | dK {a : Addr} {ks : List Key} {xs : List V} {ds : List D} : H a = some (.dK (ks.zip xs)) → ks.length = xs.length → ¬ O a → Rps K O H xs ds → Rp K O H (.ref a) (.dK ks ds)
  | dT {a : Addr} {es : List NE} {ks : List NestedKey} {ds : List D} : H a = some (.ext (DNp a es)) → ks = es.map (·.1) → ks.all kOk = true → ¬ O a → Rps K O H (es.map fun e => V.ref e.2.1) (kDs ks) → Rps K O H (es.map (·.2.2)) ds → Rp K O H (.ref a) (.dT ks ds)
inductive Rps (K : PySem.W.Frag) (O : Addr → Prop) (H : Hp) : List V → List D → Prop
  | nil : Rps K O H [] []
  | cons {v : V} {vs : List V} {d : D} {ds : List D} : Rp K O H v d → Rps K O H vs ds → Rps K O H (v :: vs) (d :: ds)
end

section
variable {K : PySem.W.Frag} {O O' : Addr → Prop} {H H' : Hp}
mutual
theorem Rp.tr (hT : ∀ a xs, SqT K H a xs → SqT K H' a xs) (hL : ∀ a o, H a = some o → Mo o → ¬ O a → H' a = some o ∧ ¬ O' a) (hS : ∀ a ns, ScrR K H a ns → ScrR K H' a ns) : ∀ {v : V} {d : D}, Rp K O H v d → Rp K O' H' v d
  | _, _, .non => .non
  | _, _, .bl b => .bl b
  | _, _, .int i => .int i
  | _, _, .str x => .str x
  | _, _, .tup h r => .tup (hT _ _ h) (Rps.tr hT hL hS r)
  | _, _, .lst h n r => .lst (hL _ _ h trivial n).1 (hL _ _ h trivial n).2 (Rps.tr hT hL hS r)
  | _, _, .obj h l c n r => .obj (hL _ _ h trivial n).1 l c (hL _ _ h trivial n).2 (Rps.tr hT hL hS r)
  | _, _, .dK h l n r => .dK (hL _ _ h trivial n).1 l (hL _ _ h trivial n).2 (Rps.tr hT hL hS r)
  | _, _, .dT h e l n q r => .dT (hL _ _ h trivial n).1 e l (hL _ _ h trivial n).2 (Rps.tr hT hL hS q) (Rps.tr hT hL hS r)
  | _, _, .scr h => .scr (hS _ _ h)
theorem Rps.tr (hT : ∀ a xs, SqT K H a xs → SqT K H' a xs) (hL : ∀ a o, H a = some o → Mo o → ¬ O a → H' a = some o ∧ ¬ O' a) (hS : ∀ a ns, ScrR K H a ns → ScrR K H' a ns) : ∀ {vs : List V} {ds : List D}, Rps K O H vs ds → Rps K O' H' vs ds
  | _, _, .nil => .nil
  | _, _, .cons h r => .cons (Rp.tr hT hL hS h) (Rps.tr hT hL hS r)
end
theorem sqT_same (s : Same H H') {a : Addr} {xs : List V} (h : SqT K H a xs) : SqT K H' a xs := by
  rcases h with (h | ⟨o, h⟩) | h
  · exact .inl (.inl (s _ _ h))
  · exact .inl (.inr ⟨o, s _ _ h⟩)
  · exact .inr h
theorem scr_same (s : Same H H') {a : Addr} {ns : List Int} (h : ScrR K H a ns) : ScrR K H' a ns := by
  rcases h with ⟨o, h⟩ | h
  · exact .inl ⟨o, s _ _ h⟩
  · exact .inr h
theorem Rp.mono (s : Same H H') {v : V} {d : D} (r : Rp K O H v d) : Rp K O H' v d := r.tr (fun _ _ => sqT_same s) (fun _ _ h _ n => ⟨s _ _ h, n⟩) fun _ _ => scr_same s
theorem Rps.mono (s : Same H H') {v : List V} {d : List D} (r : Rps K O H v d) : Rps K O H' v d := r.tr (fun _ _ => sqT_same s) (fun _ _ h _ n => ⟨s _ _ h, n⟩) fun _ _ => scr_same s
theorem Rp.less (s : ∀ a, O' a → O a) {v : V} {d : D} (r : Rp K O H v d) : Rp K O' H v d := r.tr (fun _ _ h => h) (fun _ _ h _ n => ⟨h, fun z => n (s _ z)⟩) fun _ _ h => h
theorem Rps.less (s : ∀ a, O' a → O a) {v : List V} {d : List D} (r : Rps K O H v d) : Rps K O' H v d := r.tr (fun _ _ h => h) (fun _ _ h _ n => ⟨h, fun z => n (s _ z)⟩) fun _ _ h => h
/-- addresses that are new may be owned -/
theorem Rp.more (s : ∀ a, O' a → O a ∨ H a = none) {v : V} {d : D} (r : Rp K O H v d) : Rp K O' H v d := r.tr (fun _ _ h => h) (fun _ _ h _ n => ⟨h, fun z => (s _ z).elim n fun e => by rw [h] at e; cases e⟩) fun _ _ h => h
theorem Rps.more (s : ∀ a, O' a → O a ∨ H a = none) {v : List V} {d : List D} (r : Rps K O H v d) : Rps K O' H v d := r.tr (fun _ _ h => h) (fun _ _ h _ n => ⟨h, fun z => (s _ z).elim n fun e => by rw [h] at e; cases e⟩) fun _ _ h => h
theorem upd_oth {p : Addr} {u : HO} {a : Addr} {o : HO} (h : H a = some o) (n : a ≠ p) : upd H p u a = some o := by rw [upd_ne n]; exact h
theorem mo_tup {xs : List V} : ¬ Mo (.tup xs) := id
theorem mo_frz {o : Obj} {u : HO} : ¬ Mo (.frz o u) := id
theorem ne_mo {a p : Addr} {o u : HO} (h : H a = some o) (n : ¬ Mo o) (hp : H p = some u) (m : Mo u) : a ≠ p := by
  intro e
  subst e
  rw [h] at hp
  cases hp
  exact n m
/-- an owned object is written -/
theorem Rp.wrM {p : Addr} {o u : HO} (hp : H p = some o) (m : Mo o) (ho : O p) {v : V} {d : D} (r : Rp K O H v d) : Rp K O (upd H p u) v d := by
  refine r.tr (fun a zs h => ?_) (fun a zs h _ n => ⟨upd_oth h fun z => n (z ▸ ho), n⟩) fun a ns h => ?_
  · rcases h with (h | ⟨o, h⟩) | h
    · exact .inl (.inl (upd_oth h (ne_mo h mo_tup hp m)))
    · exact .inl (.inr ⟨o, upd_oth h (ne_mo h mo_frz hp m)⟩)
    · exact .inr h
  · rcases h with ⟨o, h⟩ | h
    · exact .inl ⟨o, upd_oth h (ne_mo h mo_frz hp m)⟩
    · exact .inr h
theorem Rps.wrM {p : Addr} {o u : HO} (hp : H p = some o) (m : Mo o) (ho : O p) : ∀ {vs : List V} {ds : List D}, Rps K O H vs ds → Rps K O (upd H p u) vs ds
  | _, _, .nil => .nil
  | _, _, .cons h r => .cons (h.wrM hp m ho) (Rps.wrM hp m ho r)
/-- an owned list is written -/
theorem Rp.wr {p : Addr} {xs ys : List V} (hp : H p = some (.lst xs)) (ho : O p) {v : V} {d : D} (r : Rp K O H v d) : Rp K O (upd H p (.lst ys)) v d := r.wrM hp trivial ho
theorem Rps.wr {p : Addr} {xs ys : List V} (hp : H p = some (.lst xs)) (ho : O p) : ∀ {vs : List V} {ds : List D}, Rps K O H vs ds → Rps K O (upd H p (.lst ys)) vs ds
  | _, _, .nil => .nil
  | _, _, .cons h r => .cons (h.wr hp ho) (Rps.wr hp ho r)
theorem same_new {p : Addr} (h : H p = none) (o : HO) : Same H (upd H p o) := fun b u q => by rw [upd_ne (ne_of_none q h)]; exact q

theorem Rps.length : ∀ {vs : List V} {ds : List D}, Rps K O H vs ds → vs.length = ds.length
  | _, _, .nil => rfl
  | _, _, .cons _ r => congrArg Nat.succ r.length
theorem Rps.append : ∀ {vs ws : List V} {ds es : List D}, Rps K O H vs ds → Rps K O H ws es → Rps K O H (vs ++ ws) (ds ++ es)
  | _, _, _, _, .nil, s => s
  | _, _, _, _, .cons h r, s => .cons h (Rps.append r s)
theorem Rps.get : ∀ {vs : List V} {ds : List D} {i : Nat} {d : D}, Rps K O H vs ds → ds[i]? = some d → ∃ v, vs[i]? = some v ∧ Rp K O H v d
  | _, _, _, _, .nil, e => by simp at e
  | _, _, 0, _, .cons h _, e => by simp at e; subst e; exact ⟨_, rfl, h⟩
  | _, _, i + 1, _, .cons _ r, e => by
    obtain ⟨v, h1, h2⟩ := Rps.get (i := i) r (by simpa using e)
    exact ⟨v, by simpa using h1, h2⟩
theorem Rps.getV : ∀ {vs : List V} {ds : List D} {i : Nat} {v : V}, Rps K O H vs ds → vs[i]? = some v → ∃ d, ds[i]? = some d ∧ Rp K O H v d
  | _, _, _, _, .nil, e => by simp at e
  | _, _, 0, _, .cons h _, e => by simp at e; subst e; exact ⟨_, rfl, h⟩
  | _, _, i + 1, _, .cons _ r, e => by
    obtain ⟨v, h1, h2⟩ := Rps.getV (i := i) r (by simpa using e)
    exact ⟨v, by simpa using h1, h2⟩
theorem Rps.drop : ∀ {vs : List V} {ds : List D} (n : Nat), Rps K O H vs ds → Rps K O H (vs.drop n) (ds.drop n)
  | _, _, 0, r => r
  | _, _, _ + 1, .nil => .nil
  | _, _, n + 1, .cons _ r => Rps.drop n r
theorem Rps.take : ∀ {vs : List V} {ds : List D} (n : Nat), Rps K O H vs ds → Rps K O H (vs.take n) (ds.take n)
  | _, _, 0, _ => .nil
  | _, _, _ + 1, .nil => .nil
  | _, _, n + 1, .cons h r => .cons h (Rps.take n r)
theorem Rps.set : ∀ {vs : List V} {ds : List D} (i : Nat) {v : V} {d : D}, Rps K O H vs ds → Rp K O H v d → Rps K O H (vs.set i v) (ds.set i d)
  | _, _, _, _, _, .nil, _ => .nil
  | _, _, 0, _, _, .cons _ r, h => .cons h r
  | _, _, i + 1, _, _, .cons q r, h => .cons q (Rps.set i r h)
theorem Rps.rev : ∀ {vs : List V} {ds : List D}, Rps K O H vs ds → Rps K O H vs.reverse ds.reverse
  | _, _, .nil => .nil
  | _, _, .cons h r => by
    rw [List.reverse_cons, List.reverse_cons]
    exact (Rps.rev r).append (.cons h .nil)
theorem Rps.ints : ∀ {vs : List V} {ns : List Int}, Rps K O H vs (ns.map D.int) → vs = ns.map V.int
  | [], [], _ => rfl
  | _ :: _, _ :: _, .cons h r => by cases h; rw [Rps.ints r]; rfl
  | _ :: _, [], h => by cases h
  | [], _ :: _, h => by cases h
theorem Rps.of_ints : ∀ (ns : List Int), Rps K O H (ns.map V.int) (ns.map D.int)
  | [] => .nil
  | n :: ns => .cons (.int n) (Rps.of_ints ns)
theorem Rps.rep : ∀ {vs : List V} {ds : List D} (k : Nat), Rps K O H vs ds → Rps K O H (List.replicate k vs).flatten (List.replicate k ds).flatten
  | _, _, 0, _ => .nil
  | _, _, k + 1, r => by
    rw [List.replicate_succ, List.replicate_succ, List.flatten_cons, List.flatten_cons]
    exact r.append (Rps.rep k r)
end
mutual
/-- key data are keys -/
theorem Rp.nk {K : PySem.W.Frag} {O : Addr → Prop} {H : Hp} : ∀ {k : NestedKey} {v : V}, nOk k = true → Rp K O H v (kD k) → NkV K H k v
  | .num i, _, _, r => by simp only [kD] at r; cases r; exact .num i
  | .tup ks, _, h, r => by
    simp only [kD] at r
    simp only [nOk] at h
    cases r with | tup q s => exact .tup q (Rps.nks h s)
  | .none, _, h, _ => by simp [nOk] at h
  | .text _, _, h, _ => by simp [nOk] at h
theorem Rps.nks {K : PySem.W.Frag} {O : Addr → Prop} {H : Hp} : ∀ {ks : List NestedKey} {vs : List V}, nOks ks = true → Rps K O H vs (kDs ks) → NkVs K H ks vs
  | [], _, _, r => by simp only [kDs] at r; cases r; exact .nil
  | k :: ks, _, h, r => by
    simp only [kDs] at r
    simp only [nOks, Bool.and_eq_true] at h
    cases r with | cons a b => exact .cons (Rp.nk h.1 a) (Rps.nks h.2 b)
end
mutual
theorem kD_noL : ∀ {k : NestedKey}, nOk k = true → (kD k).noL = true
  | .num i, _ => by simp only [kD, D.noL]
  | .tup ks, h => by simp only [nOk] at h; simp only [kD, D.noL, kDs_noL h]
  | .none, h => by simp [nOk] at h
  | .text _, h => by simp [nOk] at h
theorem kDs_noL : ∀ {ks : List NestedKey}, nOks ks = true → D.noLs (kDs ks) = true
  | [], _ => by simp only [kDs, D.noLs]
  | k :: ks, h => by
    simp only [nOks, Bool.and_eq_true] at h
    simp only [kDs, D.noLs, kD_noL h.1, kDs_noL h.2, Bool.and_self]
end
theorem nks_of {K : PySem.W.Frag} {O : Addr → Prop} {H : Hp} : ∀ {es : List NE}, (es.map (·.1)).all kOk = true → Rps K O H (es.map fun e => V.ref e.2.1) (kDs (es.map (·.1))) → Nks K H es
  | [], _, _ => fun _ h => by cases h
  | e :: es, h, r => by
    simp only [List.map_cons, kDs] at r
    simp only [List.map_cons, List.all_cons, Bool.and_eq_true] at h
    cases r with | cons a b =>
      exact fun x hx => (List.mem_cons.mp hx).elim (fun z => z ▸ ⟨h.1, Rp.nk (kOk_n h.1) a⟩) (nks_of h.2 b x)
mutual
theorem Rp.noL {K : PySem.W.Frag} {O O' : Addr → Prop} {H : Hp} : ∀ {d : D} {v : V}, d.noL = true → Rp K O H v d → Rp K O' H v d
  | .non, _, _, .non => .non
  | .bl _, _, _, .bl b => .bl b
  | .int _, _, _, .int i => .int i
  | .str _, _, _, .str x => .str x
  | .tup ds, _, h, .tup q r => .tup q (Rps.noL (ds := ds) (by simpa [D.noL] using h) r)
theorem Rps.noL {K : PySem.W.Frag} {O O' : Addr → Prop} {H : Hp} : ∀ {ds : List D} {vs : List V}, D.noLs ds = true → Rps K O H vs ds → Rps K O' H vs ds
  | [], _, _, .nil => .nil
  | d :: ds, _, h, .cons q r => by
    simp only [D.noLs, Bool.and_eq_true] at h
    exact .cons (Rp.noL (d := d) h.1 q) (Rps.noL (ds := ds) h.2 r)
end
mutual
theorem Rp.dp {K : PySem.W.Frag} {O : Addr → Prop} {H : Hp} : ∀ {d : D} {v : V}, d.pl = true → Rp K O H v d → Dp K H v d.toP
  | .obj _ _ _, _, h, _ => by simp [D.pl] at h
  | .dK _ _, _, h, _ => by simp [D.pl] at h
  | .dT _ _, _, h, _ => by simp [D.pl] at h
  | .non, _, _, .non => by simp only [D.toP]; exact .non
  | .bl _, _, _, .bl b => by simp only [D.toP]; exact .bl b
  | .int _, _, _, .int i => by simp only [D.toP]; exact .int i
  | .str _, _, _, .str x => by simp only [D.toP]; exact .str x
  | .tup ds, _, h, .tup q r => by simp only [D.toP]; exact .tup q (Rps.dps (ds := ds) (by simpa [D.pl] using h) r)
  | .lst ds, _, h, .lst q _ r => by simp only [D.toP]; exact .lst (SqL.of q) (Rps.dps (ds := ds) (by simpa [D.pl] using h) r)
  | .scr ns, _, hpl, .scr q => by
    simp only [D.toP]
    refine .lst q.seq ?_
    clear q hpl
    induction ns with
    | nil => exact .nil
    | cons n ns ih => exact .cons (.int n) ih
theorem Rps.dps {K : PySem.W.Frag} {O : Addr → Prop} {H : Hp} : ∀ {ds : List D} {vs : List V}, D.pls ds = true → Rps K O H vs ds → DpAll K H vs (D.toPs ds)
  | [], _, _, .nil => by simp only [D.toPs]; exact .nil
  | d :: ds, _, h, .cons q r => by
    simp only [D.pls, Bool.and_eq_true] at h
    simp only [D.toPs]; exact .cons (Rp.dp (d := d) h.1 q) (Rps.dps (ds := ds) h.2 r)
end
end DE
set_option linter.all false
set_option maxRecDepth 100000
set_option maxHeartbeats 4000000
namespace DE
open PySem PySem.Spec PyProof.Rows L2

/-! ### what is owned: lists, dicts, instances -/
mutual
inductive Ow (K : PySem.W.Frag) (OO P : Addr → Prop) (H : Hp) : Nat → V → D → List Addr → Prop
  | fz {v : V} {d : D} : Rp K OO H v d → Ow K OO P H 0 v d []
  | ls {n : Nat} {a : Addr} {xs : List V} {ds : List D} {fp : List Addr} : H a = some (.lst xs) → P a → Ows K OO P H n xs ds fp → Ow K OO P H (n + 1) (.ref a) (.lst ds) (a :: fp)
  | ob {n : Nat} {a dx C : Addr} {c : Str} {fs : List (Str × Nat)} {xs : List V} {ds : List D} {fp : List Addr} : H a = some (.ins C dx ((fs.map (·.1)).zip xs)) → fs.length = xs.length → PySem.W.nsIn K mainGlobals c = some (some (.ref C)) → P a → Owf K OO P H (fs.map (·.2)) xs ds fp → Ow K OO P H (n + 1) (.ref a) (.obj c fs ds) (a :: fp)
  | dk {n : Nat} {a : Addr} {ks : List Key} {xs : List V} {ds : List D} {fp : List Addr} : H a = some (.dK (ks.zip xs)) → ks.length = xs.length → P a → Ows K OO P H n xs ds fp → Ow K OO P H (n + 1) (.ref a) (.dK ks ds) (a :: fp)
  | dt {n : Nat} {a : Addr} {es : List NE} {ks : List NestedKey} {ds : List D} {fp : List Addr} : H a = some (.ext (DNp a es)) → ks = es.map (·.1) → ks.all kOk = true → P a → Rps K OO H (es.map fun e => V.ref e.2.1) (kDs ks) → Ows K OO P H n (es.map (·.2.2)) ds fp → Ow K OO P H (n + 1) (.ref a) (.dT ks ds) (a :: fp)
inductive Ows (K : PySem.W.Frag) (OO P : Addr → Prop) (H : Hp) : Nat → List V → List D → List Addr → Prop
  | nil {n : Nat} : Ows K OO P H n [] [] []
  | cons {n : Nat} {v : V} {vs : List V} {d : D} {ds : List D} {fp fps : List Addr} : Ow K OO P H n v d fp → Ows K OO P H n vs ds fps → Ows K OO P H n (v :: vs) (d :: ds) (fp ++ fps)
inductive Owf (K : PySem.W.Frag) (OO P : Addr → Prop) (H : Hp) : List Nat → List V → List D → List Addr → Prop
  | nil : Owf K OO P H [] [] [] []
  | cons {n : Nat} {ns : List Nat} {v : V} {vs : List V} {d : D} {ds : List D} {fp fps : List Addr} : Ow K OO P H n v d fp → Owf K OO P H ns vs ds fps → Owf K OO P H (n :: ns) (v :: vs) (d :: ds) (fp ++ fps)
end
section
variable {K : PySem.W.Frag} {OO OO' P P' O : Addr → Prop} {H H' : Hp}
theorem Rps.mapR (hr : ∀ v d, Rp K OO H v d → Rp K OO' H' v d) : ∀ {vs : List V} {ds : List D}, Rps K OO H vs ds → Rps K OO' H' vs ds
  | _, _, .nil => .nil
  | _, _, .cons h r => .cons (hr _ _ h) (Rps.mapR hr r)
mutual
theorem Ow.tr (hr : ∀ v d, Rp K OO H v d → Rp K OO' H' v d) : ∀ {n : Nat} {v : V} {d : D} {fp : List Addr}, Ow K OO P H n v d fp → (∀ a ∈ fp, (P a → P' a) ∧ ∀ o, H a = some o → H' a = some o) → Ow K OO' P' H' n v d fp
  | _, _, _, _, .fz r, _ => .fz (hr _ _ r)
  | _, _, _, _, .ls h p r, k => .ls ((k _ List.mem_cons_self).2 _ h) ((k _ List.mem_cons_self).1 p) (Ows.tr hr r fun a ha => k a (List.mem_cons_of_mem _ ha))
  | _, _, _, _, .ob h l c p r, k => .ob ((k _ List.mem_cons_self).2 _ h) l c ((k _ List.mem_cons_self).1 p) (Owf.tr hr r fun a ha => k a (List.mem_cons_of_mem _ ha))
  | _, _, _, _, .dk h l p r, k => .dk ((k _ List.mem_cons_self).2 _ h) l ((k _ List.mem_cons_self).1 p) (Ows.tr hr r fun a ha => k a (List.mem_cons_of_mem _ ha))
  | _, _, _, _, .dt h e l p q r, k => .dt ((k _ List.mem_cons_self).2 _ h) e l ((k _ List.mem_cons_self).1 p) (Rps.mapR hr q) (Ows.tr hr r fun a ha => k a (List.mem_cons_of_mem _ ha))
theorem Ows.tr (hr : ∀ v d, Rp K OO H v d → Rp K OO' H' v d) : ∀ {n : Nat} {v : List V} {d : List D} {fp : List Addr}, Ows K OO P H n v d fp → (∀ a ∈ fp, (P a → P' a) ∧ ∀ o, H a = some o → H' a = some o) → Ows K OO' P' H' n v d fp
  | _, _, _, _, .nil, _ => .nil
  | _, _, _, _, .cons h r, k => .cons (Ow.tr hr h fun a ha => k a (List.mem_append_left _ ha)) (Ows.tr hr r fun a ha => k a (List.mem_append_right _ ha))
theorem Owf.tr (hr : ∀ v d, Rp K OO H v d → Rp K OO' H' v d) : ∀ {n : List Nat} {v : List V} {d : List D} {fp : List Addr}, Owf K OO P H n v d fp → (∀ a ∈ fp, (P a → P' a) ∧ ∀ o, H a = some o → H' a = some o) → Owf K OO' P' H' n v d fp
  | _, _, _, _, .nil, _ => .nil
  | _, _, _, _, .cons h r, k => .cons (Ow.tr hr h fun a ha => k a (List.mem_append_left _ ha)) (Owf.tr hr r fun a ha => k a (List.mem_append_right _ ha))
end
/-- there, and of a kind that may be written -/
def Mok (H : Hp) (a : Addr) : Prop := ∃ o, H a = some o ∧ Mo o
theorem Mok.of {a : Addr} {o : HO} (h : H a = some o) (m : Mo o) : Mok H a := ⟨o, h, m⟩
theorem Mok.same (s : Same H H') {a : Addr} (h : Mok H a) : Mok H' a := let ⟨o, e, m⟩ := h; ⟨o, s _ _ e, m⟩
mutual
theorem Ow.inP : ∀ {n : Nat} {v : V} {d : D} {fp : List Addr}, Ow K OO P H n v d fp → ∀ a ∈ fp, P a ∧ Mok H a
  | _, _, _, _, .fz _, _, h => by cases h
  | _, _, _, _, .ls h p r, a, ha => (List.mem_cons.mp ha).elim (fun e => e ▸ ⟨p, _, h, trivial⟩) (Ows.inP r a)
  | _, _, _, _, .ob h l c p r, a, ha => (List.mem_cons.mp ha).elim (fun e => e ▸ ⟨p, _, h, trivial⟩) (Owf.inP r a)
  | _, _, _, _, .dk h l p r, a, ha => (List.mem_cons.mp ha).elim (fun e => e ▸ ⟨p, _, h, trivial⟩) (Ows.inP r a)
  | _, _, _, _, .dt h _ _ p _ r, a, ha => (List.mem_cons.mp ha).elim (fun e => e ▸ ⟨p, _, h, trivial⟩) (Ows.inP r a)
theorem Ows.inP : ∀ {n : Nat} {v : List V} {d : List D} {fp : List Addr}, Ows K OO P H n v d fp → ∀ a ∈ fp, P a ∧ Mok H a
  | _, _, _, _, .nil, _, h => by cases h
  | _, _, _, _, .cons h r, a, ha => (List.mem_append.mp ha).elim (Ow.inP h a) (Ows.inP r a)
theorem Owf.inP : ∀ {n : List Nat} {v : List V} {d : List D} {fp : List Addr}, Owf K OO P H n v d fp → ∀ a ∈ fp, P a ∧ Mok H a
  | _, _, _, _, .nil, _, h => by cases h
  | _, _, _, _, .cons h r, a, ha => (List.mem_append.mp ha).elim (Ow.inP h a) (Owf.inP r a)
end
mutual
/-- read only: what is owned is what it is -/
theorem Ow.rp (h1 : ∀ a, O a → OO a) : ∀ {n : Nat} {v : V} {d : D} {fp : List Addr}, Ow K OO P H n v d fp → (∀ a ∈ fp, ¬ O a) → Rp K O H v d
  | _, _, _, _, .fz r, _ => r.less h1
  | _, _, _, _, .ls h p r, k => .lst h (k _ List.mem_cons_self) (Ows.rps h1 r fun a ha => k a (List.mem_cons_of_mem _ ha))
  | _, _, _, _, .ob h l c p r, k => .obj h l c (k _ List.mem_cons_self) (Owf.rps h1 r fun a ha => k a (List.mem_cons_of_mem _ ha))
  | _, _, _, _, .dk h l p r, k => .dK h l (k _ List.mem_cons_self) (Ows.rps h1 r fun a ha => k a (List.mem_cons_of_mem _ ha))
  | _, _, _, _, .dt h e l p q r, k => .dT h e l (k _ List.mem_cons_self) (q.less h1) (Ows.rps h1 r fun a ha => k a (List.mem_cons_of_mem _ ha))
theorem Ows.rps (h1 : ∀ a, O a → OO a) : ∀ {n : Nat} {v : List V} {d : List D} {fp : List Addr}, Ows K OO P H n v d fp → (∀ a ∈ fp, ¬ O a) → Rps K O H v d
  | _, _, _, _, .nil, _ => .nil
  | _, _, _, _, .cons h r, k => .cons (Ow.rp h1 h fun a ha => k a (List.mem_append_left _ ha)) (Ows.rps h1 r fun a ha => k a (List.mem_append_right _ ha))
theorem Owf.rps (h1 : ∀ a, O a → OO a) : ∀ {n : List Nat} {v : List V} {d : List D} {fp : List Addr}, Owf K OO P H n v d fp → (∀ a ∈ fp, ¬ O a) → Rps K O H v d
  | _, _, _, _, .nil, _ => .nil
  | _, _, _, _, .cons h r, k => .cons (Ow.rp h1 h fun a ha => k a (List.mem_append_left _ ha)) (Owf.rps h1 r fun a ha => k a (List.mem_append_right _ ha))
end
theorem Ows.append : ∀ {n : Nat} {v w : List V} {d e : List D} {fp fq : List Addr}, Ows K OO P H n v d fp → Ows K OO P H n w e fq → Ows K OO P H n (v ++ w) (d ++ e) (fp ++ fq)
  | _, _, _, _, _, _, _, .nil, r => r
  | _, _, _, _, _, _, _, .cons h r, s => by
    rw [List.append_assoc]
    exact .cons h (Ows.append r s)
theorem Ows.of0 : ∀ {v : List V} {d : List D}, Rps K OO H v d → Ows K OO P H 0 v d []
  | _, _, .nil => .nil
  | _, _, .cons h r => .cons (.fz h) (Ows.of0 r)
theorem Ows.to0 : ∀ {v : List V} {d : List D} {fp : List Addr}, Ows K OO P H 0 v d fp → Rps K OO H v d
  | _, _, _, .nil => .nil
  | _, _, _, .cons (.fz h) r => .cons h (Ows.to0 r)
theorem Ows.fp0 : ∀ {vs : List V} {ds : List D} {fp : List Addr}, Ows K OO P H 0 vs ds fp → fp = []
  | _, _, _, .nil => rfl
  | _, _, _, .cons (.fz _) r => by rw [Ows.fp0 r]; rfl
theorem Owf.len : ∀ {ns : List Nat} {vs : List V} {ds : List D} {fp : List Addr}, Owf K OO P H ns vs ds fp → vs.length = ns.length ∧ ds.length = ns.length
  | _, _, _, _, .nil => ⟨rfl, rfl⟩
  | _, _, _, _, .cons _ r => ⟨congrArg Nat.succ r.len.1, congrArg Nat.succ r.len.2⟩
/-- one of the attributes, and another in its place -/
theorem Owf.at : ∀ {ns : List Nat} {vs : List V} {ds : List D} {fp : List Addr} (j : Nat) {n : Nat} {d : D}, Owf K OO P H ns vs ds fp → fp.Nodup → ns[j]? = some n → ds[j]? = some d →
    ∃ v fp1, vs[j]? = some v ∧ Ow K OO P H n v d fp1 ∧ fp1.Nodup ∧ (∀ a ∈ fp1, a ∈ fp) ∧ ∀ (OO' P' : Addr → Prop) (H' : Hp) (v' : V) (n' : Nat) (e : D) (fq : List Addr), (∀ v d, Rp K OO H v d → Rp K OO' H' v d) → (∀ a ∈ fp, a ∉ fp1 → (P a → P' a) ∧ ∀ o, H a = some o → H' a = some o) → Ow K OO' P' H' n' v' e fq → fq.Nodup → (∀ a ∈ fq, a ∈ fp1 ∨ a ∉ fp) →
      ∃ fp', Owf K OO' P' H' (ns.set j n') (vs.set j v') (ds.set j e) fp' ∧ fp'.Nodup ∧ (∀ a ∈ fp', a ∈ fp ∨ a ∈ fq) ∧ ∀ a ∈ fp', a ∈ fq ∨ a ∉ fp1
  | _, _, _, _, _, _, _, .nil, _, e, _ => by simp at e
  | _, _, _, _, 0, _, _, @Owf.cons _ _ _ _ n ns v vs d ds fp1 fps h r, nd, e1, e2 => by
    simp only [List.getElem?_cons_zero, Option.some.injEq] at e1 e2
    subst e1; subst e2
    have n2 := List.nodup_append.mp nd
    refine ⟨v, fp1, rfl, h, n2.1, fun a ha => List.mem_append_left _ ha, fun OO' P' H' v' n' e fq hr k ho nq ap => ⟨fq ++ fps, .cons ho (r.tr hr fun a ha => k a (List.mem_append_right _ ha) fun z => n2.2.2 a z a ha rfl), List.nodup_append.mpr ⟨nq, n2.2.1, fun a ha b hb e => ?_⟩, fun a ha => (List.mem_append.mp ha).elim .inr fun z => .inl (List.mem_append_right _ z), fun a ha => (List.mem_append.mp ha).elim .inl fun z => .inr fun y => n2.2.2 a y a z rfl⟩⟩
    subst e
    rcases ap a ha with z | z
    · exact n2.2.2 a z a hb rfl
    · exact z (List.mem_append_right _ hb)
  | _, _, _, _, j + 1, _, _, @Owf.cons _ _ _ _ n ns v vs d ds fp2 fps h r, nd, e1, e2 => by
    have n2 := List.nodup_append.mp nd
    obtain ⟨v, fp1, h1, h2, h3, h4, h5⟩ := Owf.at j r n2.2.1 (by simpa using e1) (by simpa using e2)
    refine ⟨v, fp1, by simpa using h1, h2, h3, fun a ha => List.mem_append_right _ (h4 a ha), fun OO' P' H' v' n' e fq hr k ho nq ap => ?_⟩
    obtain ⟨fp', g1, g2, g3, g4⟩ := h5 OO' P' H' v' n' e fq hr (fun a ha => k a (List.mem_append_right _ ha)) ho nq fun a ha => (ap a ha).elim .inl fun z => .inr fun y => z (List.mem_append_right _ y)
    have dis : ∀ a ∈ fp2, a ∉ fp1 := fun a ha z => n2.2.2 a ha a (h4 a z) rfl
    refine ⟨fp2 ++ fp', .cons (h.tr hr fun a ha => k a (List.mem_append_left _ ha) (dis a ha)) g1, List.nodup_append.mpr ⟨n2.1, g2, fun a ha b hb e => ?_⟩, fun a ha => (List.mem_append.mp ha).elim (fun z => .inl (List.mem_append_left _ z)) fun z => (g3 a z).elim (fun z => .inl (List.mem_append_right _ z)) .inr, fun a ha => (List.mem_append.mp ha).elim (fun z => .inr (dis a z)) (g4 a)⟩
    subst e
    rcases g3 a hb with z | z
    · exact n2.2.2 a ha a z rfl
    · rcases ap a z with y | y
      · exact dis a ha y
      · exact y (List.mem_append_left _ ha)
/-- one more attribute -/
theorem Owf.snoc : ∀ {ns : List Nat} {vs : List V} {ds : List D} {fp : List Addr} {n : Nat} {v : V} {d : D} {fq : List Addr}, Owf K OO P H ns vs ds fp → Ow K OO P H n v d fq → Owf K OO P H (ns ++ [n]) (vs ++ [v]) (ds ++ [d]) (fp ++ fq)
  | _, _, _, _, _, _, _, _, .nil, h => by
    have := Owf.cons h .nil
    rwa [List.append_nil] at this
  | _, _, _, _, _, _, _, _, .cons g r, h => by
    rw [List.append_assoc]
    exact .cons g (Owf.snoc r h)
end
/-- what changes but for B stays; what is in B is still there -/
structure Ent where
  H : Hp
  B : Addr → Prop
  pin : Option Addr
def SameB (E : Ent) (H : Hp) : Prop := ∀ a o, E.H a = some o → (¬ E.B a → H a = some o) ∧ (E.B a → Mok H a)
section
variable {E : Ent} {H H' : Hp}
theorem SameB.trans (s : SameB E H) (t : Same H H') : SameB E H' := fun a o e => ⟨fun n => t _ _ ((s a o e).1 n), fun b => (((s a o e).2 b)).same t⟩
theorem SameB.free (s : SameB E H) {a : Addr} (h : H a = none) : E.H a = none := by
  cases e : E.H a with
  | none => rfl
  | some o =>
    by_cases b : E.B a
    · obtain ⟨u, q, _⟩ := (s a o e).2 b
      rw [h] at q; cases q
    · have := (s a o e).1 b
      rw [h] at this; cases this
theorem SameB.self (hB : ∀ a, E.B a → Mok E.H a) : SameB E E.H := fun a o e => ⟨fun _ => e, hB a⟩
/-- no more is borrowed -/
theorem SameB.same (s : SameB ⟨H, fun _ => False, none⟩ H') : Same H H' := fun a o e => (s a o e).1 id
theorem Same.toB (s : Same H H') : SameB ⟨H, fun _ => False, none⟩ H' := fun a o e => ⟨fun _ => s _ _ e, False.elim⟩
end
end DE
set_option Elab.async false
set_option linter.all false
set_option maxRecDepth 100000
set_option maxHeartbeats 4000000
namespace DE
open PySem PySem.Spec PyProof.Rows L2
/-! tuple * int for 1 and less -/
theorem tuple_mulW0 (l : Addr) (items : Array Value) (n : Nat) (dd : Option Addr) (sl : Array (Option Value)) (x : Int) (u : Tok) (c0 : (decide (x < -(2 ^ 63)) || decide (x ≥ 2 ^ 63)) = false) (c1 : (items.isEmpty || x == 1) = false) (c2 : (decide (x ≤ 0) || items.isEmpty) = true) :
    Meets (Builtin.«tuple.__mul__» ⟨[.ref l, .int x u], []⟩) (fun _ R s => s.heap.get? l = some { cls := .type "tuple", dict := dd, data := .seq items n, slots := sl } ∧
      R (.ok (.ret (Value.ref s.heap.objs.size))) { s with heap := s.heap.push { cls := Value.type "tuple", data := Data.seq #[] }, toks := s.toks }) :=
  .of_wp fun prog w A R s h => by
    obtain ⟨hp, g, d, tk, os⟩ := s
    obtain ⟨hl, h⟩ := h
    have f1 := AutoSeq1.idx_int
    wp_walk using wpAny_loadPart' hl
    repeat (first
      | (refine wpAny_ite_false (decide_eq_false (by rw [c0]; exact Bool.false_ne_true)) ?_; wp_walk using wpAny_loadPart' hl)
      | (refine wpAny_ite_false (decide_eq_false (by rw [c1]; exact Bool.false_ne_true)) ?_; wp_walk using wpAny_loadPart' hl)
      | (refine wpAny_ite_true (decide_eq_true c2) ?_; wp_walk using wpAny_loadPart' hl))
    exact ⟨_, rfl, h⟩
theorem tuple_mulW1 (l : Addr) (items : Array Value) (n : Nat) (dd : Option Addr) (sl : Array (Option Value)) (x : Int) (u : Tok) (c0 : (decide (x < -(2 ^ 63)) || decide (x ≥ 2 ^ 63)) = false) (c1 : (items.isEmpty || x == 1) = true) :
    Meets (Builtin.«tuple.__mul__» ⟨[.ref l, .int x u], []⟩) (fun _ R s => s.heap.get? l = some { cls := .type "tuple", dict := dd, data := .seq items n, slots := sl } ∧
      R (.ok (.ret (Value.ref l))) s) :=
  .of_wp fun prog w A R s h => by
    obtain ⟨hp, g, d, tk, os⟩ := s
    obtain ⟨hl, h⟩ := h
    have f1 := AutoSeq1.idx_int
    wp_walk using wpAny_loadPart' hl
    repeat (first
      | (refine wpAny_ite_false (decide_eq_false (by rw [c0]; exact Bool.false_ne_true)) ?_; wp_walk using wpAny_loadPart' hl)
      | (refine wpAny_ite_true (decide_eq_true c1) ?_; wp_walk using wpAny_loadPart' hl))
    exact ⟨_, rfl, h⟩
def rRepS (K : PySem.W.Frag) : R2 := fun x y H Q => ∃ l k xs, x = .ref l ∧ y = .int k ∧ SqT K H l xs ∧ xs ≠ [] ∧ ((k = 1 ∧ Q (.ref l) H) ∨ (-(2 ^ 63) ≤ k ∧ k ≤ 0 ∧ ∀ p, H p = none → Q (.ref p) (upd H p (.tup []))))
section
variable {X : Cx}
theorem op_repS : OpR X (binaryOp .Mult) (rRepS X.K) := by
  intro pins s σ H x y v u Q I rx ry h
  obtain ⟨l, k, xs, rfl, rfl, hT, hne, h⟩ := h
  cases rx
  obtain ⟨t, rfl⟩ := ry
  obtain ⟨its, r, ⟨⟨cls, dd, data, sl⟩, ho, hc, n, hd⟩, hs⟩ := I.tuple hT
  simp only at hc hd
  subst hc hd
  have hle : its.length = xs.length := r.length.symm
  have hn : its ≠ [] := fun e => hne (by
    rw [e] at hle
    exact List.eq_nil_of_length_eq_zero hle.symm)
  have hi : its.toArray.isEmpty = false := by
    cases its with
    | nil => exact absurd rfl hn
    | cons a b => rfl
  rcases h with ⟨rfl, q⟩ | ⟨h1, h2, q⟩
  · refine wpAny_binaryOp_repeat_ref (T := "tuple") (U := "int") (by decide) ⟨_, ho, rfl⟩ (fun s' => typeIs_int s' 1 t) noFill_tuple_mul F.fills_int_mul F.slot_int_rmul repeat_tuple F.slot_int_index.lookup
      (call_meets F.slot_int_rmul (typeIs_int s 1 t) F.entry_int_rmul (F.args_int_rmul_2 _ _) (int_rmul_tuple 1 t l its.toArray n dd sl)
        ⟨ho, rfl, ⟨_, ho, rfl⟩, call_meets F.slot_tuple_mul ⟨_, ho, rfl⟩ F.entry_tuple_mul (F.args_tuple_mul_2 _ _) (tuple_mulW1 l its.toArray n dd sl 1 t (by decide) (by rw [hi]; rfl)) ⟨ho, ?_⟩⟩)
    exact ⟨.ref l, H, I, rfl, q⟩
  · have c0 : (decide (k < -(2 ^ 63)) || decide (k ≥ 2 ^ 63)) = false := by
      rw [decide_eq_false (by omega), decide_eq_false (by omega)] <;> rfl
    have c1 : (its.toArray.isEmpty || k == 1) = false := by
      rw [hi, Bool.false_or]
      exact beq_eq_false_iff_ne.mpr (by omega)
    have c2 : (decide (k ≤ 0) || its.toArray.isEmpty) = true := by
      rw [hi, Bool.or_false]
      exact decide_eq_true (by omega)
    refine wpAny_binaryOp_repeat_ref (T := "tuple") (U := "int") (by decide) ⟨_, ho, rfl⟩ (fun s' => typeIs_int s' k t) noFill_tuple_mul F.fills_int_mul F.slot_int_rmul repeat_tuple F.slot_int_index.lookup
      (call_meets F.slot_int_rmul (typeIs_int s k t) F.entry_int_rmul (F.args_int_rmul_2 _ _) (int_rmul_tuple k t l its.toArray n dd sl)
        ⟨ho, rfl, ⟨_, ho, rfl⟩, call_meets F.slot_tuple_mul ⟨_, ho, rfl⟩ F.entry_tuple_mul (F.args_tuple_mul_2 _ _) (tuple_mulW0 l its.toArray n dd sl k t c0 c1 c2) ⟨ho, ?_⟩⟩)
    refine ⟨.ref s.heap.objs.size, _, I.laid (t' := s.toks) (o := .tup []) (fun b ob q => Heap.get?_push_of_some _ q) (Nat.le_refl _) ?_, rfl, q _ (I.hok.fresh (Nat.le_refl _))⟩
    exact ⟨by decide, [], .nil, ⟨_, Heap.get?_push_size _ rfl, rfl, _, rfl⟩⟩
end
end DE
set_option Elab.async false
set_option linter.all false
set_option maxRecDepth 100000
set_option maxHeartbeats 4000000
namespace DE
open PySem PySem.Spec PyProof.Rows L2
theorem meets_enumerate_newT (l : Addr) (items : Array Value) (n : Nat) (dd : Option Addr) (sl : Array (Option Value)) :
    Meets (Builtin.«enumerate.__new__» ⟨[.type "enumerate", .ref l], []⟩) (fun _ R s => s.heap.get? l = some { cls := .type "tuple", dict := dd, data := .seq items n, slots := sl } ∧
      R (.ok (.ret (.ref (s.heap.push { cls := .type "tuple_iterator", data := .fields #[.ref l, .int 0 0] }).objs.size)))
        { s with heap := (s.heap.push { cls := .type "tuple_iterator", data := .fields #[.ref l, .int 0 0] }).push { cls := .type "enumerate", data := .fields #[.none, .bool false, .ref s.heap.objs.size, rawInt 0, .none, .none] } }) :=
  .of_wp fun prog w A R s h => by
    obtain ⟨hp, g, d, tk, os⟩ := s
    obtain ⟨hl, h⟩ := h
    have hsub := sub_enumerate
    have hT : Heap.IsTuple hp l items := ⟨_, hl, rfl, n, rfl⟩
    wp_walk
    refine wpAny_stack_any fun st => wpAny_pure ?_
    split
    · rename_i c _ _ _ _ _
      cases (c == Value.type "enumerate")
      · wp_walk using wpAny_pyIter_tuple hT
        exact ⟨_, rfl, h⟩
      · wp_walk using wpAny_pyIter_tuple hT
        exact ⟨_, rfl, h⟩
    · wp_walk using wpAny_pyIter_tuple hT
      exact ⟨_, rfl, h⟩
section
variable {prog : Program} {w : World} {A : Around} {E : Value → Shared → Prop} {s : Shared}
theorem call_enumerate_tup {l : Addr} {items : Array Value} {Q : Value → Shared → Prop} (hL : s.heap.IsTuple l items)
    (h : ∀ h', IsEnum h' (s.heap.objs.size + 1) s.heap.objs.size 0 .none → h'.IsTupleIter s.heap.objs.size l 0 → h'.objs.size = s.heap.objs.size + 2 →
      (∀ b o, s.heap.get? b = some o → h'.get? b = some o) → Q (.ref (s.heap.objs.size + 1)) { s with heap := h' }) :
    wpAny (model prog w) A (call (.type "enumerate") [.ref l]) Q E s := by
  obtain ⟨⟨c, dct, dt, sl⟩, hl, hc, n, hd⟩ := hL
  replace hc : c = .type "tuple" := hc
  replace hd : dt = .seq items n := hd
  subst hc hd
  refine callType_new F.called_enumerate (by decide) (F.typeCall_enumerate_1 _) (F.newCall_enumerate_1 _) (fun obj => F.args_object_init_2 obj _) F.entry_enumerate_new
    (meets_enumerate_newT l items n dct sl) ⟨hl, ?_⟩
  have hz : (s.heap.push { cls := .type "tuple_iterator", data := .fields #[.ref l, .int 0 0] }).objs.size = s.heap.objs.size + 1 := Heap.size_push ..
  rw [hz]
  have he : IsEnum ((s.heap.push { cls := .type "tuple_iterator", data := .fields #[.ref l, .int 0 0] }).push
      { cls := .type "enumerate", data := .fields #[.none, .bool false, .ref s.heap.objs.size, rawInt 0, .none, .none] }) (s.heap.objs.size + 1) s.heap.objs.size 0 .none := by
    have q := Heap.get?_push_size (s.heap.push { cls := .type "tuple_iterator", data := .fields #[.ref l, .int 0 0] })
      (o := { cls := .type "enumerate", data := .fields #[.none, .bool false, .ref s.heap.objs.size, rawInt 0, .none, .none] }) rfl
    rw [hz] at q; exact q
  exact ⟨⟨_, he, rfl⟩, h _ he ⟨_, Heap.get?_push_of_some _ (Heap.get?_push_size _ rfl), rfl, rfl⟩ (by rw [Heap.size_push, hz]) fun b o x => Heap.get?_push_of_some _ (Heap.get?_push_of_some _ x)⟩
end
/-- enumerate of a tuple -/
def IteT (K : PySem.W.Frag) (a : Addr) : It :=
  ⟨fun i H => ∃ (xs : List V) (x : V), SqT K H a xs ∧ xs[i]? = some x, fun i H v H' => ∃ T x, v = .ref T ∧ H T = none ∧ H' = upd H T (.tup [.int (i : Nat), x]) ∧ ∀ xs, SqT K H a xs → xs[i]? = some x, fun i H => ∃ xs : List V, SqT K H a xs ∧ xs.length ≤ i⟩
theorem turn_enumT {P : Program} {w : World} {K : PySem.W.Frag} {elts : List Expr} {kk : Nat} {tpos : Pos} (a e it : Addr) (hai : a ≠ it) (hae : a ≠ e) :
    Turn P w K (.Tuple elts kk tpos) (IteT K a) [e, it] e (fun i h => (∃ old, IsEnum h e it ((i : Nat) : Int) old) ∧ h.IsTupleIter it a i ∧ e ≠ it) where
  mem := by simp
  obj := fun i h st b hb => by
    obtain ⟨⟨old, he⟩, ⟨o, ho, hc, hd⟩, _⟩ := st
    have e' : b = e ∨ b = it := by simpa using hb
    rcases e' with z | z
    · rw [z]; exact ⟨_, he, fun v q => nomatch q⟩
    · rw [z]; exact ⟨o, ho, fun v q => by rw [hd] at q; cases q⟩
  keep := fun i h h' st k => let ⟨⟨old, he⟩, hi, hne⟩ := st; ⟨⟨old, k e (by simp) _ he⟩, hi.at fun o q => k it (by simp) o q, hne⟩
  item := by
    intro X hP hw hK hc i pins s σ H E I hf st hg
    subst hP hw hK
    obtain ⟨⟨old, he⟩, hit, hne⟩ := st
    obtain ⟨xs, x, hq, hx⟩ := hg
    obtain ⟨its, rv, p, hz⟩ := I.tuple hq
    obtain ⟨u, hu, ru⟩ := rv.get hx
    have hel : e < s.heap.objs.size := Heap.lt_size he
    have hil : it < s.heap.objs.size := by obtain ⟨_, q, _⟩ := hit; exact Heap.lt_size q
    have hlt : i < its.toArray.size := by
      have := (List.getElem?_eq_some_iff.mp hu).1
      simpa using this
    refine wpAny_pyNext_enum_itemD (Draws.tuple (A := X.A.in1) (I.ok.hd hc) it a hai its.toArray) he ⟨hit, p⟩ hlt hne (fun z => by
        rcases List.mem_cons.mp z with z | z
        · exact hne z
        · exact hae (List.mem_singleton.mp z).symm) fun y h' tk hP ho hs' hT hsz hk => ?_
    have ey : y = u := by
      have hP' : its.toArray[i]? = some y := hP
      rw [List.getElem?_toArray, hu] at hP'
      exact (Option.some.inj hP').symm
    subst ey
    obtain ⟨hit', _⟩ := hs'
    refine ⟨_, rfl, wpAny_letOwnedTupleGo_enum (s := { s with heap := h', toks := tk + 1 }) ho fun h'' he' sb => ?_⟩
    have hT2 : h''.get? s.heap.objs.size = some { cls := .type "tuple", data := .seq #[.int i tk, y] } := (sb.2 _ (Nat.ne_of_gt hel)).trans hT
    have new : ObjOk X.prog X.w (upd H s.heap.objs.size (.tup [.int (i : Nat), x])) h'' s.heap.objs.size (.tup [.int (i : Nat), x]) :=
      ⟨by show 2 ≤ sizeLine; decide, [.int i tk, y], .cons ⟨_, rfl⟩ (.cons ru .nil), ⟨_, hT2, rfl, _, rfl⟩⟩
    have I1 : Inv X pins σ (upd H s.heap.objs.size (.tup [.int (i : Nat), x])) { s with heap := h'', toks := tk + 1 } :=
      I.turnedNew (ch := [e, it]) (fun b ob hb q => (sb.2 b (fun z => hb (by simp [z]))).trans (hk b ob (fun z => hb (by simp [z])) (fun z => hb (by simp [z])) q)) hf (Nat.le_refl _) new
    refine ⟨.ref s.heap.objs.size, _, I1, rfl, ⟨_, x, rfl, I.hok.fresh (Nat.le_refl _), rfl, fun ys hy => by rw [I.tuple_inj hy hq]; exact hx⟩, ⟨⟨y, ?_⟩, hit'.at fun o q => (sb.2 it (Ne.symm hne)).trans q, hne⟩, fun b hb => ?_⟩
    · have e1 : ((i + 1 : Nat) : Int) = (i : Int) + 1 := by omega
      rw [e1]; exact he'
    · have hb' : b < s.heap.objs.size := by
        have e' : b = e ∨ b = it := by simpa using hb
        rcases e' with z | z
        · rw [z]; exact hel
        · rw [z]; exact hil
      rw [upd_ne (Nat.ne_of_lt hb')]
      exact (hf b hb).1
  done := by
    intro X hP hw hK hc i pins s σ H E I hf st hg
    subst hP hw hK
    obtain ⟨⟨old, he⟩, hit, hne⟩ := st
    obtain ⟨xs, hq, hx⟩ := hg
    obtain ⟨its, rv, p, hz⟩ := I.tuple hq
    obtain ⟨f0, f1, f2, f3, f4, f5⟩ := hf it (by simp)
    have hl := rv.length
    have hn : its.toArray[i]? = none := by rw [List.getElem?_toArray]; exact List.getElem?_eq_none (by omega)
    have D0 : Draws X.prog X.w X.A.in1 it [it, a] 0 (fun _ _ => False) (fun j h => h.IsTupleIter it a (i + j) ∧ h.IsTuple a its.toArray) := {
      live := fun j h st => let ⟨o, ho, _⟩ := st.1; ⟨o, ho⟩
      frame := fun j h h' st hk => ⟨st.1.at fun o q => hk it (by simp) o q, st.2.at fun o q => hk a (by simp) o q⟩
      item := fun j s Q E hj => absurd hj (Nat.not_lt_zero j)
      done := fun s Q E st hE => wpAny_nextOf_tuple_end (I.ok.hd hc) st.1 st.2 hn hE }
    exact wpAny_pyNext_enum_endD D0 he ⟨hit, p⟩ fun h' eb => ⟨rfl, I.turned (t' := s.toks) (fun b o hb q => eb b o hb q) f0 f1 f3 f4 f5⟩
  self := fun A i s Q E st h => let ⟨⟨_, he⟩, _⟩ := st; wpAny_pyIter_enum he h
/-- enumerate of a list or of a tuple -/
def iEnum2 (K : PySem.W.Frag) (ta : TA) : TI := fun σ H R => ta σ H fun vs H1 => ∃ a xs, vs = [.ref a] ∧ ((SqL K H1 a xs ∧ R (Ite K a) H1) ∨ (SqT K H1 a xs ∧ R (IteT K a) H1))
theorem pi_enum2 {X : Cx} {e : Expr} {ta : TA} {p pos tpos : Pos} {elts : List Expr} {kk : Nat} (hg : Gl X "enumerate") (hm : X.mg "enumerate" = none) (ha : PA X [e] ta) (hs : starEach [e] X.env = [(false, eval e X.env)] := by rfl) :
    PI X (.Tuple elts kk tpos) (.Call (.Name "enumerate" p) [e] [] pos) (iEnum2 X.K ta) := by
  refine ⟨fun pins s σ H R I h => ?_⟩
  refine Call_ (ld_blt I hg hm boot_enumerate (PyProof.Rows.callWith_type1 (thn (ha.run pos pins s σ H _ I h) fun us s1 ⟨vs, H1, I1, r1, q1⟩ => ?_) hs rfl))
  obtain ⟨a, xs, ex, q1⟩ := q1
  subst ex
  have fin : ∀ b, b = s1.heap.objs.size + 1 ∨ b = s1.heap.objs.size → FpOk X pins H1 b := fun b z => by
    have hle : s1.heap.objs.size ≤ b := by
      rcases z with z | z
      · rw [z]; exact Nat.le_add_right _ _
      · rw [z]; exact Nat.le_refl _
    exact I1.fpOk hle (I1.hok.fresh hle)
  cases r1 with
  | cons r rr =>
    cases rr
    cases r
    rcases q1 with ⟨hq, q⟩ | ⟨hq, q⟩
    · obtain ⟨its, rv, p', hz⟩ := I1.list hq
      refine call_enumerate_list p'.isList fun h' he hit hsz hk => wpAny_pyIter_enum he ?_
      exact ⟨s1.heap.objs.size + 1, [s1.heap.objs.size + 1, s1.heap.objs.size], _, _, H1, rfl, I1.kept (t' := s1.toks) hk, turn_enum a (s1.heap.objs.size + 1) s1.heap.objs.size, ⟨⟨.none, he⟩, hit, Nat.succ_ne_self _⟩, fun b hb => fin b (by simpa using hb), q⟩
    · obtain ⟨its, rv, p', hz⟩ := I1.tuple hq
      have hlt : a < s1.heap.objs.size := by obtain ⟨o, ho, _⟩ := p'; exact Heap.lt_size ho
      refine call_enumerate_tup p' fun h' he hit hsz hk => wpAny_pyIter_enum he ?_
      exact ⟨s1.heap.objs.size + 1, [s1.heap.objs.size + 1, s1.heap.objs.size], _, _, H1, rfl, I1.kept (t' := s1.toks) hk, turn_enumT a (s1.heap.objs.size + 1) s1.heap.objs.size (Nat.ne_of_lt hlt) (Nat.ne_of_lt (Nat.lt_succ_of_lt hlt)), ⟨⟨.none, he⟩, hit, Nat.succ_ne_self _⟩, fun b hb => fin b (by simpa using hb), q⟩
end DE
set_option linter.all false
set_option maxRecDepth 100000
set_option maxHeartbeats 4000000
namespace DE
open PySem PySem.Spec PyProof.Rows L2

/-! ### operations on data -/
def MulP (i j : Int) : Prop := (-(2 ^ 64) < i ∧ i < 2 ^ 64) ∨ (-(2 ^ 64) < j ∧ j < 2 ^ 64) ∨ i.natAbs.log2 + j.natAbs.log2 < 1000000
instance (i j : Int) : Decidable (MulP i j) := by unfold MulP; infer_instance
def DivP (j : Int) : Prop := j ≠ 0 ∧ j.natAbs.log2 < 9000
instance (j : Int) : Decidable (DivP j) := by unfold DivP; infer_instance
def PowP (i j : Int) : Prop := 0 ≤ j ∧ j ≤ 1000000 ∧ i.natAbs < 2 ^ 64
instance (i j : Int) : Decidable (PowP i j) := by unfold PowP; infer_instance
def binD : Operator → D → D → Option D
  | .Add, .int i, .int j => some (.int (i + j))
  | .Add, .lst a, .lst b => if a.length + b.length ≤ sizeLine then some (.lst (a ++ b)) else none
  | .Add, .tup a, .tup b => if a.length + b.length ≤ sizeLine then some (.tup (a ++ b)) else none
  | .Add, .str a, .str b => if a.length + b.length ≤ sizeLine then some (.str (a ++ b)) else none
  | .Sub, .int i, .int j => some (.int (i - j))
  | .Mult, .int i, .int j => if MulP i j then some (.int (i * j)) else none
  | .Mult, .lst a, .int k => if -(2 ^ 63) ≤ k ∧ k < 2 ^ 63 ∧ a.length * k.toNat ≤ sizeLine then some (.lst (List.replicate k.toNat a).flatten) else none
  | .Mult, .tup a, .int k => if a ≠ [] ∧ -(2 ^ 63) ≤ k ∧ k ≤ 1000 ∧ a.length ≤ 1000 then some (.tup (List.replicate k.toNat a).flatten) else none
  | .FloorDiv, .int i, .int j => if DivP j then some (.int (i.fdiv j)) else none
  | .Mod, .int i, .int j => if j ≠ 0 then some (.int (i.fmod j)) else none
  | .Pow, .int i, .int j => if PowP i j then some (.int (i ^ j.toNat)) else none
  | _, _, _ => none
instance (a : List D) : Decidable (a ≠ []) := match a with | [] => .isFalse (fun h => h rfl) | _ :: _ => .isTrue (fun h => by cases h)

def flatD : D → Bool
  | .non | .bl _ | .int _ | .str _ => true
  | _ => false
def eqD (a b : D) : Bool := PyData.eqv a.toP b.toP
def shp (a : D) : Bool := a.pl && SeqAt.shaped a.toP
theorem shp_pl {a : D} (h : shp a = true) : a.pl = true := by unfold shp at h; rw [Bool.and_eq_true] at h; exact h.1
theorem shp_sh {a : D} (h : shp a = true) : SeqAt.shaped a.toP = true := by unfold shp at h; rw [Bool.and_eq_true] at h; exact h.2
def cmpD : CmpOp → D → D → Option D
  | .Eq, a, b => if shp a && shp b then some (.bl (eqD a b)) else none
  | .NotEq, a, b => if shp a && shp b then some (.bl (!eqD a b)) else none
  | .Lt, .int i, .int j => some (.bl (decide (i < j)))
  | .LtE, .int i, .int j => some (.bl (decide (i ≤ j)))
  | .Gt, .int i, .int j => some (.bl (decide (j < i)))
  | .GtE, .int i, .int j => some (.bl (decide (j ≤ i)))
  | .Is, .bl a, .bl b => some (.bl (decide (a = b)))
  | .IsNot, .bl a, .bl b => some (.bl (!decide (a = b)))
  | .In, a, .lst ds => if shp a && shp (.lst ds) then some (.bl (ds.any fun z => eqD z a)) else none
  | .NotIn, a, .lst ds => if shp a && shp (.lst ds) then some (.bl (!ds.any fun z => eqD z a)) else none
  | .In, a, .tup ds => if flatD a && ds.all flatD then some (.bl (ds.any fun z => eqD z a)) else none
  | .NotIn, a, .tup ds => if flatD a && ds.all flatD then some (.bl (!ds.any fun z => eqD z a)) else none
  | .Is, .non, .non => some (.bl true)
  | .Is, .tup _, .non => some (.bl false)
  | .Is, .lst _, .non => some (.bl false)
  | .Is, .int _, .non => some (.bl false)
  | .IsNot, .non, .non => some (.bl false)
  | .IsNot, .tup _, .non => some (.bl true)
  | .IsNot, .lst _, .non => some (.bl true)
  | .IsNot, .int _, .non => some (.bl true)
  | _, _, _ => none
def truD : D → Option Bool
  | .non => some false
  | .bl b => some b
  | .int i => some (i != 0)
  | .str y => if y.length ≤ sizeLine then some ((y.length : Int) != 0) else none
  | .tup ds => some (!ds.isEmpty)
  | .lst ds => some (!ds.isEmpty)
  | .scr ns => some (!ns.isEmpty)
  | .dK ks _ => some (!ks.isEmpty)
  | _ => none
def negD : D → Option D
  | .int i => some (.int (-i))
  | _ => none
def idxD : D → D → Option D
  | .tup ds, .int i => atI ds i
  | .lst ds, .int i => atI ds i
  | .scr ns, .int i => (atI ns i).map D.int
  | .str z, .int i => if z.length ≤ sizeLine then (atI z.cps.toList i).map fun c => D.str ⟨#[c]⟩ else none
  | _, _ => none
def cutD {α : Type} (xs : List α) (lo hi : Option Int) : List α := (xs.drop (HT.sIx xs.length 0 lo)).take (HT.sIx xs.length xs.length hi - HT.sIx xs.length 0 lo)
def slcD : D → Option Int → Option Int → Option D
  | .tup ds, lo, hi => some (.tup (cutD ds lo hi))
  | .lst ds, lo, hi => some (.lst (cutD ds lo hi))
  | .scr ns, lo, hi => some (.lst ((cutD ns lo hi).map D.int))
  | _, _, _ => none
def intsD : List D → Option (List Int)
  | [] => some []
  | .int i :: r => (intsD r).map (i :: ·)
  | _ :: _ => none
def blsD : List D → Option (List Bool)
  | [] => some []
  | .bl i :: r => (blsD r).map (i :: ·)
  | _ :: _ => none
theorem intsD_of : ∀ {ds : List D} {ns : List Int}, intsD ds = some ns → ds = ns.map D.int
  | [], _, h => by cases h; rfl
  | .int i :: r, ns, h => by
    unfold intsD at h
    cases e : intsD r with
    | none => rw [e] at h; cases h
    | some ms => rw [e] at h; cases h; rw [intsD_of e]; rfl
theorem intsD_map (ns : List Int) : intsD (ns.map D.int) = some ns := by
  induction ns with
  | nil => rfl
  | cons n ns ih => show (intsD (ns.map D.int)).map (n :: ·) = _; rw [ih]; rfl
theorem blsD_of : ∀ {ds : List D} {ns : List Bool}, blsD ds = some ns → ds = ns.map D.bl
  | [], _, h => by cases h; rfl
  | .bl i :: r, ns, h => by
    unfold blsD at h
    cases e : blsD r with
    | none => rw [e] at h; cases h
    | some ms => rw [e] at h; cases h; rw [blsD_of e]; rfl
theorem blsD_map (ns : List Bool) : blsD (ns.map D.bl) = some ns := by
  induction ns with
  | nil => rfl
  | cons n ns ih => show (blsD (ns.map D.bl)).map (n :: ·) = _; rw [ih]; rfl

/-- the built-in calls that are served -/
inductive Blt where
  | len | int | tuple | list | sum | all | any | abs | max2 | min2
  deriving DecidableEq
def Blt.name : Blt → Str
  | .len => "len" | .int => "int" | .tuple => "tuple" | .list => "list" | .sum => "sum" | .all => "all" | .any => "any" | .abs => "abs" | .max2 => "max" | .min2 => "min"
def Blt.val : Blt → Value
  | .len => .builtin "len" | .int => .type "int" | .tuple => .type "tuple" | .list => .type "list" | .sum => .builtin "sum" | .all => .builtin "all" | .any => .builtin "any" | .abs => .builtin "abs" | .max2 => .builtin "max" | .min2 => .builtin "min"
/-- the signs of a text -/
def sgD (x : Str) : List D := x.cps.toList.map fun c => D.str ⟨#[c]⟩
def bltD : Blt → List D → Option D
  | .len, [.tup ds] => some (.int ds.length)
  | .len, [.lst ds] => some (.int ds.length)
  | .len, [.scr ns] => some (.int ns.length)
  | .len, [.dK ks _] => some (.int ks.length)
  | .len, [.dT ks _] => some (.int ks.length)
  | .int, [.int i] => some (.int i)
  | .int, [.bl k] => some (.int (if k then 1 else 0))
  | .tuple, [.tup ds] => some (.tup ds)
  | .tuple, [.lst ds] => some (.tup ds)
  | .list, [.tup ds] => some (.lst ds)
  | .list, [.lst ds] => some (.lst ds)
  | .list, [.scr ns] => some (.lst (ns.map D.int))
  | .list, [.str x] => if x.length ≤ sizeLine then some (.lst (sgD x)) else none
  | .sum, [.lst ds] => (intsD ds).map fun ns => .int ns.sum
  | .sum, [.scr ns] => some (.int ns.sum)
  | .all, [.lst ds] => (blsD ds).map fun bs => .bl (bs.all id)
  | .any, [.lst ds] => (blsD ds).map fun bs => .bl (bs.any id)
  | .abs, [.int i] => some (.int (if i < 0 then -i else i))
  | .max2, [.int i, .int j] => some (.int (if j > i then j else i))
  | .min2, [.int i, .int j] => some (.int (if j < i then j else i))
  | _, _ => none
/-- built-in types that isinstance is asked for -/
inductive TyN where
  | int | bool | tuple | list | str | dict
  deriving DecidableEq
def TyN.name : TyN → String
  | .int => "int" | .bool => "bool" | .tuple => "tuple" | .list => "list" | .str => "str" | .dict => "dict"
def tyOfD : D → String
  | .non => "NoneType" | .bl _ => "bool" | .int _ => "int" | .str _ => "str" | .tup _ => "tuple" | .lst _ => "list" | .scr _ => "list" | .obj _ _ _ => "object" | .dK _ _ => "dict" | .dT _ _ => "dict"
def isiD : D → TyN → Bool
  | .int _, .int => true
  | .bl _, .int => true
  | .bl _, .bool => true
  | .str _, .str => true
  | .tup _, .tuple => true
  | .lst _, .list => true
  | .scr _, .list => true
  | .dK _ _, .dict => true
  | .dT _ _, .dict => true
  | _, _ => false

/-! ### their rules -/
def rD2 (K : PySem.W.Frag) (f : D → D → Option D) : R2 := fun x y H Q => ∃ O a b d, Rp K O H x a ∧ Rp K O H y b ∧ f a b = some d ∧ ∀ H' v, Same H H' → Rp K O H' v d → Q v H'
def rD1 (K : PySem.W.Frag) (f : D → Option D) : V → Hp → VK → Prop := fun x H Q => ∃ O a d, Rp K O H x a ∧ f a = some d ∧ ∀ H' v, Same H H' → Rp K O H' v d → Q v H'
def rDs (K : PySem.W.Frag) (f : List D → Option D) : List V → Hp → VK → Prop := fun xs H Q => ∃ O as d, (∀ a, O a → ∃ o, H a = some o) ∧ Rps K O H xs as ∧ f as = some d ∧ ∀ H' v, Same H H' → Rp K O H' v d → Q v H'
section
variable {X : Cx} {O : Addr → Prop} {H : Hp}
theorem new_lst (hO : ∀ a, O a → ∃ o, H a = some o) {p : Addr} {xs : List V} {ds : List D} {K : PySem.W.Frag} (h : H p = none) (r : Rps K O H xs ds) : Rp K O (upd H p (.lst xs)) (.ref p) (.lst ds) :=
  .lst upd_same (fun z => by obtain ⟨o, e⟩ := hO p z; rw [h] at e; cases e) (r.mono (same_new h _))
theorem new_tup {p : Addr} {xs : List V} {ds : List D} {K : PySem.W.Frag} (h : H p = none) (r : Rps K O H xs ds) : Rp K O (upd H p (.tup xs)) (.ref p) (.tup ds) :=
  .tup (SqT.of upd_same) (r.mono (same_new h _))
theorem rps_ne {K : PySem.W.Frag} : ∀ {xs : List V} {ds : List D}, Rps K O H xs ds → (xs = [] ↔ ds = [])
  | _, _, .nil => by simp
  | _, _, .cons _ _ => by simp
end
section
variable {X : Cx}
/-- as rD2, where O lies in the heap -/
def rD2' (K : PySem.W.Frag) (f : D → D → Option D) : R2 := fun x y H Q => ∃ O a b d, (∀ a, O a → ∃ o, H a = some o) ∧ Rp K O H x a ∧ Rp K O H y b ∧ f a b = some d ∧ ∀ H' v, Same H H' → Rp K O H' v d → Q v H'
theorem bin_rep {O : Addr → Prop} {H : Hp} {p : Addr} {xs : List V} {a : List D} {k : Int} {Q : VK} (hz : a ≠ [] ∧ -(2 ^ 63) ≤ k ∧ k ≤ 1000 ∧ a.length ≤ 1000) (h1 : SqT X.K H p xs) (r1 : Rps X.K O H xs a) (q : ∀ H' v, Same H H' → Rp X.K O H' v (.tup (List.replicate k.toNat a).flatten) → Q v H') :
    rRepT X.K (.ref p) (.int k) H Q ∨ rRepS X.K (.ref p) (.int k) H Q := by
  rcases Int.lt_or_le k 2 with h2 | h2
  · refine .inr ⟨_, _, _, rfl, rfl, h1, fun z => hz.1 ((rps_ne r1).mp z), ?_⟩
    by_cases h3 : k = 1
    · subst h3
      refine .inl ⟨rfl, q _ _ (Same.refl _) ?_⟩
      have e1 : (List.replicate (Int.toNat 1) a).flatten = a := by show (List.replicate 1 a).flatten = a; simp
      rw [e1]
      exact .tup h1 r1
    · refine .inr ⟨hz.2.1, by omega, fun p hp => ?_⟩
      have e1 : (List.replicate k.toNat a).flatten = [] := by rw [show k.toNat = 0 from by omega]; rfl
      have q := q (upd H p (.tup [])) (.ref p) (same_new hp _)
      rw [e1] at q
      exact q (new_tup hp .nil)
  · exact .inl ⟨_, _, _, rfl, rfl, h1, fun z => hz.1 ((rps_ne r1).mp z), h2, hz.2.2.1, by rw [r1.length]; exact hz.2.2.2, fun p hp => q _ _ (same_new hp _) (new_tup hp (r1.rep _))⟩
theorem bin_ok (op : Operator) : OpR X (binaryOp op) (rD2' X.K (binD op)) := by
  intro pins s σ H x y v u Q I rx ry ⟨O, a, b, d, hO, ra, rb, e, q⟩
  unfold binD at e
  split at e
  · cases ra; cases rb; cases e
    exact op_add pins s σ H _ _ v u Q I rx ry ⟨_, _, rfl, rfl, q _ _ (Same.refl _) (.int _)⟩
  · cases ra with | lst h1 n1 r1 => cases rb with | lst h2 n2 r2 =>
      split at e
      · rename_i hz
        cases e
        exact op_cat pins s σ H _ _ v u Q I rx ry ⟨_, _, _, _, rfl, rfl, h1, h2, by rw [r1.length, r2.length]; exact hz, fun p hp => q _ _ (same_new hp _) (new_lst hO hp (r1.append r2))⟩
      · cases e
  · cases ra with | tup h1 r1 => cases rb with | tup h2 r2 =>
      split at e
      · rename_i hz
        cases e
        refine op_catA pins s σ H _ _ v u Q I rx ry ⟨_, _, _, _, rfl, rfl, h1, h2, by rw [r1.length, r2.length]; exact hz, fun z => ?_, fun _ z => ?_, fun _ _ p hp => q _ _ (same_new hp _) (new_tup hp (r1.append r2))⟩
        · have z' := (rps_ne r1).mp z
          subst z'
          exact q _ _ (Same.refl _) (.tup h2 r2)
        · have z' := (rps_ne r2).mp z
          subst z'
          rw [List.append_nil] at q
          exact q _ _ (Same.refl _) (.tup h1 r1)
      · cases e
  · cases ra; cases rb
    split at e
    · rename_i hz
      cases e
      exact op_add_str pins s σ H _ _ v u Q I rx ry ⟨_, _, rfl, rfl, hz, q _ _ (Same.refl _) (.str _)⟩
    · cases e
  · cases ra; cases rb; cases e
    exact op_sub pins s σ H _ _ v u Q I rx ry ⟨_, _, rfl, rfl, q _ _ (Same.refl _) (.int _)⟩
  · cases ra; cases rb
    split at e
    · rename_i hz
      cases e
      rcases hz with h | h | h
      · exact op_mul pins s σ H _ _ v u Q I rx ry ⟨_, _, rfl, rfl, .inl h, q _ _ (Same.refl _) (.int _)⟩
      · exact op_mul pins s σ H _ _ v u Q I rx ry ⟨_, _, rfl, rfl, .inr h, q _ _ (Same.refl _) (.int _)⟩
      · exact op_mulW pins s σ H _ _ v u Q I rx ry ⟨_, _, rfl, rfl, h, q _ _ (Same.refl _) (.int _)⟩
    · cases e
  · cases ra with | lst h1 n1 r1 =>
      cases rb
      split at e
      · rename_i hz
        cases e
        exact op_rep pins s σ H _ _ v u Q I rx ry ⟨_, _, _, rfl, rfl, h1, hz.1, hz.2.1, by rw [r1.length]; exact hz.2.2, fun p hp => q _ _ (same_new hp _) (new_lst hO hp (r1.rep _))⟩
      · cases e
  · cases ra with | tup h1 r1 =>
      cases rb
      split at e
      · rename_i hz
        cases e
        exact (bin_rep hz h1 r1 q).elim (op_repT pins s σ H _ _ v u Q I rx ry) (op_repS pins s σ H _ _ v u Q I rx ry)
      · cases e
  · cases ra; cases rb
    split at e
    · rename_i hz
      cases e
      obtain ⟨t, rfl⟩ := rx
      obtain ⟨t', rfl⟩ := ry
      exact floordiv_int hz.1 ⟨.int _, H, I.tok _, ⟨_, rfl⟩, q _ _ (Same.refl _) (.int _)⟩ (.inl (PyProof.noPylong_of_log2 hz.2))
    · cases e
  · cases ra; cases rb
    split at e
    · rename_i hz
      cases e
      exact op_modN pins s σ H _ _ v u Q I rx ry ⟨_, _, rfl, rfl, hz, q _ _ (Same.refl _) (.int _)⟩
    · cases e
  · cases ra; cases rb
    split at e
    · rename_i hz
      cases e
      exact op_pow pins s σ H _ _ v u Q I rx ry ⟨_, _, rfl, rfl, hz, q _ _ (Same.refl _) (.int _)⟩
    · cases e
  · cases e

theorem toPs_any (f : PyData → Bool) : ∀ ds : List D, (D.toPs ds).any f = ds.any fun z => f z.toP
  | [] => by simp [D.toPs]
  | d :: ds => by rw [D.toPs, List.any_cons, List.any_cons, toPs_any f ds]
theorem flat_v {K : PySem.W.Frag} {O : Addr → Prop} {H : Hp} {v : V} {d : D} (r : Rp K O H v d) (h : flatD d = true) : flatV v = true := by
  cases r <;> first | rfl | cases h
theorem flats_v {K : PySem.W.Frag} {O : Addr → Prop} {H : Hp} : ∀ {vs : List V} {ds : List D}, Rps K O H vs ds → ds.all flatD = true → vs.all flatV = true
  | _, _, .nil, _ => rfl
  | _, _, .cons r s, h => by
    rw [List.all_cons, Bool.and_eq_true] at h ⊢
    exact ⟨flat_v r h.1, flats_v s h.2⟩
theorem eqV_eqD {K : PySem.W.Frag} {O : Addr → Prop} {H : Hp} {v w : V} {d e : D} (r : Rp K O H v d) (s : Rp K O H w e) (h : flatD d = true) (h' : flatD e = true) : eqV v w = eqD d e := by
  unfold eqD
  cases r <;> cases s <;> first | rfl | (cases h; done) | (cases h'; done) | (simp only [D.toP, PyData.eqv, eqV]) | simp [D.toP, PyData.eqv, eqV]
theorem inV_any {K : PySem.W.Frag} {O : Addr → Prop} {H : Hp} {v : V} {d : D} (r : Rp K O H v d) (h : flatD d = true) : ∀ {vs : List V} {ds : List D}, Rps K O H vs ds → ds.all flatD = true → inV v vs = ds.any fun z => eqD z d
  | _, _, .nil, _ => rfl
  | _, _, .cons q s, h2 => by
    rw [List.all_cons, Bool.and_eq_true] at h2
    unfold inV
    rw [List.any_cons, List.any_cons, eqV_eqD q r h2.1 h]
    have := inV_any r h s h2.2
    unfold inV at this
    rw [this]
theorem cmp_ok {k : Nat} (hr : Room k X.A) (op : CmpOp) : OpR X (compareOp op) (rD2' X.K (cmpD op)) := by
  intro pins s σ H x y v u Q I rx ry ⟨O, a, b, d, hO, ra, rb, e, q⟩
  have hu : X.A.units + 65 < cLine := by have := hr.un; omega
  have bl : ∀ c : Bool, D.bl c = d → Q (.bl c) H := fun c h => by subst h; exact q _ _ (Same.refl _) (.bl _)
  unfold cmpD at e
  split at e
  · split at e
    · rename_i hz
      rw [Bool.and_eq_true] at hz
      exact op_eqD hr.units pins s σ H x y v u Q I rx ry ⟨_, _, ra.dp (shp_pl hz.1), rb.dp (shp_pl hz.2), shp_sh hz.1, shp_sh hz.2, bl _ (Option.some.inj e)⟩
    · cases e
  · split at e
    · rename_i hz
      rw [Bool.and_eq_true] at hz
      exact op_neD hr.units pins s σ H x y v u Q I rx ry ⟨_, _, ra.dp (shp_pl hz.1), rb.dp (shp_pl hz.2), shp_sh hz.1, shp_sh hz.2, bl _ (Option.some.inj e)⟩
    · cases e
  · cases ra; cases rb
    exact op_lt pins s σ H _ _ v u Q I rx ry ⟨_, _, rfl, rfl, bl _ (Option.some.inj e)⟩
  · cases ra; cases rb
    exact op_le pins s σ H _ _ v u Q I rx ry ⟨_, _, rfl, rfl, bl _ (Option.some.inj e)⟩
  · cases ra; cases rb
    exact op_gt pins s σ H _ _ v u Q I rx ry ⟨_, _, rfl, rfl, bl _ (Option.some.inj e)⟩
  · cases ra; cases rb
    exact op_ge pins s σ H _ _ v u Q I rx ry ⟨_, _, rfl, rfl, bl _ (Option.some.inj e)⟩
  · cases ra; cases rb
    exact op_isBl pins s σ H _ _ v u Q I rx ry ⟨_, _, rfl, rfl, bl _ (Option.some.inj e)⟩
  · cases ra; cases rb
    exact op_notBl pins s σ H _ _ v u Q I rx ry ⟨_, _, rfl, rfl, bl _ (Option.some.inj e)⟩
  · split at e
    · rename_i ds hz
      rw [Bool.and_eq_true] at hz
      have rb' := rb.dp (shp_pl hz.2)
      have hz2 := shp_sh hz.2
      simp only [D.toP] at rb' hz2
      refine op_inD hu pins s σ H x y v u Q I rx ry ⟨_, _, ra.dp (shp_pl hz.1), rb', shp_sh hz.1, hz2, bl _ ?_⟩
      rw [toPs_any]
      exact Option.some.inj e
    · cases e
  · split at e
    · rename_i ds hz
      rw [Bool.and_eq_true] at hz
      have rb' := rb.dp (shp_pl hz.2)
      have hz2 := shp_sh hz.2
      simp only [D.toP] at rb' hz2
      refine op_notInD hu pins s σ H x y v u Q I rx ry ⟨_, _, ra.dp (shp_pl hz.1), rb', shp_sh hz.1, hz2, bl _ ?_⟩
      rw [toPs_any]
      exact Option.some.inj e
    · cases e
  · split at e
    · rename_i ds hz
      rw [Bool.and_eq_true] at hz
      cases rb with | tup h1 r1 =>
        refine op_in_seq pins s σ H x _ v u Q I rx ry ⟨_, _, rfl, .inr h1, flat_v ra hz.1, flats_v r1 hz.2, ?_⟩
        rw [if_neg (by simp), inV_any ra hz.1 r1 hz.2]
        exact bl _ (Option.some.inj e)
    · cases e
  · split at e
    · rename_i ds hz
      rw [Bool.and_eq_true] at hz
      cases rb with | tup h1 r1 =>
        refine op_notIn_seq pins s σ H x _ v u Q I rx ry ⟨_, _, rfl, .inr h1, flat_v ra hz.1, flats_v r1 hz.2, ?_⟩
        rw [if_pos rfl, inV_any ra hz.1 r1 hz.2]
        exact bl _ (Option.some.inj e)
    · cases e
  · cases ra; cases rb
    exact op_isN pins s σ H _ _ v u Q I rx ry ⟨rfl, bl _ (Option.some.inj e)⟩
  · cases ra; cases rb
    exact op_isN pins s σ H _ _ v u Q I rx ry ⟨rfl, bl _ (Option.some.inj e)⟩
  · cases ra; cases rb
    exact op_isN pins s σ H _ _ v u Q I rx ry ⟨rfl, bl _ (Option.some.inj e)⟩
  · cases ra; cases rb
    exact op_isN pins s σ H _ _ v u Q I rx ry ⟨rfl, bl _ (Option.some.inj e)⟩
  · cases ra; cases rb
    exact op_notN pins s σ H _ _ v u Q I rx ry ⟨rfl, bl _ (Option.some.inj e)⟩
  · cases ra; cases rb
    exact op_notN pins s σ H _ _ v u Q I rx ry ⟨rfl, bl _ (Option.some.inj e)⟩
  · cases ra; cases rb
    exact op_notN pins s σ H _ _ v u Q I rx ry ⟨rfl, bl _ (Option.some.inj e)⟩
  · cases ra; cases rb
    exact op_notN pins s σ H _ _ v u Q I rx ry ⟨rfl, bl _ (Option.some.inj e)⟩
  · cases e

theorem rps_emp {K : PySem.W.Frag} {O : Addr → Prop} {H : Hp} {xs : List V} {ds : List D} (r : Rps K O H xs ds) : xs.isEmpty = ds.isEmpty := by cases r <;> rfl
theorem tru_v {K : PySem.W.Frag} {O : Addr → Prop} {H : Hp} {v : V} {d : D} {b : Bool} (r : Rp K O H v d) (h : truD d = some b) : TruV K v H b := by
  cases r with
  | non => cases h; rfl
  | bl _ => cases h; rfl
  | int _ => cases h; rfl
  | str y =>
    by_cases hz : y.length ≤ sizeLine
    · simp only [truD, hz, if_true] at h
      cases h
      exact ⟨hz, rfl⟩
    · simp only [truD, hz, if_false] at h
      cases h
  | tup h1 r1 => cases h; exact .inr (.inl ⟨_, h1, by rw [rps_emp r1]⟩)
  | lst h1 n1 r1 => cases h; exact .inl ⟨_, SqL.of h1, by rw [rps_emp r1]⟩
  | @scr a ns h1 => cases h; exact .inl ⟨_, h1.seq, by cases ns <;> rfl⟩
  | obj _ _ _ _ _ => cases h
  | @dK a ks xs ds h1 l _ _ => cases h; exact .inr (.inr ⟨_, h1, by cases ks with | nil => rfl | cons k ks => cases xs with | nil => cases l | cons x xs => rfl⟩)
  | dT _ _ _ _ => cases h

theorem atI_rps {K : PySem.W.Frag} {O : Addr → Prop} {H : Hp} {xs : List V} {ds : List D} (r : Rps K O H xs ds) {i : Int} {d : D} (h : atI ds i = some d) : ∃ v, atI xs i = some v ∧ Rp K O H v d := by
  unfold atI at h ⊢
  rw [r.length]
  cases e : ixN ds.length i with
  | none => rw [e] at h; cases h
  | some j => rw [e] at h; exact r.get h
theorem atI_map {α β : Type} (f : α → β) (xs : List α) (i : Int) : atI (xs.map f) i = (atI xs i).map f := by
  unfold atI
  rw [List.length_map]
  cases ixN xs.length i with
  | none => rfl
  | some j => show (xs.map f)[j]? = (xs[j]?).map f; rw [List.getElem?_map]
def rIx2 (K : PySem.W.Frag) : R2 := fun x y H Q => rIxL K x y H Q ∨ rIxT K x y H Q
theorem ix_ok : IxR X (rD2' X.K idxD) := by
  intro value slice pins s σ H x y v u Q I rx ry ⟨O, a, b, d, hO, ra, rb, e, q⟩ hs
  unfold idxD at e
  split at e
  · cases ra with | tup h1 r1 =>
      cases rb
      obtain ⟨w, e1, r⟩ := atI_rps r1 e
      exact ix_tup value slice pins s σ H _ _ v u Q I rx ry ⟨_, _, _, _, rfl, rfl, h1, e1, q _ _ (Same.refl _) r⟩ hs
  · cases ra with | lst h1 n1 r1 =>
      cases rb
      obtain ⟨w, e1, r⟩ := atI_rps r1 e
      exact ix_list value slice pins s σ H _ _ v u Q I rx ry ⟨_, _, _, _, rfl, rfl, SqL.of h1, e1, q _ _ (Same.refl _) r⟩ hs
  · rename_i ns i
    cases ra with | scr h1 =>
      cases rb
      cases e2 : atI ns i with
      | none => rw [e2] at e; cases e
      | some k =>
        rw [e2] at e
        cases e
        exact ix_list value slice pins s σ H _ _ v u Q I rx ry ⟨_, _, _, _, rfl, rfl, h1.seq, by rw [atI_map, e2]; rfl, q _ _ (Same.refl _) (.int k)⟩ hs
  · split at e
    · rename_i z i hz
      cases ra; cases rb
      cases e2 : atI z.cps.toList i with
      | none => rw [e2] at e; cases e
      | some c =>
        rw [e2] at e
        cases e
        exact ix_str value slice pins s σ H _ _ v u Q I rx ry ⟨_, _, c, rfl, rfl, hz, e2, q _ _ (Same.refl _) (.str _)⟩ hs
    · cases e
  · cases e
theorem cut_rps {K : PySem.W.Frag} {O : Addr → Prop} {H : Hp} {xs : List V} {ds : List D} (r : Rps K O H xs ds) (lo hi : Option Int) : Rps K O H (cutV xs lo hi) (cutD ds lo hi) := by
  unfold cutV cutD
  rw [r.length]
  exact (r.drop _).take _
theorem cut_map {α β : Type} (f : α → β) (xs : List α) (lo hi : Option Int) : cutD (xs.map f) lo hi = (cutD xs lo hi).map f := by
  unfold cutD
  rw [List.length_map, List.map_take, List.map_drop]
theorem cutD_all {α : Type} (xs : List α) (lo hi : Option Int) (h : HT.sIx xs.length 0 lo = 0 ∧ HT.sIx xs.length xs.length hi = xs.length) : cutD xs lo hi = xs := by
  unfold cutD
  rw [h.1, h.2, List.drop_zero, Nat.sub_zero, List.take_length]
def rSlD (K : PySem.W.Frag) : V → Option Int → Option Int → Hp → VK → Prop := fun x lo hi H Q => ∃ O a d, (∀ a, O a → ∃ o, H a = some o) ∧ Rp K O H x a ∧ slcD a lo hi = some d ∧ ∀ H' v, Same H H' → Rp K O H' v d → Q v H'
theorem sl_ok : SlR X (rSlD X.K) := by
  intro pins s σ H x v vl vu lo hi sl Q I rx hs pl pu ⟨O, a, d, hO, ra, e, q⟩
  unfold slcD at e
  split at e
  · cases e
    cases ra with | tup h1 r1 =>
      refine sl_tupA pins s σ H _ v vl vu _ _ sl Q I rx hs pl pu ⟨_, _, rfl, h1, fun z => ?_, fun _ p hp => q _ _ (same_new hp _) (new_tup hp (cut_rps r1 _ _))⟩
      rw [r1.length] at z
      rw [cutD_all _ _ _ z] at q
      exact q _ _ (Same.refl _) (.tup h1 r1)
  · cases e
    cases ra with | lst h1 n1 r1 =>
      exact sl_list pins s σ H _ v vl vu _ _ sl Q I rx hs pl pu ⟨_, _, rfl, SqL.of h1, fun p hp => q _ _ (same_new hp _) (new_lst hO hp (cut_rps r1 _ _))⟩
  · rename_i ns
    cases e
    cases ra with | scr h1 =>
      refine sl_list pins s σ H _ v vl vu _ _ sl Q I rx hs pl pu ⟨_, _, rfl, h1.seq, fun p hp => q _ _ (same_new hp _) (new_lst hO hp ?_)⟩
      have z := cut_rps (Rps.of_ints (K := X.K) (O := O) (H := H) ns) lo hi
      rw [cut_map] at z
      exact z
  · cases e

theorem bls_v {K : PySem.W.Frag} {O : Addr → Prop} {H : Hp} : ∀ {xs : List V} {bs : List Bool}, Rps K O H xs (bs.map D.bl) → xs = bs.map V.bl
  | [], [], _ => rfl
  | _ :: _, _ :: _, .cons h r => by cases h; rw [bls_v r]; rfl
  | _ :: _, [], h => by cases h
  | [], _ :: _, h => by cases h
theorem Rps.of_signs {K : PySem.W.Frag} {O : Addr → Prop} {H : Hp} (x : Str) : Rps K O H (sgV x) (sgD x) := by
  unfold sgV sgD
  induction x.cps.toList with
  | nil => exact .nil
  | cons c cs ih => exact .cons (.str _) ih
/-- len(d) -/
theorem call_len_k : CallR X (.builtin "len") (fun xs H Q => ∃ a kvs, xs = [.ref a] ∧ H a = some (.dK kvs) ∧ Q (.int kvs.length) H) := by
  intro pins s σ H xs us Q I r h
  obtain ⟨a, kvs, rfl, e, q⟩ := h
  obtain ⟨u, rfl, rx⟩ := vals1 r
  obtain rfl : u = Value.ref a := rx
  exact d_len I (.inl e) fun t s' I' => ⟨.int kvs.length, H, I', ⟨_, rfl⟩, q⟩
theorem blt_ok (hc : X.calm = true) (f : Blt) : CallR X f.val (rDs X.K (bltD f)) := by
  intro pins s σ H xs us Q I r ⟨O, as, d, hO, ra, e, q⟩
  unfold bltD at e
  split at e
  · cases ra with | cons r1 rn => cases rn; cases r1 with | tup h1 r1 =>
      cases e
      refine call_len_seq pins s σ H _ us Q I r ⟨_, _, rfl, .inr h1, ?_⟩
      rw [r1.length]
      exact q _ _ (Same.refl _) (.int _)
  · cases ra with | cons r1 rn => cases rn; cases r1 with | lst h1 n1 r1 =>
      cases e
      refine call_len_seq pins s σ H _ us Q I r ⟨_, _, rfl, .inl (SqL.of h1), ?_⟩
      rw [r1.length]
      exact q _ _ (Same.refl _) (.int _)
  · cases ra with | cons r1 rn => cases rn; cases r1 with | scr h1 =>
      cases e
      refine call_len_seq pins s σ H _ us Q I r ⟨_, _, rfl, .inl h1.seq, ?_⟩
      rw [List.length_map]
      exact q _ _ (Same.refl _) (.int _)
  · cases ra with | cons r1 rn => cases rn; cases r1 with | dK h1 l1 n1 r1 =>
      cases e
      refine call_len_k pins s σ H _ us Q I r ⟨_, _, rfl, h1, ?_⟩
      rw [List.length_zip, ← l1, Nat.min_self]
      exact q _ _ (Same.refl _) (.int _)
  · cases ra with | cons r1 rn => cases rn; cases r1 with | dT h1 e1 l1 n1 q1 r1 =>
      cases e
      subst e1
      refine call_len_n pins s σ H _ us Q I r ⟨_, _, rfl, h1, nks_of l1 q1, ?_⟩
      rw [List.length_map] at q
      exact q _ _ (Same.refl _) (.int _)
  · cases ra with | cons r1 rn => cases rn; cases r1; cases e; exact call_int1 pins s σ H _ us Q I r (.inl ⟨_, rfl, q _ _ (Same.refl _) (.int _)⟩)
  · cases ra with | cons r1 rn => cases rn; cases r1; cases e; exact call_int1 pins s σ H _ us Q I r (.inr ⟨_, rfl, q _ _ (Same.refl _) (.int _)⟩)
  · cases ra with | cons r1 rn => cases rn; cases r1 with | tup h1 r1 =>
      cases e
      exact call_tuple_of pins s σ H _ us Q I r ⟨_, _, rfl, .inr ⟨h1, q _ _ (Same.refl _) (.tup h1 r1)⟩⟩
  · cases ra with | cons r1 rn => cases rn; cases r1 with | lst h1 n1 r1 =>
      cases e
      exact call_tuple_of pins s σ H _ us Q I r ⟨_, _, rfl, .inl ⟨SqL.of h1, fun l hl => q _ _ (same_new hl _) (new_tup hl r1)⟩⟩
  · cases ra with | cons r1 rn => cases rn; cases r1 with | tup h1 r1 =>
      cases e
      exact call_list_of pins s σ H _ us Q I r ⟨_, _, rfl, .inr h1, fun l hl => q _ _ (same_new hl _) (new_lst hO hl r1)⟩
  · cases ra with | cons r1 rn => cases rn; cases r1 with | lst h1 n1 r1 =>
      cases e
      exact call_list_of pins s σ H _ us Q I r ⟨_, _, rfl, .inl (SqL.of h1), fun l hl => q _ _ (same_new hl _) (new_lst hO hl r1)⟩
  · cases ra with | cons r1 rn => cases rn; cases r1 with | scr h1 =>
      cases e
      exact call_list_of pins s σ H _ us Q I r ⟨_, _, rfl, .inl h1.seq, fun l hl => q _ _ (same_new hl _) (new_lst hO hl (Rps.of_ints _))⟩
  · cases ra with | cons r1 rn => cases rn; cases r1 with | str x =>
      split at e
      · rename_i hz
        cases e
        exact call_list_txt hc pins s σ H _ us Q I r ⟨_, rfl, hz, fun l hl => q _ _ (same_new hl _) (new_lst hO hl (Rps.of_signs _))⟩
      · cases e
  · rename_i ds
    cases ra with | cons r1 rn => cases rn; cases r1 with | lst h1 n1 r1 =>
      cases e2 : intsD ds with
      | none => rw [e2] at e; cases e
      | some ns =>
        rw [e2] at e
        cases e
        have e3 := intsD_of e2
        subst e3
        have e4 := r1.ints
        subst e4
        exact cr_sum hc pins s σ H _ us Q I r ⟨_, _, rfl, SqL.of h1, q _ _ (Same.refl _) (.int _)⟩
  · cases ra with | cons r1 rn => cases rn; cases r1 with | scr h1 =>
      cases e
      exact cr_sum hc pins s σ H _ us Q I r ⟨_, _, rfl, h1.seq, q _ _ (Same.refl _) (.int _)⟩
  · rename_i ds
    cases ra with | cons r1 rn => cases rn; cases r1 with | lst h1 n1 r1 =>
      cases e2 : blsD ds with
      | none => rw [e2] at e; cases e
      | some ns =>
        rw [e2] at e
        cases e
        have e3 := blsD_of e2
        subst e3
        have e4 := bls_v r1
        subst e4
        exact cr_all hc pins s σ H _ us Q I r ⟨_, _, rfl, SqL.of h1, q _ _ (Same.refl _) (.bl _)⟩
  · rename_i ds
    cases ra with | cons r1 rn => cases rn; cases r1 with | lst h1 n1 r1 =>
      cases e2 : blsD ds with
      | none => rw [e2] at e; cases e
      | some ns =>
        rw [e2] at e
        cases e
        have e3 := blsD_of e2
        subst e3
        have e4 := bls_v r1
        subst e4
        exact cr_any hc pins s σ H _ us Q I r ⟨_, _, rfl, SqL.of h1, q _ _ (Same.refl _) (.bl _)⟩
  · cases ra with | cons r1 rn => cases rn; cases r1; cases e; exact call_abs pins s σ H _ us Q I r ⟨_, rfl, q _ _ (Same.refl _) (.int _)⟩
  · cases ra with | cons r1 rn => cases rn with | cons r2 rn => cases rn; cases r1; cases r2; cases e; exact call_max2 hc pins s σ H _ us Q I r ⟨_, _, rfl, q _ _ (Same.refl _) (.int _)⟩
  · cases ra with | cons r1 rn => cases rn with | cons r2 rn => cases rn; cases r1; cases r2; cases e; exact call_min2 hc pins s σ H _ us Q I r ⟨_, _, rfl, q _ _ (Same.refl _) (.int _)⟩
  · cases e

def D.isO : D → Bool
  | .obj _ _ _ => true
  | .dT _ _ => true
  | _ => false
def isiO (d : D) (t : TyN) : Option D := if d.isO = true then none else some (.bl (isiD d t))
theorem isi_kit (d : D) (t : TyN) (hd : d.isO = false) : kitB (tyOfD d) t.name = some (isiD d t) := by
  have h : ∀ t : TyN, kitB "NoneType" t.name = some (isiD .non t) ∧ kitB "bool" t.name = some (isiD (.bl true) t) ∧ kitB "int" t.name = some (isiD (.int 0) t) ∧ kitB "str" t.name = some (isiD (.str Str.empty) t) ∧ kitB "tuple" t.name = some (isiD (.tup []) t) ∧ kitB "list" t.name = some (isiD (.lst []) t) ∧ kitB "dict" t.name = some (isiD (.dK [] []) t) := fun t => by
    cases t <;> refine ⟨?_, ?_, ?_, ?_, ?_, ?_, ?_⟩ <;> decide +kernel
  obtain ⟨h1, h2, h3, h4, h5, h6, h7⟩ := h t
  cases d with
  | non => exact h1
  | bl b => cases t <;> exact h2
  | int b => cases t <;> exact h3
  | str b => cases t <;> exact h4
  | tup b => cases t <;> exact h5
  | lst b => cases t <;> exact h6
  | scr b => cases t <;> exact h6
  | obj a b c => cases hd
  | dK a b => cases t <;> exact h7
  | dT a b => cases hd
theorem tyX_of {K : PySem.W.Frag} {O : Addr → Prop} {H : Hp} {v : V} {d : D} (r : Rp K O H v d) (hd : d.isO = false) : TyX K H v (.type (tyOfD d)) := by
  cases r with
  | non => exact .base .non
  | bl b => exact .base (.bl b)
  | int b => exact .base (.int b)
  | str b => exact .base (.str b)
  | tup h _ =>
    rcases h with (h | ⟨o, h⟩) | ⟨o, its, n, h, c, _⟩
    · exact .base (.tup h)
    · exact .fTuple h
    · exact .kTuple h c
  | lst h _ _ => exact .base (.lst h)
  | scr h =>
    rcases h with ⟨o, h⟩ | ⟨o, its, n, h, c, _⟩
    · exact .base (.frz h)
    · exact .kList h c
  | obj _ _ _ _ _ => cases hd
  | dK h _ _ _ => exact .base (.dK h)
  | dT _ _ _ _ _ _ => cases hd
def rIsiD (K : PySem.W.Frag) (t : TyN) : List V → Hp → VK → Prop := fun xs H Q => ∃ O x d, xs = [x, .ty t.name] ∧ Rp K O H x d ∧ d.isO = false ∧ Q (.bl (isiD d t)) H
theorem isi_ok (t : TyN) : CallR X (.builtin "isinstance") (rIsiD X.K t) := by
  intro pins s σ H xs us Q I r ⟨O, x, d, e, ra, hd, q⟩
  subst e
  exact call_isi pins s σ H _ us Q I r ⟨_, _, _, _, _, rfl, .ty _, tyX_of ra hd, kit_ty (isi_kit d t hd), q⟩
end
end DE
set_option linter.all false
set_option maxRecDepth 100000
set_option maxHeartbeats 4000000
namespace DE
open PySem PySem.Spec PyProof.Rows L2

abbrev Env := List (Option D)
abbrev Fn := List D → M D

/-! ### what stays -/
structure Stay (K : PySem.W.Frag) (O : Addr → Prop) (H H' : Hp) : Prop where
  t : ∀ a xs, SqT K H a xs → SqT K H' a xs
  l : ∀ a o, H a = some o → Mo o → ¬ O a → H' a = some o
  s : ∀ a ns, ScrR K H a ns → ScrR K H' a ns
section
variable {K : PySem.W.Frag} {O O' : Addr → Prop} {H H' H2 : Hp}
theorem Stay.refl : Stay K O H H := ⟨fun _ _ h => h, fun _ _ h _ _ => h, fun _ _ h => h⟩
theorem Stay.trans (a : Stay K O H H') (b : Stay K O H' H2) : Stay K O H H2 := ⟨fun _ _ h => b.t _ _ (a.t _ _ h), fun _ _ h m n => b.l _ _ (a.l _ _ h m n) m n, fun _ _ h => b.s _ _ (a.s _ _ h)⟩
theorem Stay.of (s : Same H H') : Stay K O H H' := ⟨fun _ _ => sqT_same s, fun _ _ h _ _ => s _ _ h, fun _ _ => scr_same s⟩
theorem Stay.wrM {p : Addr} {o u : HO} (hp : H p = some o) (m : Mo o) (ho : O p) : Stay K O H (upd H p u) := by
  refine ⟨fun a zs h => ?_, fun a zs h _ n => upd_oth h fun z => n (z ▸ ho), fun a ns h => ?_⟩
  · rcases h with (h | ⟨o, h⟩) | h
    · exact .inl (.inl (upd_oth h (ne_mo h mo_tup hp m)))
    · exact .inl (.inr ⟨o, upd_oth h (ne_mo h mo_frz hp m)⟩)
    · exact .inr h
  · rcases h with ⟨o, h⟩ | h
    · exact .inl ⟨o, upd_oth h (ne_mo h mo_frz hp m)⟩
    · exact .inr h
theorem Stay.wr {p : Addr} {xs ys : List V} (hp : H p = some (.lst xs)) (ho : O p) : Stay K O H (upd H p (.lst ys)) := .wrM hp trivial ho
theorem Stay.less (s : ∀ a, O' a → O a) (x : Stay K O' H H') : Stay K O H H' := ⟨x.t, fun a xs h m n => x.l a xs h m fun z => n (s a z), x.s⟩
theorem Rp.stay (x : Stay K O H H') {v : V} {d : D} (r : Rp K O H v d) : Rp K O H' v d := r.tr x.t (fun a xs h m n => ⟨x.l a xs h m n, n⟩) x.s
theorem Rps.stay (x : Stay K O H H') {v : List V} {d : List D} (r : Rps K O H v d) : Rps K O H' v d := r.tr x.t (fun a xs h m n => ⟨x.l a xs h m n, n⟩) x.s
end

/-! ### environments -/
structure EnvR (K : PySem.W.Frag) (O : Addr → Prop) (H : Hp) (σ : L2.St) (ρ : Env) : Prop where
  len : σ.length = ρ.length
  dom : ∀ a, O a → ∃ o, H a = some o
  at' : ∀ (i : Nat) d, ρ[i]? = some (some d) → ∃ v, σ[i]? = some (some v) ∧ Rp K O H v d
section
variable {K : PySem.W.Frag} {O O' : Addr → Prop} {H H' : Hp} {σ : L2.St} {ρ : Env}
theorem EnvR.mono (s : Same H H') (e : EnvR K O H σ ρ) : EnvR K O H' σ ρ := ⟨e.len, fun a z => let ⟨o, h⟩ := e.dom a z; ⟨o, s _ _ h⟩, fun i d h => let ⟨v, h1, h2⟩ := e.at' i d h; ⟨v, h1, h2.mono s⟩⟩
theorem EnvR.set (e : EnvR K O H σ ρ) {v : V} {d : D} (r : Rp K O H v d) (i : Nat) : EnvR K O H (σ.set i (some v)) (ρ.set i (some d)) := by
  refine ⟨by rw [List.length_set, List.length_set]; exact e.len, e.dom, fun j d' h => ?_⟩
  by_cases hj : i = j
  · subst hj
    by_cases hl : i < ρ.length
    · rw [List.getElem?_set_self hl] at h
      cases h
      exact ⟨v, List.getElem?_set_self (by rw [e.len]; exact hl), r⟩
    · rw [List.getElem?_eq_none (by rw [List.length_set]; omega)] at h; cases h
  · rw [List.getElem?_set_ne hj] at h
    obtain ⟨w, h1, h2⟩ := e.at' j d' h
    exact ⟨w, by rw [List.getElem?_set_ne hj]; exact h1, h2⟩
end

/-! ### targets -/
inductive Pt where
  | nm (i : Nat) | tp (ps : List Pt)
mutual
def pat : Pt → D → Option (List (Nat × D))
  | .nm i, d => some [(i, d)]
  | .tp ps, .tup ds => pats ps ds
  | .tp _, _ => none
def pats : List Pt → List D → Option (List (Nat × D))
  | [], [] => some []
  | p :: ps, d :: ds => match pat p d, pats ps ds with
    | some l, some m => some (l ++ m)
    | _, _ => none
  | _, _ => none
end
mutual
def Pt.slots : Pt → List Nat
  | .nm i => [i]
  | .tp ps => Pt.slotss ps
def Pt.slotss : List Pt → List Nat
  | [] => []
  | p :: ps => p.slots ++ Pt.slotss ps
end
inductive Bd (K : PySem.W.Frag) (O : Addr → Prop) (H : Hp) : List (Nat × V) → List (Nat × D) → Prop
  | nil : Bd K O H [] []
  | cons {i : Nat} {v : V} {d : D} {l : List (Nat × V)} {m : List (Nat × D)} : Rp K O H v d → Bd K O H l m → Bd K O H ((i, v) :: l) ((i, d) :: m)
def setV : L2.St → List (Nat × V) → L2.St
  | σ, [] => σ
  | σ, (i, v) :: l => setV (σ.set i (some v)) l
def setE : Env → List (Nat × D) → Env
  | σ, [] => σ
  | σ, (i, v) :: l => setE (σ.set i (some v)) l
section
variable {K : PySem.W.Frag} {O O' : Addr → Prop} {H H' : Hp}
theorem Bd.append : ∀ {l l' : List (Nat × V)} {m m' : List (Nat × D)}, Bd K O H l m → Bd K O H l' m' → Bd K O H (l ++ l') (m ++ m')
  | _, _, _, _, .nil, b => b
  | _, _, _, _, .cons r a, b => .cons r (Bd.append a b)
theorem EnvR.setB : ∀ {l : List (Nat × V)} {m : List (Nat × D)} {σ : L2.St} {ρ : Env}, Bd K O H l m → EnvR K O H σ ρ → EnvR K O H (setV σ l) (setE ρ m)
  | _, _, _, _, .nil, e => e
  | _, _, _, _, @Bd.cons _ _ _ _ _ _ l m r b, e => EnvR.setB (l := l) (m := m) b (e.set r _)
theorem setV_append (σ : L2.St) : ∀ (l m : List (Nat × V)), setV σ (l ++ m) = setV (setV σ l) m
  | [], _ => rfl
  | (i, v) :: l, m => setV_append (σ.set i (some v)) l m
theorem wipe_get (σ : L2.St) (i : Nat) : ∀ vs : List Nat, (wipe σ vs)[i]? = if i ∈ vs then σ[i]?.map (fun _ => none) else σ[i]?
  | [] => by simp [wipe]
  | v :: vs => by
    have ih := wipe_get σ i vs
    unfold wipe
    by_cases h : v = i
    · subst h
      rw [if_pos List.mem_cons_self]
      by_cases hl : v < σ.length
      · rw [List.getElem?_set_self (by rw [wipe_length]; exact hl), List.getElem?_eq_getElem hl]; rfl
      · rw [List.getElem?_eq_none (by rw [List.length_set, wipe_length]; omega), List.getElem?_eq_none (by omega)]; rfl
    · rw [List.getElem?_set_ne h, ih]
      by_cases h2 : i ∈ vs
      · rw [if_pos h2, if_pos (List.mem_cons_of_mem _ h2)]
      · rw [if_neg h2, if_neg (by intro z; rcases List.mem_cons.mp z with z | z; exact h z.symm; exact h2 z)]
theorem wipe_set {σ : L2.St} {i : Nat} {x : Option V} {vs : List Nat} (h : i ∈ vs) : wipe (σ.set i x) vs = wipe σ vs := by
  apply List.ext_getElem?
  intro j
  rw [wipe_get, wipe_get]
  by_cases hj : j ∈ vs
  · rw [if_pos hj, if_pos hj]
    by_cases e : i = j
    · subst e
      by_cases hl : i < σ.length
      · rw [List.getElem?_set_self hl, List.getElem?_eq_getElem hl]; rfl
      · rw [List.getElem?_eq_none (by rw [List.length_set]; omega), List.getElem?_eq_none (by omega)]
    · rw [List.getElem?_set_ne e]
  · rw [if_neg hj, if_neg hj]
    rw [List.getElem?_set_ne (by rintro rfl; exact hj h)]
theorem wipe_setV {vs : List Nat} : ∀ {l : List (Nat × V)} {σ : L2.St}, (∀ p ∈ l, p.1 ∈ vs) → wipe (setV σ l) vs = wipe σ vs
  | [], _, _ => rfl
  | (i, v) :: l, σ, h => by
    rw [setV, wipe_setV (l := l) (σ := σ.set i (some v)) fun p hp => h p (List.mem_cons_of_mem _ hp), wipe_set (h (i, v) List.mem_cons_self)]
theorem Bd.fst : ∀ {l : List (Nat × V)} {m : List (Nat × D)}, Bd K O H l m → l.map (·.1) = m.map (·.1)
  | _, _, .nil => rfl
  | _, _, .cons _ b => by rw [List.map_cons, List.map_cons, b.fst]
mutual
theorem pat_slots : ∀ (p : Pt) (d : D) (l : List (Nat × D)), pat p d = some l → l.map (·.1) = p.slots
  | .nm i, d, l, h => by cases h; rfl
  | .tp ps, .tup ds, l, h => by
    simp only [pat] at h
    rw [Pt.slots]
    exact pats_slots ps ds l h
  | .tp ps, .non, _, h => by simp [pat] at h
  | .tp ps, .bl _, _, h => by simp [pat] at h
  | .tp ps, .int _, _, h => by simp [pat] at h
  | .tp ps, .str _, _, h => by simp [pat] at h
  | .tp ps, .lst _, _, h => by simp [pat] at h
  | .tp ps, .scr _, _, h => by simp [pat] at h
  | .tp ps, .obj _ _ _, _, h => by simp [pat] at h
  | .tp ps, .dK _ _, _, h => by simp [pat] at h
  | .tp ps, .dT _ _, _, h => by simp [pat] at h
theorem pats_slots : ∀ (ps : List Pt) (ds : List D) (l : List (Nat × D)), pats ps ds = some l → l.map (·.1) = Pt.slotss ps
  | [], [], l, h => by cases h; rfl
  | p :: ps, d :: ds, l, h => by
    simp only [pats] at h
    cases e1 : pat p d with
    | none => rw [e1] at h; cases h
    | some l1 =>
      cases e2 : pats ps ds with
      | none => rw [e1, e2] at h; cases h
      | some l2 =>
        rw [e1, e2] at h
        cases h
        rw [List.map_append, pat_slots p d l1 e1, pats_slots ps ds l2 e2, Pt.slotss]
  | [], _ :: _, _, h => by simp [pats] at h
  | _ :: _, [], _, h => by simp [pats] at h
end
end
/-- what a target's reading is -/
def gP (K : PySem.W.Frag) (p : Pt) : TG := fun v σ H Q => ∃ O d l, Rp K O H v d ∧ pat p d = some l ∧ ∀ vl, Bd K O H vl l → Q (setV σ vl) H
def gPs (K : PySem.W.Frag) (ps : List Pt) : TGs := fun vs σ H Q => ∃ O ds l, Rps K O H vs ds ∧ pats ps ds = some l ∧ ∀ vl, Bd K O H vl l → Q (setV σ vl) H
def visB (sc : Scope) (x : Str) : Bool := match sc.names.lookup x with
  | some .local => true
  | some .cell => true
  | some .free => true
  | _ => false
def locB (sc : Scope) (x : Str) : Bool := match sc.names.lookup x with
  | some .local => true
  | some .cell => true
  | _ => false
def glB (sc : Scope) (x : Str) : Bool := match sc.names.lookup x with
  | some .globalImplicit => true
  | _ => false
def okName (x : Str) : Bool := !(x == ("__debug__" : Str)) && !(x == ("__classdict__" : Str)) && !(x == ("__name__" : Str))
theorem vis_of {sc : Scope} {x : Str} (h : visB sc x = true) : Vis sc x := by
  unfold visB at h
  split at h
  · exact .inl (by assumption)
  · exact .inr (.inl (by assumption))
  · exact .inr (.inr (by assumption))
  · cases h
theorem loc_of {sc : Scope} {x : Str} (h : locB sc x = true) : Loc sc x := by
  unfold locB at h
  split at h
  · exact .inl (by assumption)
  · exact .inr (by assumption)
  · cases h
mutual
def chkP (N : List Str) (sc : Scope) : Pt → Expr → Bool
  | .nm i, .Name x _ => decide (N[i]? = some x) && locB sc x
  | .tp ps, .Tuple es _ _ => chkPs N sc ps es
  | _, _ => false
def chkPs (N : List Str) (sc : Scope) : List Pt → List Expr → Bool
  | [], [] => true
  | p :: ps, e :: es => chkP N sc p e && chkPs N sc ps es
  | _, _ => false
end
section
variable {X : Cx}
theorem PG.weak {e : Expr} {t t' : TG} (h : PG X e t) (w : ∀ v σ H Q, t' v σ H Q → t v σ H Q) : PG X e t' := ⟨fun pins s σ H v u Q I r q => h.run pins s σ H v u Q I r (w _ _ _ _ q)⟩
theorem PGs.weak {e : List Expr} {t t' : TGs} (h : PGs X e t) (w : ∀ v σ H Q, t' v σ H Q → t v σ H Q) : PGs X e t' := ⟨fun pins s σ H v u Q I r q => h.run pins s σ H v u Q I r (w _ _ _ _ q)⟩
theorem chkPs_len {N : List Str} {sc : Scope} : ∀ {ps : List Pt} {es : List Expr}, chkPs N sc ps es = true → ps.length = es.length
  | [], [], _ => rfl
  | _ :: ps, _ :: es, h => by
    simp only [chkPs, Bool.and_eq_true] at h
    rw [List.length_cons, List.length_cons, chkPs_len h.2]
  | [], _ :: _, h => by simp [chkPs] at h
  | _ :: _, [], h => by simp [chkPs] at h
theorem pats_len : ∀ {ps : List Pt} {ds : List D} {l : List (Nat × D)}, pats ps ds = some l → ps.length = ds.length
  | [], [], _, _ => rfl
  | p :: ps, d :: ds, l, h => by
    simp only [pats] at h
    cases e1 : pat p d with
    | none => rw [e1] at h; cases h
    | some l1 =>
      cases e2 : pats ps ds with
      | none => rw [e1, e2] at h; cases h
      | some l2 => rw [List.length_cons, List.length_cons, pats_len e2]
  | [], _ :: _, _, h => by simp [pats] at h
  | _ :: _, [], _, h => by simp [pats] at h
theorem asg_head {N : List Str} {sc : Scope} {p : Pt} {e : Expr} (h : chkP N sc p e = true) (es : List Expr) (env : PySem.Env) : assignEach (e :: es) env = (false, assign e env) :: assignEach es env := by
  cases p <;> cases e <;> first | rfl | (simp [chkP] at h; done)
theorem asg_len {N : List Str} {sc : Scope} {env : PySem.Env} : ∀ {ps : List Pt} {es : List Expr}, chkPs N sc ps es = true → (assignEach es env).length = ps.length ∧ (assignEach es env).findIdx? (·.1) = none
  | [], [], _ => ⟨rfl, rfl⟩
  | p :: ps, e :: es, h => by
    simp only [chkPs, Bool.and_eq_true] at h
    have ih := asg_len (env := env) h.2
    rw [asg_head h.1]
    refine ⟨by rw [List.length_cons, List.length_cons, ih.1], ?_⟩
    rw [List.findIdx?_cons, ih.2]
    rfl
  | [], _ :: _, h => by simp [chkPs] at h
  | _ :: _, [], h => by simp [chkPs] at h
mutual
theorem pg_ok (hc : X.calm = true) (hN : X.N.Nodup) {sc : Scope} (hv : ∀ x, locB sc x = true → Loc X.env.scope x ∧ (X.fn x = true ∨ X.env.scope.names.lookup x = some .local)) : ∀ (p : Pt) (e : Expr), chkP X.N sc p e = true → PG X e (gP X.K p)
  | .nm i, .Name x pos, h => by
    simp only [chkP, Bool.and_eq_true, decide_eq_true_eq] at h
    refine PG.weak (pg_name (i := i) hN h.1 (hv x h.2).1 (hv x h.2).2) fun v σ H Q ⟨O, d, l, r, e, q⟩ => ?_
    cases e
    exact q [(i, v)] (.cons r .nil)
  | .tp ps, .Tuple es k pos, h => by
    simp only [chkP] at h
    refine PG.weak (pg_tup (k := k) (n := ps.length) hc (pgs_ok hc hN hv ps es h) (asg_len h).1 (asg_len h).2) fun v σ H Q ⟨O, d, l, r, e, q⟩ => ?_
    cases r with
    | tup hT rs =>
      simp only [pat] at e
      exact ⟨_, _, rfl, hT, by rw [rs.length, pats_len e], O, _, l, rs, e, q⟩
    | non => simp [pat] at e
    | bl => simp [pat] at e
    | int => simp [pat] at e
    | str => simp [pat] at e
    | lst => simp [pat] at e
    | scr => simp [pat] at e
    | obj => simp [pat] at e
    | dK => simp [pat] at e
    | dT => simp [pat] at e
theorem pgs_ok (hc : X.calm = true) (hN : X.N.Nodup) {sc : Scope} (hv : ∀ x, locB sc x = true → Loc X.env.scope x ∧ (X.fn x = true ∨ X.env.scope.names.lookup x = some .local)) : ∀ (ps : List Pt) (es : List Expr), chkPs X.N sc ps es = true → PGs X es (gPs X.K ps)
  | [], [], h => PGs.weak pgs_nil fun vs σ H Q ⟨O, ds, l, r, e, q⟩ => by
    cases ds with
    | nil => cases r; cases e; exact ⟨rfl, q [] .nil⟩
    | cons _ _ => simp [pats] at e
  | p :: ps, e :: es, h => by
    simp only [chkPs, Bool.and_eq_true] at h
    refine PGs.weak (pgs_cons (pg_ok hc hN hv p e h.1) (pgs_ok hc hN hv ps es h.2) (by rw [asg_head h.1]; rfl)) fun vs σ H Q ⟨O, ds, l, r, ee, q⟩ => ?_
    cases ds with
    | nil => simp [pats] at ee
    | cons d ds =>
      simp only [pats] at ee
      cases r with | cons r1 rs =>
      cases e1 : pat p d with
      | none => rw [e1] at ee; cases ee
      | some l1 =>
        cases e2 : pats ps ds with
        | none => rw [e1, e2] at ee; cases ee
        | some l2 =>
          rw [e1, e2] at ee
          cases ee
          exact ⟨_, _, rfl, O, d, l1, r1, e1, fun vl b1 => ⟨O, ds, l2, rs, e2, fun wl b2 => by rw [← setV_append]; exact q _ (b1.append b2)⟩⟩
end
end

/-! ### readings by functions -/
def GoG {α β : Type} (R : Hp → β → α → Prop) (W : Hp → Str → Prop) (H : Hp) (Q : β → Hp → Prop) (m : M α) : Prop := match m with
  | some (.ok a) => ∀ H' v, Same H H' → R H' v a → Q v H'
  | some (.error c) => ∀ H', Same H H' → W H' c
  | none => False
theorem GoG.mono {α β : Type} {R : Hp → β → α → Prop} {W : Hp → Str → Prop} {H H1 : Hp} {Q : β → Hp → Prop} {m : M α} (s : Same H H1) (g : GoG R W H Q m) : GoG R W H1 Q m := by
  cases m with
  | none => exact g
  | some r => cases r with
    | ok a => exact fun H' v s' r => g H' v (s.trans s') r
    | error c => exact fun H' s' => g H' (s.trans s')
/-- the wish for what is raised -/
abbrev Wc (cv : Str → Value) (W : WX) (σ : L2.St) : Hp → Str → Prop := fun H c => W (cv c) none σ H
abbrev Go (K : PySem.W.Frag) (cv : Str → Value) (W : WX) (O : Addr → Prop) (σ : L2.St) := GoG (Rp K O) (Wc cv W σ)
abbrev Gos (K : PySem.W.Frag) (cv : Str → Value) (W : WX) (O : Addr → Prop) (σ : L2.St) := GoG (Rps K O) (Wc cv W σ)
abbrev GoB (cv : Str → Value) (W : WX) (σ : L2.St) := GoG (fun (_ : Hp) (b b' : Bool) => b = b') (Wc cv W σ)
def tD (K : PySem.W.Frag) (cv : Str → Value) (W : WX) (f : Env → M D) : TE := fun σ H Q => ∃ O ρ, EnvR K O H σ ρ ∧ Go K cv W O σ H Q (f ρ)
def tA (K : PySem.W.Frag) (cv : Str → Value) (W : WX) (f : Env → M (List D)) : TA := fun σ H Q => ∃ O ρ, EnvR K O H σ ρ ∧ Gos K cv W O σ H Q (f ρ)
def tB (K : PySem.W.Frag) (cv : Str → Value) (W : WX) (f : Env → M Bool) : TT := fun σ H Q => ∃ O ρ, EnvR K O H σ ρ ∧ GoB cv W σ H Q (f ρ)

section
variable {K : PySem.W.Frag} {cv : Str → Value} {W : WX} {O : Addr → Prop} {σ : L2.St} {H : Hp} {ρ : Env}
theorem GoG.bndE {α β γ δ : Type} {R : Hp → β → α → Prop} {S : Hp → δ → γ → Prop} {W : Hp → Str → Prop} {H : Hp} {Q : δ → Hp → Prop} {m : M α} {k : α → M γ} (g : GoG S W H Q (bnd m k)) :
    GoG R W H (fun x H1 => ∃ a, Same H H1 ∧ R H1 x a ∧ GoG S W H1 Q (k a)) m := by
  cases m with
  | none => exact g
  | some r => cases r with
    | ok a => exact fun H' v s r => ⟨a, s, r, GoG.mono s g⟩
    | error c => exact g
theorem GoG.lftE {α β : Type} {R : Hp → β → α → Prop} {W : Hp → Str → Prop} {H : Hp} {Q : β → Hp → Prop} {m : Option α} (g : GoG R W H Q (lft m)) : ∃ a, m = some a ∧ ∀ H' v, Same H H' → R H' v a → Q v H' := by
  cases m with
  | none => exact g.elim
  | some a => exact ⟨a, rfl, g⟩
theorem tD.of {f : Env → M D} {Q : VK} (e : EnvR K O H σ ρ) (g : Go K cv W O σ H Q (f ρ)) : tD K cv W f σ H Q := ⟨O, ρ, e, g⟩
theorem tA.of {f : Env → M (List D)} {Q : List V → Hp → Prop} (e : EnvR K O H σ ρ) (g : Gos K cv W O σ H Q (f ρ)) : tA K cv W f σ H Q := ⟨O, ρ, e, g⟩
theorem tB.of {f : Env → M Bool} {Q : Bool → Hp → Prop} (e : EnvR K O H σ ρ) (g : GoB cv W σ H Q (f ρ)) : tB K cv W f σ H Q := ⟨O, ρ, e, g⟩
end
section
variable {X : Cx}
theorem PE.weak {e : Expr} {t t' : TE} (h : PE X e t) (w : ∀ σ H Q, t' σ H Q → t σ H Q) : PE X e t' := ⟨fun pins s σ H Q I q => h.run pins s σ H Q I (w _ _ _ q)⟩
theorem PT.weak {e : Expr} {t t' : TT} (h : PT X e t) (w : ∀ σ H Q, t' σ H Q → t σ H Q) : PT X e t' := ⟨fun pins s σ H Q I q => h.run pins s σ H Q I (w _ _ _ q)⟩
theorem PW.weak {e : Expr} {t t' : TT} (h : PW X e t) (w : ∀ σ H Q, t' σ H Q → t σ H Q) : PW X e t' := ⟨fun wh pins s σ H Q I q => h.run wh pins s σ H Q I (w _ _ _ q)⟩
theorem PA.weak {e : List Expr} {t t' : TA} (h : PA X e t) (w : ∀ σ H Q, t' σ H Q → t σ H Q) : PA X e t' := ⟨fun pos pins s σ H Q I q => h.run pos pins s σ H Q I (w _ _ _ q)⟩
theorem PTs.weak {e : List Expr} {t t' : TT} (h : PTs X e t) (w : ∀ σ H Q, t' σ H Q → t σ H Q) : PTs X e t' := ⟨fun pins s σ H Q I q => h.run pins s σ H Q I (w _ _ _ q)⟩
theorem PI.weak {e tg : Expr} {t t' : TI} (h : PI X tg e t) (w : ∀ σ H Q, t' σ H Q → t σ H Q) : PI X tg e t' := ⟨fun pins s σ H Q I q => h.run pins s σ H Q I (w _ _ _ q)⟩
theorem PE.of {e : Expr} {t : TE} (w : ∀ σ H Q, t σ H Q → ∃ t', PE X e t' ∧ t' σ H Q) : PE X e t := ⟨fun pins s σ H Q I h => let ⟨t', p, q⟩ := w σ H Q h; p.run pins s σ H Q I q⟩
theorem PT.of {e : Expr} {t : TT} (w : ∀ σ H Q, t σ H Q → ∃ t', PT X e t' ∧ t' σ H Q) : PT X e t := ⟨fun pins s σ H Q I h => let ⟨t', p, q⟩ := w σ H Q h; p.run pins s σ H Q I q⟩
theorem PI.of {e tg : Expr} {t : TI} (w : ∀ σ H Q, t σ H Q → ∃ t', PI X tg e t' ∧ t' σ H Q) : PI X tg e t := ⟨fun pins s σ H Q I h => let ⟨t', p, q⟩ := w σ H Q h; p.run pins s σ H Q I q⟩
theorem tDmono {K : PySem.W.Frag} {cv : Str → Value} {W : WX} {f : Env → M D} {σ : L2.St} {H : Hp} {Q Q' : VK} (h : tD K cv W f σ H Q) (w : ∀ v H', Q v H' → Q' v H') : tD K cv W f σ H Q' := by
  obtain ⟨O, ρ, env, g⟩ := h
  refine ⟨O, ρ, env, ?_⟩
  cases e : f ρ with
  | none => rw [e] at g; exact g
  | some r => cases r with
    | ok a => rw [e] at g; exact fun H' v s r => w _ _ (g H' v s r)
    | error c => rw [e] at g; exact g
theorem PI.or {e tg : Expr} {t t' : TI} (h : PI X tg e t) (h' : PI X tg e t') : PI X tg e (fun σ H Q => t σ H Q ∨ t' σ H Q) := ⟨fun pins s σ H Q I q => q.elim (h.run pins s σ H Q I) (h'.run pins s σ H Q I)⟩
end
end DE
set_option linter.all false
set_option maxRecDepth 100000
set_option maxHeartbeats 4000000
namespace DE
open PySem PySem.Spec PyProof.Rows L2

/-! ### expressions -/
inductive IK where
  | seq | rng1 | rng2 | rng3 | enum | zip | rev
  deriving DecidableEq
inductive T where
  | var (i : Nat)
  | cst (d : D)
  | glo (i : Nat)
  | bin (op : Operator) (a b : T)
  | neg (a : T)
  | nt (a : T)
  | cmp (op : CmpOp) (a b : T)
  | cmp2 (op op2 : CmpOp) (a b c : T)
  | and (a b : T)
  | or (a b : T)
  | ite (c a b : T)
  | tup (es : List T)
  | lst (es : List T)
  | idx (a i : T)
  | slc (a : T) (lo hi : Option T)
  | lc (p : Pt) (k : IK) (args : List T) (ifs : List T) (elt : T) (own : List (Str × Nat))
  | call (i : Nat) (args : List T)
  | blt (f : Blt) (args : List T)
  | isi (t : TyN) (a : T)
  /-- an attribute of an instance -/
  | fld (a : T) (f : Str)
  /-- a method that changes nothing; a class called -/
  | mth (i : Nat) (a : T) (args : List T)
  | new (i : Nat) (args : List T)
  /-- [e, .., *p] -/
  | lsx (es : List T)
  /-- a written text as a list's signs, a dict display -/
  | dsp (ks : List Key) (vs : List T)
  | dnew (t : Bool)
  /-- xs[::-1] -/
  | bck (a : T)
  /-- a module's function: math.gcd .. -/
  | mfn (i : Nat) (args : List T)
  /-- a in range(n), a not in range(n) -/
  | inr (neg : Bool) (a n : T)
  /-- list(range(..)), tuple(range(..)) -/
  | rg1 (tp : Bool) (b : T)
  | rg2 (tp : Bool) (a b : T)
  /-- {k: v}, k a tuple -/
  | dsq (k v : T)
  /-- never reached -/
  | bad

structure FnI where
  name : Str
  np : Nat
  f : Fn
abbrev MFn := D → List D → M (D × D)
/-- a method: its class, its name, its arguments but for self -/
structure MtI where
  c : Str
  m : Str
  np : Nat
  f : Fn
/-- a method that changes its object; m is __init__ for a class that is called -/
structure MkI where
  c : Str
  m : Str
  np : Nat
  f : MFn
/-- the modules' functions that are served -/
inductive Mfn where
  | gcd
  deriving DecidableEq
def Mfn.id : Mfn → String
  | .gcd => "math.gcd"
def mfnD : Mfn → List D → Option D
  | .gcd, [.int a, .int b] => some (.int ((Nat.gcd a.natAbs b.natAbs : Nat) : Int))
  | _, _ => none
structure G where
  N : List Str
  fns : List FnI
  gls : List (Str × D)
  exs : List Str := []
  sub : List (Str × Str × Bool) := []
  /-- classes, and the names of their instances' attributes -/
  cls : List (Str × List Str) := []
  mts : List MtI := []
  mks : List MkI := []
  mfs : List (Str × Mfn) := []

def rngL (lo : Int) (n : Nat) : List D := (List.range n).map fun (i : Nat) => D.int (lo + (i : Int))
/-- what is walked -/
def itS : List D → Option (List D)
  | [.tup ds] => some ds
  | [.lst ds] => some ds
  | [.scr ns] => some (ns.map D.int)
  | _ => none
def it1 : List D → Option (List D)
  | [.int j] => if -(2 ^ 62) ≤ j ∧ j < 2 ^ 62 then some (rngL 0 j.toNat) else none
  | _ => none
def it2 : List D → Option (List D)
  | [.int i, .int j] => if -(2 ^ 62) ≤ i ∧ i < 2 ^ 62 ∧ -(2 ^ 62) ≤ j ∧ j < 2 ^ 62 then some (rngL i (j - i).toNat) else none
  | _ => none
def rngC (lo c : Int) (n : Nat) : List D := (List.range n).map fun (i : Nat) => D.int (lo + (i : Int) * c)
def it3 : List D → Option (List D)
  | [.int i, .int j, .int c] => if c = -1 ∧ -(2 ^ 62) ≤ i ∧ i < 2 ^ 62 ∧ -(2 ^ 62) ≤ j ∧ j < 2 ^ 62 then some (rngC i (-1) (i - j).toNat) else none
  | _ => none
/-- the pairs that are walked -/
def pairsL : List D → List D → List D
  | a :: as, b :: bs => .tup [a, b] :: pairsL as bs
  | _, _ => []
def itE : List D → Option (List D)
  | [.lst ds] => some (pairsL (rngL 0 ds.length) ds)
  | [.tup ds] => some (pairsL (rngL 0 ds.length) ds)
  | [.scr ns] => some (pairsL (rngL 0 ns.length) (ns.map D.int))
  | _ => none
def itZ : List D → Option (List D)
  | [.lst as, .lst bs] => some (pairsL as bs)
  | [.tup as, .tup bs] => some (pairsL as bs)
  | [.tup as, .lst bs] => some (pairsL as bs)
  | _ => none
def itR : List D → Option (List D)
  | [.lst as] => some as.reverse
  | [.tup as] => some as.reverse
  | _ => none
def itD : IK → List D → Option (List D)
  | .seq, ds => itS ds
  | .rng1, ds => it1 ds
  | .rng2, ds => it2 ds
  | .rng3, ds => it3 ds
  | .enum, ds => itE ds
  | .zip, ds => itZ ds
  | .rev, ds => itR ds
/-- an attribute, by its place -/
def fldIx (fs : List (Str × Nat)) (f : Str) : Option Nat := fs.findIdx? fun p => decide (p.1 = f)
def fldD (Γ : G) (f : Str) : D → Option D
  | .obj c fs ds => if Γ.cls.any (fun p => decide (p.1 = c) && p.2.any (fun g => decide (g = f))) = true ∧ fs.length = ds.length then match fldIx fs f with
      | some j => ds[j]?
      | none => none
    else none
  | _ => none
/-- keys of dicts -/
def keyD : D → Option Key
  | .int i => some (.inl i)
  | .str x => some (.inr x)
  | _ => none
def getK (ks : List Key) (ds : List D) (k : Key) : Option D := match ks, ds with
  | j :: ks, d :: ds => if j = k then some d else getK ks ds k
  | _, _ => none
def getN (ks : List NestedKey) (ds : List D) (k : NestedKey) : Option D := match ks, ds with
  | j :: ks, d :: ds => if j = k then some d else getN ks ds k
  | _, _ => none
/-- data as a key that may be asked for -/
def keyN (y : D) : Option NestedKey := match nkD y with
  | some k => if kOk k = true then some k else none
  | none => none
def idxA : D → D → Option D
  | .dT ks ds, y => match keyN y with
    | some k => getN ks ds k
    | none => none
  | .dK ks ds, y => match keyD y with
    | some k => getK ks ds k
    | none => none
  | x, y => idxD x y
/-- membership in a dict -/
def inA (op : CmpOp) (x y : D) : Option D := match op, y with
  | .In, .dT ks ds => match keyN x with
    | some k => some (.bl (getN ks ds k).isSome)
    | none => none
  | .NotIn, .dT ks ds => match keyN x with
    | some k => some (.bl (!(getN ks ds k).isSome))
    | none => none
  | .In, .dK ks ds => match keyD x with
    | some k => some (.bl (getK ks ds k).isSome)
    | none => none
  | .NotIn, .dK ks ds => match keyD x with
    | some k => some (.bl (!(getK ks ds k).isSome))
    | none => none
  | _, _ => cmpD op x y
def inrD (neg : Bool) : D → D → Option D
  | .int i, .int j => some (.bl (if neg = true then !decide (0 ≤ i ∧ i < j) else decide (0 ≤ i ∧ i < j)))
  | _, _ => none
instance (a b : Int) : Decidable (RgOk a b) := by unfold RgOk; infer_instance
def rgsD (tp : Bool) : D → D → Option D
  | .int i, .int j => if RgOk i j then some (if tp = true then .tup (rngL i (j - i).toNat) else .lst (rngL i (j - i).toNat)) else none
  | _, _ => none
def dsqD (x y : D) : Option D := match keyN x with
  | some k => some (.dT [k] [y])
  | none => none
/-- items behind a star -/
def starD : D → Option (List D)
  | .tup ds => some ds
  | .lst ds => some ds
  | .scr ns => some (ns.map D.int)
  | _ => none
def starL : List D → Option (List D)
  | [] => none
  | [x] => starD x
  | d :: d2 :: ds => (starL (d2 :: ds)).map (d :: ·)
def bckD : D → Option D
  | .lst ds => some (.lst ds.reverse)
  | .tup ds => some (.tup ds.reverse)
  | _ => none
def isObj (c m : Str) : D → Bool
  | .obj c' fs _ => decide (c' = c) && !(fs.any fun p => decide (p.1 = m))
  | _ => false
/-- the turns of a comprehension: each gives nothing, or an item -/
def turns (f : D → Option (Option D)) : List D → Option (List D)
  | [] => some []
  | d :: ds => match f d with
    | none => none
    | some none => turns f ds
    | some (some y) => match turns f ds with
      | some ys => some (y :: ys)
      | none => none
def wipeE (ρ : Env) (vs : List Nat) : Env := vs.foldr (fun v ρ => ρ.set v none) ρ
def val? {α : Type} : M α → Option α
  | some (.ok a) => some a
  | _ => none
def tru (m : M D) : M Bool := bnd m fun d => lft (truD d)

/-- the function that a comprehension's turn is -/
def turnF (p : Pt) (own : List (Str × Nat)) (fi : Env → M Bool) (fe : Env → M D) (ρ : Env) : D → Option (Option D) := fun d => match pat p d with
  | none => none
  | some l => match val? (fi (setE (wipeE ρ (own.map (·.2))) l)) with
    | none => none
    | some false => some none
    | some true => (val? (fe (setE (wipeE ρ (own.map (·.2))) l))).map some
def lcF (p : Pt) (own : List (Str × Nat)) (fI : Env → M (List D)) (fi : Env → M Bool) (fe : Env → M D) (ρ : Env) : M D := bnd (fI ρ) fun items => if items.length ≤ sizeLine then match turns (turnF p own fi fe ρ) items with
        | some ys => some (.ok (.lst ys))
        | none => none
      else none

mutual
def ev (Γ : G) : T → Env → M D
  | .var i, ρ => match ρ[i]? with
    | some (some d) => some (.ok d)
    | _ => none
  | .cst d, _ => some (.ok d)
  | .glo i, _ => match Γ.gls[i]? with
    | some p => some (.ok p.2)
    | none => none
  | .bin op a b, ρ => bnd (ev Γ a ρ) fun x => bnd (ev Γ b ρ) fun y => lft (binD op x y)
  | .neg a, ρ => bnd (ev Γ a ρ) fun x => lft (negD x)
  | .nt a, ρ => bnd (tru (ev Γ a ρ)) fun c => some (.ok (.bl (!c)))
  | .cmp op a b, ρ => bnd (ev Γ a ρ) fun x => bnd (ev Γ b ρ) fun y => lft (inA op x y)
  | .cmp2 op op2 a b c, ρ => bnd (ev Γ a ρ) fun x => bnd (ev Γ b ρ) fun y => bnd (lft (cmpD op x y)) fun z => match z with
    | .bl true => bnd (ev Γ c ρ) fun w => lft (cmpD op2 y w)
    | .bl false => some (.ok (.bl false))
    | _ => none
  | .and a b, ρ => bnd (ev Γ a ρ) fun x => bnd (lft (truD x)) fun c => if c = true then ev Γ b ρ else some (.ok x)
  | .or a b, ρ => bnd (ev Γ a ρ) fun x => bnd (lft (truD x)) fun c => if c = true then some (.ok x) else ev Γ b ρ
  | .ite c a b, ρ => bnd (tru (ev Γ c ρ)) fun k => if k = true then ev Γ a ρ else ev Γ b ρ
  | .tup es, ρ => bnd (evs Γ es ρ) fun ds => if ds.length ≤ sizeLine then some (.ok (.tup ds)) else none
  | .lst es, ρ => bnd (evs Γ es ρ) fun ds => if ds.length ≤ sizeLine then some (.ok (.lst ds)) else none
  | .idx a i, ρ => bnd (ev Γ a ρ) fun x => bnd (ev Γ i ρ) fun y => lft (idxA x y)
  | .slc a lo hi, ρ => bnd (ev Γ a ρ) fun x => bnd (evo Γ lo ρ) fun l => bnd (evo Γ hi ρ) fun h => lft (slcD x l h)
  | .lc p k args ifs elt own, ρ => lcF p own (fun ρ => bnd (evs Γ args ρ) fun ds => lft (itD k ds)) (fun ρ => evi Γ ifs ρ) (fun ρ => ev Γ elt ρ) ρ
  | .call i args, ρ => match Γ.fns[i]? with
    | some p => bnd (evs Γ args ρ) p.f
    | none => none
  | .blt f args, ρ => bnd (evs Γ args ρ) fun ds => lft (bltD f ds)
  | .isi t a, ρ => bnd (ev Γ a ρ) fun x => lft (isiO x t)
  | .fld a f, ρ => bnd (ev Γ a ρ) fun x => lft (fldD Γ f x)
  | .mth i a args, ρ => match Γ.mts[i]? with
    | some p => bnd (ev Γ a ρ) fun x => if isObj p.c p.m x = true then bnd (evs Γ args ρ) fun ds => p.f (x :: ds) else none
    | none => none
  | .new i args, ρ => match Γ.mks[i]? with
    | some p => bnd (evs Γ args ρ) fun ds => bnd (p.f (.obj p.c [] []) ds) fun r => match r.1 with
      | .non => some (.ok r.2)
      | _ => none
    | none => none
  | .lsx es, ρ => bnd (evs Γ es ρ) fun ds => match starL ds with
    | some xs => if xs.length ≤ sizeLine then some (.ok (.lst xs)) else none
    | none => none
  | .dsp ks vs, ρ => bnd (evs Γ vs ρ) fun ds => if ks.length = ds.length ∧ ks.Nodup then some (.ok (.dK ks ds)) else none
  | .dnew t, _ => some (.ok (if t = true then .dT [] [] else .dK [] []))
  | .bck a, ρ => bnd (ev Γ a ρ) fun x => lft (bckD x)
  | .mfn i args, ρ => match Γ.mfs[i]? with
    | some p => bnd (evs Γ args ρ) fun ds => lft (mfnD p.2 ds)
    | none => none
  | .inr neg a n, ρ => bnd (ev Γ a ρ) fun x => bnd (ev Γ n ρ) fun y => lft (inrD neg x y)
  | .rg1 tp b, ρ => bnd (ev Γ b ρ) fun y => lft (rgsD tp (.int 0) y)
  | .rg2 tp a b, ρ => bnd (ev Γ a ρ) fun x => bnd (ev Γ b ρ) fun y => lft (rgsD tp x y)
  | .dsq k v, ρ => bnd (ev Γ k ρ) fun x => bnd (ev Γ v ρ) fun y => lft (dsqD x y)
  | .bad, _ => none
def evs (Γ : G) : List T → Env → M (List D)
  | [], _ => some (.ok [])
  | t :: ts, ρ => bnd (ev Γ t ρ) fun d => bnd (evs Γ ts ρ) fun ds => some (.ok (d :: ds))
def evo (Γ : G) : Option T → Env → M (Option Int)
  | none, _ => some (.ok none)
  | some t, ρ => bnd (ev Γ t ρ) fun d => match d with
    | .int i => some (.ok (some i))
    | _ => none
def evi (Γ : G) : List T → Env → M Bool
  | [], _ => some (.ok true)
  | t :: _, ρ => tru (ev Γ t ρ)
end

/-! ### the check that an expression of the text is the one told -/
def noStar : Expr → Bool
  | .Starred _ _ => false
  | _ => true
def noSet : Expr → Bool
  | .Set _ _ _ => false
  | _ => true
def noSlice : Expr → Bool
  | .Slice _ _ _ _ => false
  | _ => true
def noStarB : Expr → Bool
  | .Starred _ _ => true
  | _ => false
def noIf : Expr → Bool
  | .IfExp _ _ _ _ => false
  | .NamedExpr _ _ _ => false
  | _ => true
/-- a piece of the text: an expression, or what is left of the parts of an and, an or -/
inductive Src where
  | one (e : Expr) | ands (es : List Expr) | ors (es : List Expr) | bad
def nrmA : List Expr → Src
  | [e] => if noIf e then .one e else .bad
  | es => .ands es
def nrmO : List Expr → Src
  | [e] => if noIf e then .one e else .bad
  | es => .ors es
def isName : Expr → Bool
  | .Name _ _ => true
  | _ => false
def isTupE : Expr → Bool
  | .Tuple _ _ _ => true
  | _ => false
def chkks : List Key → List (Option Expr) → Bool
  | [], [] => true
  | .inl i :: ks, some (.Constant (.int j) _ _) :: es => decide (i = j) && chkks ks es
  | .inr i :: ks, some (.Constant (.str j) _ _) :: es => decide (i = j) && chkks ks es
  | _, _ => false
def isLcE : Expr → Bool
  | .ListComp _ _ _ _ => true
  | .SetComp _ _ _ _ => true
  | .DictComp _ _ _ _ _ => true
  | _ => false
mutual
def chk (Γ : G) (sc : Scope) : T → Src → Bool
  | .var i, .one (.Name x _) => decide (Γ.N[i]? = some x) && visB sc x && okName x
  | .cst (.int i), .one (.Constant (.int j) _ _) => decide (i = j)
  | .cst (.bl i), .one (.Constant (.bool j) _ _) => decide (i = j)
  | .cst .non, .one (.Constant .none _ _) => true
  | .cst (.str i), .one (.Constant (.str j) _ _) => decide (i = j)
  | .glo i, .one (.Name x _) => decide ((Γ.gls[i]?).map (·.1) = some x) && glB sc x && okName x
  | .bin op a b, .one (.BinOp ea op' eb _) => decide (op = op') && chk Γ sc a (.one ea) && chk Γ sc b (.one eb)
  | .neg a, .one (.UnaryOp .USub e _) => chk Γ sc a (.one e)
  | .nt a, .one (.UnaryOp .Not e _) => chk Γ sc a (.one e) && noIf e
  | .cmp op a b, .one (.Compare ea [op'] [eb] _) => decide (op = op') && chk Γ sc a (.one ea) && chk Γ sc b (.one eb) && !(behindInMarks op eb)
  | .cmp2 op op2 a b c, .one (.Compare ea [op', op2'] [eb, ec] _) => decide (op = op') && decide (op2 = op2') && chk Γ sc a (.one ea) && chk Γ sc b (.one eb) && chk Γ sc c (.one ec) && !(lastMarks [op', op2'] [eb, ec])
  | .and a b, .one (.BoolOp .And (e :: e2 :: es) _) => chk Γ sc a (.one e) && noIf e && chk Γ sc b (nrmA (e2 :: es))
  | .and a b, .ands (e :: e2 :: es) => chk Γ sc a (.one e) && noIf e && chk Γ sc b (nrmA (e2 :: es))
  | .or a b, .one (.BoolOp .Or (e :: e2 :: es) _) => chk Γ sc a (.one e) && noIf e && chk Γ sc b (nrmO (e2 :: es))
  | .or a b, .ors (e :: e2 :: es) => chk Γ sc a (.one e) && noIf e && chk Γ sc b (nrmO (e2 :: es))
  | .ite c a b, .one (.IfExp ec ea eb _) => chk Γ sc c (.one ec) && noIf ec && chk Γ sc a (.one ea) && chk Γ sc b (.one eb)
  | .tup es, .one (.Tuple xs _ _) => chks Γ sc es xs
  | .lst es, .one (.List xs _) => chks Γ sc es xs
  | .idx a i, .one (.Subscript ea ei _) => chk Γ sc a (.one ea) && chk Γ sc i (.one ei) && noSlice ei
  | .slc a lo hi, .one (.Subscript ea (.Slice el eh none _) _) => chk Γ sc a (.one ea) && chko Γ sc lo el && chko Γ sc hi eh
  | .lc p k args ifs elt own, .one (.ListComp eelt [⟨tg, it, eifs, asy⟩] scope _) => decide (asy = 0) && noSet it && chkI Γ sc k args tg it && chkP Γ.N scope p tg && chkF Γ (relS scope sc) ifs eifs && chk Γ (relS scope sc) elt (.one eelt) && blkC Γ.N sc scope own && p.slots.all (fun i => decide (i ∈ own.map (·.2)))
  | .call i args, .one (.Call (.Name x _) (e :: es) [] _) => decide ((Γ.fns[i]?).map (·.name) = some x) && decide ((Γ.fns[i]?).map (·.np) = some args.length) && glB sc x && okName x && chks Γ sc args (e :: es)
  | .call i [], .one (.Call (.Name x _) [] [] _) => decide ((Γ.fns[i]?).map (·.name) = some x) && decide ((Γ.fns[i]?).map (·.np) = some 0) && glB sc x && okName x
  | .blt f args, .one (.Call (.Name x _) (e :: es) [] _) => decide (x = f.name) && glB sc x && chks Γ sc args (e :: es)
  | .fld a f, .one (.Attribute e g _) => decide (f = g) && chk Γ sc a (.one e) && isName e
  | .mth i a args, .one (.Call (.Attribute e m apos) (e1 :: es) [] cpos) => (apos.endLine == cpos.line) && decide (es.length < 28) && decide ((Γ.mts[i]?).map (·.m) = some m) && decide ((Γ.mts[i]?).map (·.np) = some args.length) && chk Γ sc a (.one e) && isName e && chks Γ sc args (e1 :: es)
  | .new i args, .one (.Call (.Name x _) (e :: es) [] _) => decide ((Γ.mks[i]?).map (·.c) = some x) && decide ((Γ.mks[i]?).map (·.m) = some "__init__") && decide ((Γ.mks[i]?).map (·.np) = some args.length) && glB sc x && okName x && chks Γ sc args (e :: es)
  | .lsx es, .one (.List xs _) => chkx Γ sc es xs
  | .bck a, .one (.Subscript e (.Slice none none (some (.UnaryOp .USub (.Constant (.int j) _ _) _)) _) _) => decide (j = 1) && chk Γ sc a (.one e)
  | .dnew _, .one (.Dict [] [] _) => true
  | .dsp ks vs, .one (.Dict kes ves _) => chkks ks kes && chks Γ sc vs ves && !ves.isEmpty && decide (ves.length ≤ 15) && decide (kes.length = ves.length)
  | .mfn i args, .one (.Call (.Name x _) (e :: es) [] _) => decide ((Γ.mfs[i]?).map (·.1) = some x) && glB sc x && okName x && chks Γ sc args (e :: es)
  | .inr neg a n, .one (.Compare ea [op] [.Call (.Name x p) [e] [] pos] _) => decide (op = if neg = true then .NotIn else .In) && decide (x = ("range" : Str)) && glB sc x && chk Γ sc a (.one ea) && chk Γ sc n (.one e) && noStar e && !(behindInMarks op (.Call (.Name x p) [e] [] pos))
  | .rg1 tp b, .one (.Call (.Name x _) [.Call (.Name y _) [e] [] _] [] _) => decide (x = if tp = true then ("tuple" : Str) else ("list" : Str)) && glB sc x && decide (y = ("range" : Str)) && glB sc y && chk Γ sc b (.one e) && noStar e
  | .rg2 tp a b, .one (.Call (.Name x _) [.Call (.Name y _) [e, e2] [] _] [] _) => decide (x = if tp = true then ("tuple" : Str) else ("list" : Str)) && glB sc x && decide (y = ("range" : Str)) && glB sc y && chk Γ sc a (.one e) && noStar e && chk Γ sc b (.one e2) && noStar e2
  | .dsq k v, .one (.Dict [some ke] [ve] _) => chk Γ sc k (.one ke) && chk Γ sc v (.one ve)
  | .bad, .one e => !(isLcE e)
  | .isi t a, .one (.Call (.Name x _) [e, .Name y _] [] _) => decide (x = ("isinstance" : Str)) && glB sc x && chk Γ sc a (.one e) && noStar e && decide (y = Str.ofString t.name) && glB sc y
  | _, _ => false
def chks (Γ : G) (sc : Scope) : List T → List Expr → Bool
  | [], [] => true
  | t :: ts, e :: es => chk Γ sc t (.one e) && noStar e && chks Γ sc ts es
  | _, _ => false
def chko (Γ : G) (sc : Scope) : Option T → Option Expr → Bool
  | none, none => true
  | some t, some e => chk Γ sc t (.one e)
  | _, _ => false
def chkF (Γ : G) (sc : Scope) : List T → List Expr → Bool
  | [], [] => true
  | [t], [e] => chk Γ sc t (.one e) && noIf e
  | _, _ => false
def chkx (Γ : G) (sc : Scope) : List T → List Expr → Bool
  | [t], [.Starred e _] => chk Γ sc t (.one e)
  | t :: ts, e :: es => chk Γ sc t (.one e) && noStar e && chkx Γ sc ts es
  | _, _ => false
def chkI (Γ : G) (sc : Scope) : IK → List T → Expr → Expr → Bool
  | .seq, [t], _, e => chk Γ sc t (.one e)
  | .rng1, [t], _, .Call (.Name x _) [e] [] _ => decide (x = ("range" : Str)) && glB sc x && chk Γ sc t (.one e) && noStar e
  | .rng2, [t, u], _, .Call (.Name x _) [e, e2] [] _ => decide (x = ("range" : Str)) && glB sc x && chk Γ sc t (.one e) && noStar e && chk Γ sc u (.one e2) && noStar e2
  | .rng3, [t, u, v], _, .Call (.Name x _) [e, e2, e3] [] _ => decide (x = ("range" : Str)) && glB sc x && chk Γ sc t (.one e) && noStar e && chk Γ sc u (.one e2) && noStar e2 && chk Γ sc v (.one e3) && noStar e3
  | .enum, [t], tg, .Call (.Name x _) [e] [] _ => decide (x = ("enumerate" : Str)) && glB sc x && chk Γ sc t (.one e) && noStar e && isTupE tg
  | .zip, [t, u], tg, .Call (.Name x _) [e, e2] [] _ => decide (x = ("zip" : Str)) && glB sc x && chk Γ sc t (.one e) && noStar e && chk Γ sc u (.one e2) && noStar e2 && isTupE tg
  | .rev, [t], _, .Call (.Name x _) [e] [] _ => decide (x = ("reversed" : Str)) && glB sc x && chk Γ sc t (.one e) && noStar e
  | _, _, _, _ => false
end
end DE
set_option linter.all false
set_option maxRecDepth 100000
set_option maxHeartbeats 4000000
namespace DE
open PySem PySem.Spec PyProof.Rows L2

/-! ### a def's promise by a function; where one stands -/
def spD (K : PySem.W.Frag) (cv : Str → Value) (np : Nat) (f : Fn) : Sp := fun vs H Q E => ∃ O ds, vs.length = np ∧ (∀ a, O a → ∃ o, H a = some o) ∧ Rps K O H vs ds ∧ GoG (Rp K O) (fun H' c => E (cv c) none H') H Q (f ds)
def bltNames : List Str := ["len", "int", "tuple", "list", "sum", "all", "any", "abs", "max", "min", "isinstance", "range", "bool", "str", "dict", "enumerate", "zip", "reversed", "sorted", "set"]
/-- a method's promise: it takes its object over and hands it back -/
def spM (K : PySem.W.Frag) (cv : Str → Value) (np : Nat) (f : MFn) : Sp := fun vs H Q E => ∃ (O Ps : Addr → Prop) (a : Addr) (ws : List V) (dob : D) (args : List D) (fp : List Addr), vs = .ref a :: ws ∧ ws.length = np ∧ (∀ b, O b → ∃ o, H b = some o) ∧ (∀ b, O b → ¬ Ps b) ∧ (∀ b, Ps b → Mok H b) ∧
  Rps K (fun b => O b ∨ Ps b) H ws args ∧ Ow K (fun b => O b ∨ Ps b) Ps H 1 (.ref a) dob fp ∧ fp.Nodup ∧ match f dob args with
    | some (.ok r) => ∀ H' v Pn fp', SameB ⟨H, Ps, none⟩ H' → (∀ b, Pn b → (Ps b ∨ H b = none) ∧ Mok H' b) → Ow K (fun b => O b ∨ Pn b) Pn H' 1 (.ref a) r.2 fp' → fp'.Nodup → Rp K (fun b => O b ∨ Pn b) H' v r.1 → Q v H'
    | some (.error c) => ∀ H', SameB ⟨H, Ps, none⟩ H' → E (cv c) none H'
    | none => False
structure MkOk (P : Program) (w : World) (K : PySem.W.Frag) (mg : Str → Option Value) (base : Heap) (cv : Str → Value) (lvl : Nat) (p : MkI) : Prop where
  ex : ∃ C g fd ps j, ps.length = p.np + 1 ∧ PySem.W.nsIn K mainGlobals p.c = some (some (.ref C)) ∧ j + 1 ≤ lvl ∧ FnOk P w K mg base (L2N.CX P w) j g fd ps (spM K cv p.np p.f) ∧ Binds K fd ps [] ∧ Cls K C ∧
    (p.m = "__init__" → mg p.c = some (.ref C) ∧ Mk K C g) ∧ (p.m ≠ "__init__" → Meth K C p.m g)
structure MtOk (P : Program) (w : World) (K : PySem.W.Frag) (mg : Str → Option Value) (base : Heap) (cv : Str → Value) (lvl : Nat) (p : MtI) : Prop where
  ex : ∃ C g fd ps, ps.length = p.np + 1 ∧ PySem.W.nsIn K mainGlobals p.c = some (some (.ref C)) ∧ FnOk P w K mg base (L2N.CX P w) lvl g fd ps (spD K cv (p.np + 1) p.f) ∧ Binds K fd ps [] ∧ Cls K C ∧ Meth K C p.m g
structure ClOk (K : PySem.W.Frag) (p : Str × List Str) : Prop where
  ex : ∃ C, PySem.W.nsIn K mainGlobals p.1 = some (some (.ref C)) ∧ Cls K C ∧ ∀ f ∈ p.2, NoAttr K C f
structure OkX (Γ : G) (cv : Str → Value) (lvl : Nat) (X : Cx) (W : WX) : Prop where
  calm : X.calm = true
  nd : X.N.Nodup
  nN : X.N = Γ.N
  tk : L2N.Takes X W
  room : Room lvl X.A
  fns : ∀ (i : Nat) (p : FnI), Γ.fns[i]? = some p → ∃ f fd ps, ps.length = p.np ∧ X.mg p.name = some (.ref f) ∧ PySem.W.keepIn X.K (.ref f) = true ∧ FnOk X.prog X.w X.K X.mg X.base (L2N.CX X.prog X.w) lvl f fd ps (spD X.K cv p.np p.f) ∧ Binds X.K fd ps []
  gls : ∀ (i : Nat) (p : Str × D), Γ.gls[i]? = some p → ∃ u v, X.mg p.1 = some u ∧ RelV v u ∧ ∀ O H, Rp X.K O H v p.2
  blt : ∀ x ∈ bltNames, X.mg x = none
  cls : ∀ p ∈ Γ.cls, ClOk X.K p
  mts : ∀ (i : Nat) (p : MtI), Γ.mts[i]? = some p → MtOk X.prog X.w X.K X.mg X.base cv lvl p
  mks : ∀ (i : Nat) (p : MkI), Γ.mks[i]? = some p → MkOk X.prog X.w X.K X.mg X.base cv lvl p
  mfs : ∀ (i : Nat) (p : Str × Mfn), Γ.mfs[i]? = some p → X.mg p.1 = some (.builtin p.2.id)
abbrev Wf : WX := fun _ _ _ _ => False
theorem OkX.blk {Γ : G} {cv : Str → Value} {lvl : Nat} {X : Cx} {W : WX} (ok : OkX Γ cv lvl X W) (s : Shared) (H : Hp) (scope : Scope) (C : Addr) (cl : List (Str × Addr)) (fp : List Addr) : OkX Γ cv lvl (X.blk s H scope (compEnvC scope cl C X.env) fp) Wf :=
  ⟨ok.calm, ok.nd, ok.nN, (fun _ _ ⟨_, _, _, _, _, _, _, _, _, _, _, _, _, _, _, _, z⟩ => z.elim), ok.room, ok.fns, ok.gls, ok.blt, ok.cls, ok.mts, ok.mks, ok.mfs⟩
theorem blk_loc {X : Cx} {s : Shared} {H : Hp} {scope : Scope} {C : Addr} {cl : List (Str × Addr)} {fp : List Addr} (x : Str) (h : locB scope x = true) :
    Loc (X.blk s H scope (compEnvC scope cl C X.env) fp).env.scope x ∧ ((X.blk s H scope (compEnvC scope cl C X.env) fp).fn x = true ∨ (X.blk s H scope (compEnvC scope cl C X.env) fp).env.scope.names.lookup x = some .local) := by
  rcases loc_of h with e | e
  · have q : (relS scope X.env.scope).names.lookup x = some .local := lookup_relS_keep (by decide) e
    exact ⟨.inl q, .inr q⟩
  · have q : (relS scope X.env.scope).names.lookup x = some .cell := lookup_relS_keep (by decide) e
    refine ⟨.inr q, .inl ?_⟩
    show (scope.names.lookup x == some .cell) = true
    rw [e]; rfl

/-! ### what is walked -/
structure En (K : PySem.W.Frag) (O₀ : Addr → Prop) (H1 : Hp) (J : It) (ds : List D) : Prop where
  go : ∀ (O : Addr → Prop), (∀ a, O a → O₀ a ∨ H1 a = none) → ∀ H i, Stay K O H1 H → i < ds.length → J.go i H
  yld : ∀ (O : Addr → Prop), (∀ a, O a → O₀ a ∨ H1 a = none) → ∀ H i d x H', Stay K O H1 H → ds[i]? = some d → J.yld i H x H' → Same H H' ∧ Rp K O H' x d
  stop : ∀ (O : Addr → Prop), (∀ a, O a → O₀ a ∨ H1 a = none) → ∀ H, Stay K O H1 H → J.stop ds.length H
def tI (K : PySem.W.Frag) (cv : Str → Value) (W : WX) (f : Env → M (List D)) : TI := fun σ H R => ∃ O ρ, EnvR K O H σ ρ ∧ GoG (fun H1 J ds => En K O H1 J ds) (Wc cv W σ) H R (f ρ)
section
variable {K : PySem.W.Frag} {O : Addr → Prop} {H1 : Hp}
theorem en_list {a : Addr} {xs : List V} {ds : List D} (h : ∀ (O' : Addr → Prop), (∀ a, O' a → O a ∨ H1 a = none) → ∀ H, Stay K O' H1 H → SqL K H a xs) (r : Rps K O H1 xs ds) : En K O H1 (Itl K a) ds := by
  refine ⟨fun O' o H i s hi => ?_, fun O' o H i d x H' s hd y => ?_, fun O' o H s => ⟨xs, h O' o H s, by rw [r.length]; exact Nat.le_refl _⟩⟩
  · obtain ⟨v, h1, _⟩ := r.get (List.getElem?_eq_getElem hi)
    exact ⟨xs, v, h O' o H s, h1⟩
  · obtain ⟨v, h1, h2⟩ := r.get hd
    obtain ⟨e, y⟩ := y
    have := y xs (h O' o H s)
    rw [h1] at this
    cases this
    subst e
    exact ⟨Same.refl _, (h2.more o).stay s⟩
theorem en_tup {a : Addr} {xs : List V} {ds : List D} (h : SqT K H1 a xs) (r : Rps K O H1 xs ds) : En K O H1 (Itt K a) ds := by
  refine ⟨fun O' o H i s hi => ?_, fun O' o H i d x H' s hd y => ?_, fun O' o H s => ⟨xs, s.t _ _ h, by rw [r.length]; exact Nat.le_refl _⟩⟩
  · obtain ⟨v, h1, _⟩ := r.get (List.getElem?_eq_getElem hi)
    exact ⟨xs, v, s.t _ _ h, h1⟩
  · obtain ⟨v, h1, h2⟩ := r.get hd
    obtain ⟨e, y⟩ := y
    have := y xs (s.t _ _ h)
    rw [h1] at this
    cases this
    subst e
    exact ⟨Same.refl _, (h2.more o).stay s⟩
theorem rngL_len (lo : Int) (n : Nat) : (rngL lo n).length = n := by unfold rngL; rw [List.length_map, List.length_range]
theorem en_rng {lo : Int} {n : Nat} : En K O H1 (Itr lo n) (rngL lo n) := by
  refine ⟨fun O' o H i s hi => by rw [rngL_len] at hi; exact hi, fun O' o H i d x H' s hd y => ?_, fun O' o H s => by rw [rngL_len]; exact Nat.le_refl _⟩
  obtain ⟨e, y⟩ := y
  subst y
  unfold rngL at hd
  rw [List.getElem?_map] at hd
  cases h : (List.range n)[i]? with
  | none => rw [h] at hd; cases hd
  | some j =>
    rw [h] at hd
    have := List.getElem?_eq_some_iff.mp h
    obtain ⟨h1, h2⟩ := this
    rw [List.getElem_range] at h2
    subst h2
    cases hd
    subst e
    exact ⟨Same.refl _, .int _⟩
end

theorem GoG.wk {α β : Type} {R : Hp → β → α → Prop} {W : Hp → Str → Prop} {H : Hp} {Q Q' : β → Hp → Prop} {m : M α} (g : GoG R W H Q m) (h : ∀ v H', Q v H' → Q' v H') : GoG R W H Q' m := by
  cases m with
  | none => exact g
  | some r => cases r with
    | ok a => exact fun H' v s r => h _ _ (g H' v s r)
    | error c => exact g
theorem wipe_wipe (σ : L2.St) (vs : List Nat) : wipe (wipe σ vs) vs = wipe σ vs := by
  apply List.ext_getElem?
  intro j
  rw [wipe_get, wipe_get]
  by_cases hj : j ∈ vs
  · rw [if_pos hj, if_pos hj, Option.map_map]; cases σ[j]? <;> rfl
  · rw [if_neg hj, if_neg hj]
theorem wipeE_get (ρ : Env) (i : Nat) (d : D) : ∀ vs : List Nat, (wipeE ρ vs)[i]? = some (some d) → ρ[i]? = some (some d) ∧ i ∉ vs
  | [], h => ⟨h, by simp⟩
  | v :: vs, h => by
    have h' : ((wipeE ρ vs).set v none)[i]? = some (some d) := h
    by_cases e : v = i
    · subst e
      by_cases hl : v < (wipeE ρ vs).length
      · rw [List.getElem?_set_self hl] at h'; cases h'
      · rw [List.getElem?_eq_none (by rw [List.length_set]; omega)] at h'; cases h'
    · rw [List.getElem?_set_ne e] at h'
      obtain ⟨h1, h2⟩ := wipeE_get ρ i d vs h'
      exact ⟨h1, fun z => by rcases List.mem_cons.mp z with z | z; exact e z.symm; exact h2 z⟩
theorem wipeE_len (ρ : Env) : ∀ vs : List Nat, (wipeE ρ vs).length = ρ.length
  | [] => rfl
  | v :: vs => by
    show ((wipeE ρ vs).set v none).length = _
    rw [List.length_set, wipeE_len ρ vs]
theorem EnvR.wipe {K : PySem.W.Frag} {O : Addr → Prop} {H : Hp} {σ : L2.St} {ρ : Env} (e : EnvR K O H σ ρ) (vs : List Nat) : EnvR K O H (L2.wipe σ vs) (wipeE ρ vs) := by
  refine ⟨by rw [wipe_length, wipeE_len]; exact e.len, e.dom, fun i d h => ?_⟩
  obtain ⟨h1, h2⟩ := wipeE_get ρ i d vs h
  obtain ⟨v, h3, h4⟩ := e.at' i d h1
  exact ⟨v, by rw [wipe_get, if_neg h2]; exact h3, h4⟩
theorem EnvR.more {K : PySem.W.Frag} {O O' : Addr → Prop} {H : Hp} {σ : L2.St} {ρ : Env} (e : EnvR K O H σ ρ) (s : ∀ a, O' a → O a ∨ H a = none) {H' : Hp} (t : Same H H') (dom : ∀ a, O' a → ∃ o, H' a = some o) : EnvR K O' H' σ ρ :=
  ⟨e.len, dom, fun i d h => let ⟨v, h1, h2⟩ := e.at' i d h; ⟨v, h1, (h2.more s).mono t⟩⟩

section
variable {X : Cx} {Γ : G} {cv : Str → Value} {lvl : Nat} {W : WX}
theorem noSet_ok {e : Expr} (h : noSet e = true) (env : PySem.Env) : ∀ x, foldedSetIterable e env x = pure x := by
  intro x
  cases e <;> first | rfl | (cases h)
theorem val_of {α : Type} {m : M α} {a : α} (h : val? m = some a) : m = some (.ok a) := by
  unfold val? at h
  split at h
  · cases h; rfl
  · cases h
theorem lc_w {K : PySem.W.Frag} {own : List (Str × Nat)} {p : Pt} {fI : Env → M (List D)} {fi : Env → M Bool} {fe : Env → M D} (hsl : ∀ i ∈ p.slots, i ∈ own.map (·.2)) {σ : L2.St} {H : Hp} {Q : VK}
    (h : tD K cv W (lcF p own fI fi fe) σ H Q) : tLc (tI K cv W fI) (gP K p) (tB K cv Wf fi) (tD K cv Wf fe) (own.map (·.2)) σ H Q := by
  obtain ⟨O, ρ, env, g⟩ := h
  refine ⟨O, ρ, env, ?_⟩
  refine GoG.wk (GoG.bndE (R := fun H1 J ds => En K O H1 J ds) g) fun J H1 hh D hD => ?_
  obtain ⟨items, s1, en, g2⟩ := hh
  by_cases hz : items.length ≤ sizeLine
  case neg => rw [if_neg hz] at g2; exact g2.elim
  rw [if_pos hz] at g2
  cases hy : turns (turnF p own fi fe ρ) items with
  | none => rw [hy] at g2; exact g2.elim
  | some ys =>
    rw [hy] at g2
    have g2 : ∀ H' v, Same H1 H' → Rp K O H' v (.lst ys) → Q v H' := g2
    have nOD : ¬ O D := fun z => by
      obtain ⟨o, e⟩ := env.dom D z
      rw [s1 _ _ e] at hD; cases hD
    have sD : ∀ {H3 : Hp}, Same (upd H1 D (.lst [])) H3 → Same H1 H3 := fun s => (same_new hD _).trans s
    let O' : Addr → Prop := fun a => O a ∨ a = D
    let Pv : Nat → Hp → Prop := fun i H3 => ∃ acc zs rest, H3 D = some (.lst acc) ∧ Same H1 H3 ∧ Rps K O' H3 acc zs ∧ turns (turnF p own fi fe ρ) (items.drop i) = some rest ∧ zs ++ rest = ys ∧ acc.length ≤ i
    refine ⟨fun i m H3 => m = items.length - i ∧ i ≤ items.length ∧ Pv i H3, ⟨items.length, by simp, Nat.zero_le _, [], [], ys, upd_same, same_new hD _, .nil, hy, rfl, Nat.le_refl _⟩, ?_⟩
    rintro i m H3 ⟨rfl, hi, acc, zs, rest, hacc, s3, rz, hr, hys, hl⟩
    by_cases hlt : i < items.length
    · refine .inr ⟨en.go O (fun _ z => .inl z) H3 i (.of s3) hlt, Pv (i + 1), fun H' p' => ⟨items.length - (i + 1), by omega, rfl, hlt, p'⟩, fun x H' y => ?_⟩
      have oO : ∀ a, O' a → O a ∨ H1 a = none := fun a z => z.elim .inl fun z => .inr (z ▸ hD)
      obtain ⟨sy, rx⟩ := en.yld O' oO H3 i items[i] x H' (.of s3) (List.getElem?_eq_getElem hlt) y
      replace s3 := s3.trans sy
      replace hacc := sy _ _ hacc
      replace rz := rz.mono sy
      rw [List.drop_eq_getElem_cons hlt] at hr
      unfold turns at hr
      cases hp : pat p items[i] with
      | none => simp only [turnF, hp] at hr; cases hr
      | some l =>
        have dom' : ∀ a, O' a → ∃ o, H' a = some o := fun a z => z.elim (fun z => let ⟨o, e⟩ := env.dom a z; ⟨o, s3 _ _ (s1 _ _ e)⟩) fun z => ⟨_, z ▸ hacc⟩
        have env' : EnvR K O' H' σ ρ := (env.mono s1).more oO s3 dom'
        simp only [turnF, hp] at hr
        refine ⟨O', items[i], l, rx, hp, fun vl bd => ⟨(wipe_setV fun q hq => hsl _ ?_).trans (wipe_wipe σ _), ?_⟩⟩
        · rw [← pat_slots p _ l hp, ← bd.fst]
          exact List.mem_map.mpr ⟨q, hq, rfl⟩
        have env2 := EnvR.setB bd (env'.wipe (own.map (·.2)))
        cases hv : val? (fi (setE (wipeE ρ (own.map (·.2))) l)) with
        | none => rw [hv] at hr; cases hr
        | some b =>
          rw [hv] at hr
          refine tB.of env2 ?_
          rw [val_of hv]
          intro H4 b' s4 eb
          subst eb
          cases b' with
          | false =>
            exact ⟨acc, zs, rest, s4 _ _ hacc, s3.trans s4, rz.mono s4, hr, hys, Nat.le_succ_of_le hl⟩
          | true =>
            cases hw : val? (fe (setE (wipeE ρ (own.map (·.2))) l)) with
            | none => rw [hw] at hr; cases hr
            | some y =>
              rw [hw] at hr
              simp only [Option.map_some] at hr
              refine tD.of (env2.mono s4) ?_
              rw [val_of hw]
              intro H5 v s5 rv
              have h5 : H5 D = some (.lst acc) := s5 _ _ (s4 _ _ hacc)
              refine ⟨acc, h5, by omega, acc ++ [v], zs ++ [y], ?_⟩
              cases hq : turns (turnF p own fi fe ρ) (items.drop (i + 1)) with
              | none => rw [hq] at hr; cases hr
              | some r2 =>
                rw [hq] at hr
                cases hr
                refine ⟨r2, upd_same, fun b o e => ?_, ?_, rfl, by rw [← hys]; simp, by rw [List.length_append]; exact Nat.succ_le_succ hl⟩
                · rw [upd_ne (ne_of_none e hD)]
                  exact s5 _ _ (s4 _ _ (s3 _ _ e))
                · exact ((rz.mono (s4.trans s5)).append (.cons rv .nil)).wr h5 (.inr rfl)
    · have e : i = items.length := by omega
      subst e
      rw [List.drop_length] at hr
      cases hr
      rw [List.append_nil] at hys
      subst hys
      exact .inl ⟨en.stop O (fun _ z => .inl z) H3 (.of s3), g2 H3 _ s3 (.lst hacc nOD (rz.less fun a z => .inl z))⟩
theorem lc_ok (ok : OkX Γ cv lvl X W) {elt tg iter : Expr} {ifs : List Expr} {scope : Scope} {own : List (Str × Nat)} {pos : Pos} {p : Pt} {fI : Env → M (List D)} {fi : Env → M Bool} {fe : Env → M D}
    (hi : PI X tg iter (tI X.K cv W fI)) (bok : BlkOk X.N X.env.scope scope own)
    (hg : ∀ (s : Shared) (H : Hp) (C : Addr) (cl : List (Str × Addr)) (fp : List Addr), PG (X.blk s H scope (compEnvC scope cl C X.env) fp) tg (gP X.K p))
    (ht : ∀ (s : Shared) (H : Hp) (C : Addr) (cl : List (Str × Addr)) (fp : List Addr), PTs (X.blk s H scope (compEnvC scope cl C X.env) fp) ifs (tB X.K cv Wf fi))
    (he : ∀ (s : Shared) (H : Hp) (C : Addr) (cl : List (Str × Addr)) (fp : List Addr), PE (X.blk s H scope (compEnvC scope cl C X.env) fp) elt (tD X.K cv Wf fe))
    (hsl : ∀ i ∈ p.slots, i ∈ own.map (·.2)) (hns : noSet iter = true) :
    PE X (.ListComp elt [⟨tg, iter, ifs, 0⟩] scope pos) (tD X.K cv W (lcF p own fI fi fe)) :=
  PE.weak (pe_lc ok.calm ok.nd hi bok hg ht he (noSet_ok hns X.env)) fun σ H Q h => lc_w hsl h
end
end DE
set_option linter.all false
set_option maxRecDepth 100000
set_option maxHeartbeats 4000000
namespace DE
open PySem PySem.Spec PyProof.Rows L2
section
variable {X : Cx} {Γ : G} {cv : Str → Value} {lvl : Nat} {W : WX}
theorem stE {e : Expr} (h : noStar e = true) (es : List Expr) (env : PySem.Env) : starEach (e :: es) env = (false, eval e env) :: starEach es env := by
  cases e <;> first | rfl | (cases h)
theorem stAny {pos : Pos} {env : PySem.Env} : ∀ {es : List Expr}, (∀ e ∈ es, noStar e = true) → (backTo pos (starEach es env)).any (·.1) = false
  | [], _ => rfl
  | e :: es, h => by
    rw [stE (h e List.mem_cons_self)]
    exact stAny (es := es) fun e he => h e (List.mem_cons_of_mem _ he)
section
variable {a b c e : Expr} {pos : Pos} {fa fb fc : Env → M D}
theorem s_bin {op : Operator} (ha : PE X a (tD X.K cv W fa)) (hb : PE X b (tD X.K cv W fb)) : PE X (.BinOp a op b pos) (tD X.K cv W fun ρ => bnd (fa ρ) fun x => bnd (fb ρ) fun y => lft (binD op x y)) :=
  PE.weak (pe_op (bin_ok op) ha hb) fun σ H Q ⟨O, ρ, env, g⟩ =>
    tD.of env ((GoG.bndE (R := Rp X.K O) g).wk fun x H1 ⟨a, s1, ra, g1⟩ => tD.of (env.mono s1) ((GoG.bndE (R := Rp X.K O) g1).wk fun y H2 ⟨b, s2, rb, g2⟩ =>
      let ⟨d, e, q⟩ := g2.lftE
      ⟨O, a, b, d, (env.mono (s1.trans s2)).dom, ra.mono s2, rb, e, q⟩))
theorem s_cmp0 (hr : Room lvl X.A) {op : CmpOp} (hm : behindInMarks op b = false) (ha : PE X a (tD X.K cv W fa)) (hb : PE X b (tD X.K cv W fb)) : PE X (.Compare a [op] [b] pos) (tD X.K cv W fun ρ => bnd (fa ρ) fun x => bnd (fb ρ) fun y => lft (cmpD op x y)) :=
  PE.weak (pe_cmpR (cmp_ok hr op) ha hb hm) fun σ H Q ⟨O, ρ, env, g⟩ =>
    tD.of env ((GoG.bndE (R := Rp X.K O) g).wk fun x H1 ⟨a, s1, ra, g1⟩ => tD.of (env.mono s1) ((GoG.bndE (R := Rp X.K O) g1).wk fun y H2 ⟨b, s2, rb, g2⟩ =>
      let ⟨d, e, q⟩ := g2.lftE
      ⟨O, a, b, d, (env.mono (s1.trans s2)).dom, ra.mono s2, rb, e, q⟩))
theorem cmp_bl {op : CmpOp} {x y d : D} (h : cmpD op x y = some d) : ∃ c, d = .bl c := by
  unfold cmpD at h
  split at h <;> first | (cases h; exact ⟨_, rfl⟩) | (split at h <;> first | (cases h; exact ⟨_, rfl⟩) | cases h) | cases h
theorem tru_bl (c : Bool) : truD (.bl c) = some c := rfl
theorem t_cmp0 (hr : Room lvl X.A) {op : CmpOp} (hm : behindInMarks op b = false) (ha : PE X a (tD X.K cv W fa)) (hb : PE X b (tD X.K cv W fb)) : PT X (.Compare a [op] [b] pos) (tB X.K cv W fun ρ => tru (bnd (fa ρ) fun x => bnd (fb ρ) fun y => lft (cmpD op x y))) := by
  refine PT.weak (pt_cmpR (cmp_ok hr op) ha hb hm) fun σ H Q ⟨O, ρ, env, g⟩ => ?_
  try dsimp only at g
  cases e1 : fa ρ with
  | none => rw [e1] at g; exact g.elim
  | some r1 => cases r1 with
    | error c => rw [e1] at g; exact tD.of env (by rw [e1]; exact g)
    | ok x =>
      refine tD.of env ?_
      rw [e1] at g ⊢
      intro H1 v1 s1 rx
      cases e2 : fb ρ with
      | none => rw [bnd_ok, e2] at g; exact g.elim
      | some r2 => cases r2 with
        | error c =>
          rw [bnd_ok, e2] at g
          refine tD.of (env.mono s1) ?_
          rw [e2]
          exact fun H2 s2 => g H2 (s1.trans s2)
        | ok y =>
          rw [bnd_ok, e2, bnd_ok] at g
          refine tD.of (env.mono s1) ?_
          rw [e2]
          intro H2 v2 s2 ry
          cases e3 : cmpD op x y with
          | none => rw [e3] at g; exact g.elim
          | some d =>
            obtain ⟨c, rfl⟩ := cmp_bl e3
            rw [e3] at g
            refine ⟨O, x, y, .bl c, (env.mono (s1.trans s2)).dom, rx.mono s2, ry, e3, fun H3 v3 s3 r3 => ?_⟩
            cases r3
            exact ⟨c, rfl, g H3 c (s1.trans (s2.trans s3)) rfl⟩
theorem t_val (ha : PE X a (tD X.K cv W fa)) (he : ∀ whole, isTrue a X.env whole = (do let v ← whole; standAt a.pos; holding [v] (truthy v))) : PT X a (tB X.K cv W fun ρ => tru (fa ρ)) :=
  PT.weak (pt_truth ha he) fun σ H Q ⟨O, ρ, env, g⟩ =>
    tD.of env ((GoG.bndE (R := Rp X.K O) g).wk fun x H1 ⟨d, s1, rd, g1⟩ =>
      let ⟨c, e, q⟩ := g1.lftE
      ⟨c, tru_v rd e, q H1 c (Same.refl _) rfl⟩)
theorem s_neg (ha : PE X a (tD X.K cv W fa)) : PE X (.UnaryOp .USub a pos) (tD X.K cv W fun ρ => bnd (fa ρ) fun x => lft (negD x)) :=
  PE.weak (pe_un un_neg ha) fun σ H Q ⟨O, ρ, env, g⟩ =>
    tD.of env ((GoG.bndE (R := Rp X.K O) g).wk fun x H1 ⟨d, s1, rd, g1⟩ => by
      obtain ⟨c, e, q⟩ := g1.lftE
      cases rd <;> first | (cases e; exact ⟨_, rfl, q _ _ (Same.refl _) (.int _)⟩) | cases e)
theorem s_nt (ha : PE X a (tD X.K cv W fa)) : PE X (.UnaryOp .Not a pos) (tD X.K cv W fun ρ => bnd (tru (fa ρ)) fun c => some (.ok (.bl (!c)))) := by
  refine PE.weak (pe_notT ha) fun σ H Q ⟨O, ρ, env, g⟩ => tD.of env ?_
  try dsimp only at g
  cases e1 : fa ρ with
  | none => rw [e1] at g; exact g
  | some r1 => cases r1 with
    | error c => rw [e1] at g; exact g
    | ok x =>
      rw [e1] at g
      intro H1 v s1 rv
      cases e2 : truD x with
      | none => simp only [tru, bnd_ok, e2, lft, bnd_no] at g; exact g.elim
      | some c =>
        simp only [tru, bnd_ok, e2, lft] at g
        exact ⟨c, tru_v rv e2, g H1 _ s1 (.bl _)⟩
theorem t_nt (ha : PT X a (tB X.K cv W fun ρ => tru (fa ρ))) : PT X (.UnaryOp .Not a pos) (tB X.K cv W fun ρ => tru (bnd (tru (fa ρ)) fun c => some (.ok (.bl (!c))))) := by
  refine PT.weak (pt_not ha) fun σ H Q ⟨O, ρ, env, g⟩ => tB.of env ?_
  try dsimp only at g
  cases e1 : tru (fa ρ) with
  | none => rw [e1] at g; exact g
  | some r1 => cases r1 with
    | error c => rw [e1] at g; exact g
    | ok x =>
      rw [e1] at g
      intro H1 v s1 rv
      subst rv
      exact g H1 _ s1 rfl
abbrev fAnd (fa fb : Env → M D) : Env → M D := fun ρ => bnd (fa ρ) fun x => bnd (lft (truD x)) fun c => if c = true then fb ρ else some (.ok x)
abbrev fOr (fa fb : Env → M D) : Env → M D := fun ρ => bnd (fa ρ) fun x => bnd (lft (truD x)) fun c => if c = true then some (.ok x) else fb ρ
theorem s_and {es : List Expr} (ha : PE X a (tD X.K cv W fa)) (hb : PE X (.BoolOp .And (b :: es) pos) (tD X.K cv W fb)) : PE X (.BoolOp .And (a :: b :: es) pos) (tD X.K cv W (fAnd fa fb)) :=
  PE.weak (pe_andT ha hb) fun σ H Q ⟨O, ρ, env, g⟩ =>
    tD.of env ((GoG.bndE (R := Rp X.K O) g).wk fun x H1 ⟨d, s1, rd, g1⟩ => by
      cases e2 : truD d with
      | none => rw [e2] at g1; exact g1.elim
      | some c =>
        rw [e2] at g1
        refine ⟨c, tru_v rd e2, ?_⟩
        cases c with
        | true => exact tD.of (env.mono s1) g1
        | false => exact g1 H1 x (Same.refl _) rd)
theorem s_or {es : List Expr} (ha : PE X a (tD X.K cv W fa)) (hb : PE X (.BoolOp .Or (b :: es) pos) (tD X.K cv W fb)) : PE X (.BoolOp .Or (a :: b :: es) pos) (tD X.K cv W (fOr fa fb)) :=
  PE.weak (pe_orT ha hb) fun σ H Q ⟨O, ρ, env, g⟩ =>
    tD.of env ((GoG.bndE (R := Rp X.K O) g).wk fun x H1 ⟨d, s1, rd, g1⟩ => by
      cases e2 : truD d with
      | none => rw [e2] at g1; exact g1.elim
      | some c =>
        rw [e2] at g1
        refine ⟨c, tru_v rd e2, ?_⟩
        cases c with
        | true => exact g1 H1 x (Same.refl _) rd
        | false => exact tD.of (env.mono s1) g1)
theorem t_and {es : List Expr} (ha : PT X a (tB X.K cv W fun ρ => tru (fa ρ))) (hb : PW X (.BoolOp .And (b :: es) pos) (tB X.K cv W fun ρ => tru (fb ρ))) : PW X (.BoolOp .And (a :: b :: es) pos) (tB X.K cv W fun ρ => tru (fAnd fa fb ρ)) := by
  refine PW.weak (pw_and ha hb) fun σ H Q ⟨O, ρ, env, g⟩ => tB.of env ?_
  try dsimp only at g
  cases e1 : fa ρ with
  | none => simp only [fAnd, e1] at g; exact g
  | some r1 => cases r1 with
    | error c => simp only [fAnd, e1] at g; exact g
    | ok x =>
      simp only [fAnd, e1, bnd_ok] at g
      cases e2 : truD x with
      | none => rw [e2] at g; exact g.elim
      | some c =>
        simp only [tru, bnd_ok, e2, lft] at g ⊢
        intro H1 v s1 rv
        subst rv
        cases v with
        | true => exact tB.of (env.mono s1) (GoG.mono s1 g)
        | false =>
          rw [if_neg Bool.false_ne_true, bnd_ok, e2] at g
          exact g H1 false s1 rfl
theorem t_or {es : List Expr} (ha : PT X a (tB X.K cv W fun ρ => tru (fa ρ))) (hb : PW X (.BoolOp .Or (b :: es) pos) (tB X.K cv W fun ρ => tru (fb ρ))) : PW X (.BoolOp .Or (a :: b :: es) pos) (tB X.K cv W fun ρ => tru (fOr fa fb ρ)) := by
  refine PW.weak (pw_or ha hb) fun σ H Q ⟨O, ρ, env, g⟩ => tB.of env ?_
  try dsimp only at g
  cases e1 : fa ρ with
  | none => simp only [fOr, e1] at g; exact g
  | some r1 => cases r1 with
    | error c => simp only [fOr, e1] at g; exact g
    | ok x =>
      simp only [fOr, e1, bnd_ok] at g
      cases e2 : truD x with
      | none => rw [e2] at g; exact g.elim
      | some c =>
        simp only [tru, bnd_ok, e2, lft] at g ⊢
        intro H1 v s1 rv
        subst rv
        cases v with
        | false => exact tB.of (env.mono s1) (GoG.mono s1 g)
        | true =>
          rw [if_pos rfl, bnd_ok, e2] at g
          exact g H1 true s1 rfl
theorem s_ite (hc : PT X c (tB X.K cv W fun ρ => tru (fc ρ))) (ha : PE X a (tD X.K cv W fa)) (hb : PE X b (tD X.K cv W fb)) : PE X (.IfExp c a b pos) (tD X.K cv W fun ρ => bnd (tru (fc ρ)) fun k => if k = true then fa ρ else fb ρ) :=
  PE.weak (pe_ifExp hc ha hb) fun σ H Q ⟨O, ρ, env, g⟩ =>
    tB.of env ((GoG.bndE (R := fun (_ : Hp) (b b' : Bool) => b = b') g).wk fun x H1 ⟨d, s1, rd, g1⟩ => by
      subst rd
      cases x with
      | true => exact tD.of (env.mono s1) g1
      | false => exact tD.of (env.mono s1) g1)
abbrev fChain (op op2 : CmpOp) (fa fb fc : Env → M D) : Env → M D := fun ρ => bnd (fa ρ) fun x => bnd (fb ρ) fun y => bnd (lft (cmpD op x y)) fun z => match z with
      | .bl true => bnd (fc ρ) fun w => lft (cmpD op2 y w)
      | .bl false => some (.ok (.bl false))
      | _ => none
theorem chain_w {op op2 : CmpOp} {K : PySem.W.Frag} {σ : L2.St} {H : Hp} {Q : VK} (h : tD K cv W (fChain op op2 fa fb fc) σ H Q) : tChain (rD2' K (cmpD op)) (rD2' K (cmpD op2)) (tD K cv W fa) (tD K cv W fb) (tD K cv W fc) σ H Q := by
  obtain ⟨O, ρ, env, g⟩ := h
  refine tD.of env ((GoG.bndE (R := Rp K O) g).wk fun x H1 ⟨a, s1, ra, g1⟩ => tD.of (env.mono s1) ((GoG.bndE (R := Rp K O) g1).wk fun y H2 ⟨b, s2, rb, g2⟩ => ?_))
  cases e3 : cmpD op a b with
  | none => rw [e3] at g2; exact g2.elim
  | some d =>
    obtain ⟨k, rfl⟩ := cmp_bl e3
    refine ⟨O, a, b, .bl k, (env.mono (s1.trans s2)).dom, ra.mono s2, rb, e3, fun H3 v3 s3 r3 => ?_⟩
    rw [e3] at g2
    cases r3
    refine ⟨k, rfl, ?_⟩
    cases k with
    | false => exact g2 H3 _ s3 (.bl _)
    | true =>
      have g2 : Go K cv W O σ H2 Q (bnd (fc ρ) fun w => lft (cmpD op2 b w)) := g2
      exact tD.of (env.mono (s1.trans (s2.trans s3))) ((GoG.bndE (R := Rp K O) (GoG.mono s3 g2)).wk fun z H4 ⟨w, s4, rw', g4⟩ =>
        let ⟨d, e, q⟩ := g4.lftE
        ⟨O, b, w, d, (env.mono (s1.trans (s2.trans (s3.trans s4)))).dom, rb.mono (s3.trans s4), rw', e, q⟩)
theorem s_cmp2 (hr : Room lvl X.A) {op op2 : CmpOp} (hm : lastMarks [op, op2] [b, c] = false) (ha : PE X a (tD X.K cv W fa)) (hb : PE X b (tD X.K cv W fb)) (hc : PE X c (tD X.K cv W fc)) : PE X (.Compare a [op, op2] [b, c] pos)
    (tD X.K cv W (fChain op op2 fa fb fc)) :=
  PE.weak (pe_chain (cmp_ok hr op) (cmp_ok hr op2) ha hb hc hm) fun σ H Q h => chain_w h
theorem tB_bl {K : PySem.W.Frag} {f : Env → M D} (hf : ∀ ρ d, f ρ = some (.ok d) → ∃ k, d = .bl k) {σ : L2.St} {H : Hp} {Q : Bool → Hp → Prop} (h : tB K cv W (fun ρ => tru (f ρ)) σ H Q) : tD K cv W f σ H (fun x H' => ∃ k, x = .bl k ∧ Q k H') := by
  obtain ⟨O, ρ, env, g⟩ := h
  refine tD.of env ?_
  cases e : f ρ with
  | none => simp only [tru, e] at g; exact g
  | some r => cases r with
    | error c => simp only [tru, e] at g; exact g
    | ok d =>
      obtain ⟨k, rfl⟩ := hf ρ d e
      simp only [tru, e] at g
      intro H' v s r
      cases r
      exact ⟨k, rfl, g H' k s rfl⟩
theorem chain_bl {op op2 : CmpOp} {ρ : Env} {d : D} (h : fChain op op2 fa fb fc ρ = some (.ok d)) : ∃ k, d = .bl k := by
  unfold fChain at h
  cases e1 : fa ρ with
  | none => rw [e1] at h; cases h
  | some r => cases r with
    | error c => rw [e1] at h; cases h
    | ok x =>
      rw [e1, bnd_ok] at h
      cases e2 : fb ρ with
      | none => rw [e2] at h; cases h
      | some r => cases r with
        | error c => rw [e2] at h; cases h
        | ok y =>
          rw [e2, bnd_ok] at h
          cases e3 : cmpD op x y with
          | none => rw [e3] at h; cases h
          | some z =>
            obtain ⟨k, rfl⟩ := cmp_bl e3
            rw [e3] at h
            cases k with
            | false => cases h; exact ⟨_, rfl⟩
            | true =>
              have h : bnd (fc ρ) (fun w => lft (cmpD op2 y w)) = some (.ok d) := h
              cases e4 : fc ρ with
              | none => rw [e4] at h; cases h
              | some r => cases r with
                | error c => rw [e4] at h; cases h
                | ok w =>
                  rw [e4, bnd_ok] at h
                  cases e5 : cmpD op2 y w with
                  | none => rw [e5] at h; cases h
                  | some z => rw [e5] at h; cases h; exact cmp_bl e5
theorem t_cmp2 (hr : Room lvl X.A) {op op2 : CmpOp} (hm : lastMarks [op, op2] [b, c] = false) (ha : PE X a (tD X.K cv W fa)) (hb : PE X b (tD X.K cv W fb)) (hc : PE X c (tD X.K cv W fc)) : PT X (.Compare a [op, op2] [b, c] pos)
    (tB X.K cv W fun ρ => tru (fChain op op2 fa fb fc ρ)) :=
  PT.weak (pt_chain (cmp_ok hr op) (cmp_ok hr op2) ha hb hc hm) fun σ H Q h => chain_w (tB_bl (fun ρ d => chain_bl) h)
theorem s_tup {es : List Expr} {k : Nat} {f : Env → M (List D)} (h : PA X es (tA X.K cv W f)) : PE X (.Tuple es k pos) (tD X.K cv W fun ρ => bnd (f ρ) fun ds => if ds.length ≤ sizeLine then some (.ok (.tup ds)) else none) :=
  PE.weak (pe_tup h) fun σ H Q ⟨O, ρ, env, g⟩ =>
    tA.of env ((GoG.bndE (R := Rps X.K O) g).wk fun xs H1 ⟨ds, s1, rs, g1⟩ => by
      by_cases hz : ds.length ≤ sizeLine
      · rw [if_pos hz] at g1
        exact ⟨by rw [rs.length]; exact hz, fun p hp => g1 _ _ (same_new hp _) (new_tup hp rs)⟩
      · rw [if_neg hz] at g1; exact g1.elim)
theorem s_lst {es : List Expr} {f : Env → M (List D)} (h : PA X es (tA X.K cv W f)) : PE X (.List es pos) (tD X.K cv W fun ρ => bnd (f ρ) fun ds => if ds.length ≤ sizeLine then some (.ok (.lst ds)) else none) :=
  PE.weak (pe_lst h) fun σ H Q ⟨O, ρ, env, g⟩ =>
    tA.of env ((GoG.bndE (R := Rps X.K O) g).wk fun xs H1 ⟨ds, s1, rs, g1⟩ => by
      by_cases hz : ds.length ≤ sizeLine
      · rw [if_pos hz] at g1
        exact ⟨by rw [rs.length]; exact hz, fun p hp => g1 _ _ (same_new hp _) (new_lst (env.mono s1).dom hp rs)⟩
      · rw [if_neg hz] at g1; exact g1.elim)
theorem plainIx {b : Expr} (h : noSlice b = true) : PlainIx b := by
  intro o i
  cases b <;> first | rfl | (cases h)
theorem s_idx0 (hs : noSlice b = true) (ha : PE X a (tD X.K cv W fa)) (hb : PE X b (tD X.K cv W fb)) : PE X (.Subscript a b pos) (tD X.K cv W fun ρ => bnd (fa ρ) fun x => bnd (fb ρ) fun y => lft (idxD x y)) :=
  PE.weak (pe_ix ix_ok ha hb (plainIx hs)) fun σ H Q ⟨O, ρ, env, g⟩ =>
    tD.of env ((GoG.bndE (R := Rp X.K O) g).wk fun x H1 ⟨a, s1, ra, g1⟩ => tD.of (env.mono s1) ((GoG.bndE (R := Rp X.K O) g1).wk fun y H2 ⟨b, s2, rb, g2⟩ =>
      let ⟨d, e, q⟩ := g2.lftE
      ⟨O, a, b, d, (env.mono (s1.trans s2)).dom, ra.mono s2, rb, e, q⟩))
theorem kV_of {K : PySem.W.Frag} {O : Addr → Prop} {H : Hp} {v : V} {d : D} {k : Key} (r : Rp K O H v d) (e : keyD d = some k) : v = kV k := by
  cases r <;> first | (cases e; rfl) | (cases e; done)
theorem getK_of {K : PySem.W.Frag} {O : Addr → Prop} {H : Hp} {k : Key} : ∀ {ks : List Key} {xs : List V} {ds : List D}, ks.length = xs.length → Rps K O H xs ds → (∃ v d, valV (ks.zip xs) k = some v ∧ getK ks ds k = some d ∧ Rp K O H v d) ∨ (valV (ks.zip xs) k = none ∧ getK ks ds k = none)
  | [], _, _, _, _ => .inr ⟨by simp [valV], by cases ‹List D› <;> rfl⟩
  | _ :: _, [], _, l, _ => by cases l
  | j :: ks, x :: xs, _, l, .cons (d := d) (ds := ds) h r => by
    by_cases e : j = k
    · exact .inl ⟨x, d, by rw [List.zip_cons_cons, valV_pos e], by unfold getK; rw [if_pos e], h⟩
    · rw [List.zip_cons_cons, valV_neg e]
      unfold getK
      rw [if_neg e]
      exact getK_of (Nat.succ.inj l) r
theorem din_ok {K : PySem.W.Frag} {O : Addr → Prop} {H : Hp} {x : V} {y : V} {ks : List Key} {ds : List D} {d : D} {k : Key} (rd : Rp K O H x (.dK ks ds)) (ry : Rp K O H y d) (ek : keyD d = some k) : ∃ a o, x = .ref a ∧ DGet H a y o ∧ o.isSome = (getK ks ds k).isSome ∧ ∀ e, getK ks ds k = some e → ∃ v, o = some v ∧ Rp K O H v e := by
  cases rd with | @dK a ks xs ds h l n r =>
    have ey := kV_of ry ek
    subst ey
    rcases getK_of (k := k) l r with ⟨v, e, h1, h2, h3⟩ | ⟨h1, h2⟩
    · exact ⟨a, some v, rfl, by rw [← h1]; exact DGet.k h, by rw [h2]; rfl, fun e' q => by rw [h2] at q; cases q; exact ⟨v, rfl, h3⟩⟩
    · exact ⟨a, none, rfl, by rw [← h1]; exact DGet.k h, by rw [h2]; rfl, fun e' q => by rw [h2] at q; cases q⟩
theorem getN_of {K : PySem.W.Frag} {O : Addr → Prop} {H : Hp} {k : NestedKey} : ∀ {es : List NE} {ds : List D}, Rps K O H (es.map (·.2.2)) ds → (∃ v d, getE es k = some v ∧ getN (es.map (·.1)) ds k = some d ∧ Rp K O H v d) ∨ (getE es k = none ∧ getN (es.map (·.1)) ds k = none)
  | [], _, r => .inr ⟨rfl, by cases ‹List D› <;> rfl⟩
  | e :: es, _, .cons (d := d) (ds := ds) h r => by
    by_cases q : e.1 = k
    · exact .inl ⟨e.2.2, d, by simp [getE, List.find?_cons, q], by rw [List.map_cons]; unfold getN; rw [if_pos q], h⟩
    · have ih := getN_of (k := k) r
      have e1 : getE (e :: es) k = getE es k := by simp [getE, List.find?_cons, q]
      rw [e1, List.map_cons]
      unfold getN
      rw [if_neg q]
      exact ih
theorem keyN_of {d : D} {k : NestedKey} (h : keyN d = some k) : kOk k = true ∧ d = kD k := by
  unfold keyN at h
  split at h
  · rename_i k' e
    split at h
    · rename_i ok
      cases h
      exact ⟨ok, nkD_eq e⟩
    · cases h
  · cases h
theorem keyN_rp {K : PySem.W.Frag} {O : Addr → Prop} {H : Hp} {y : V} {d : D} {k : NestedKey} (ry : Rp K O H y d) (ek : keyN d = some k) : ∃ b, y = .ref b ∧ kOk k = true ∧ NkV K H k (.ref b) := by
  obtain ⟨ok, rfl⟩ := keyN_of ek
  have nk := Rp.nk (kOk_n ok) ry
  cases nk with
  | num i => exact absurd ok (by unfold kOk; simp)
  | tup h q => exact ⟨_, rfl, ok, .tup h q⟩
theorem nin_ok {K : PySem.W.Frag} {O : Addr → Prop} {H : Hp} {x : V} {y : V} {ks : List NestedKey} {ds : List D} {d : D} {k : NestedKey} (rd : Rp K O H x (.dT ks ds)) (ry : Rp K O H y d) (ek : keyN d = some k) : ∃ a o, x = .ref a ∧ NGet K H a y o ∧ o.isSome = (getN ks ds k).isSome ∧ ∀ e, getN ks ds k = some e → ∃ v, o = some v ∧ Rp K O H v e := by
  obtain ⟨b, rfl, ok, nk⟩ := keyN_rp ry ek
  cases rd with | @dT a es ks ds h e l n q r =>
    subst e
    rcases getN_of (k := k) r with ⟨v, e, h1, h2, h3⟩ | ⟨h1, h2⟩
    · exact ⟨a, some v, rfl, ⟨es, k, b, h, nks_of l q, ok, rfl, nk, h1.symm⟩, by rw [h2]; rfl, fun e' q => by rw [h2] at q; cases q; exact ⟨v, rfl, h3⟩⟩
    · exact ⟨a, none, rfl, ⟨es, k, b, h, nks_of l q, ok, rfl, nk, h1.symm⟩, by rw [h2]; rfl, fun e' q => by rw [h2] at q; cases q⟩
abbrev IsDc (y : D) : Prop := (∃ ks ds, y = .dK ks ds) ∨ ∃ ks ds, y = .dT ks ds
theorem inA_off {op : CmpOp} {x y : D} (h : ¬ ((op = .In ∨ op = .NotIn) ∧ IsDc y)) : inA op x y = cmpD op x y := by
  unfold inA
  split
  · exact absurd ⟨.inl rfl, .inr ⟨_, _, rfl⟩⟩ h
  · exact absurd ⟨.inr rfl, .inr ⟨_, _, rfl⟩⟩ h
  · exact absurd ⟨.inl rfl, .inl ⟨_, _, rfl⟩⟩ h
  · exact absurd ⟨.inr rfl, .inl ⟨_, _, rfl⟩⟩ h
  · rfl
theorem inM_off {op : CmpOp} {ma mb : M D} (h : ¬ ((op = .In ∨ op = .NotIn) ∧ ∃ y, mb = some (.ok y) ∧ IsDc y)) : (bnd ma fun x => bnd mb fun y => lft (inA op x y)) = bnd ma fun x => bnd mb fun y => lft (cmpD op x y) := by
  cases ma with
  | none => rfl
  | some r => cases r with
    | error c => rfl
    | ok x => cases mb with
      | none => rfl
      | some r => cases r with
        | error c => rfl
        | ok y =>
          rw [bnd_ok, bnd_ok, bnd_ok, bnd_ok, inA_off]
          rintro ⟨h1, h2⟩
          exact h ⟨h1, _, rfl, h2⟩
/-- the answer of a membership in a dict -/
def dcA (op : CmpOp) (o : Option V) : Bool := if op = .In then o.isSome else !o.isSome
/-- membership in a dict: where it stands, and the answer -/
def DcIn (K : PySem.W.Frag) (H : Hp) (t : Bool) (a : Addr) (y : V) (o : Option V) : Prop := if t = true then NGet K H a y o else DGet H a y o
theorem dc_in {K : PySem.W.Frag} {O : Addr → Prop} {H : Hp} {x y : V} {d z r : D} {op : CmpOp} (h1 : op = .In ∨ op = .NotIn) (t : Bool) (hz : if t = true then ∃ ks ds, z = .dT ks ds else ∃ ks ds, z = .dK ks ds) (rx : Rp K O H x z) (ry : Rp K O H y d) (er : inA op d z = some r) : ∃ a o, x = .ref a ∧ DcIn K H t a y o ∧ r = .bl (dcA op o) := by
  cases t with
  | false =>
    obtain ⟨ks, ds, rfl⟩ := hz
    rcases h1 with rfl | rfl
    · simp only [inA] at er
      cases ek : keyD d with
      | none => rw [ek] at er; cases er
      | some k =>
        rw [ek] at er
        cases er
        obtain ⟨a, o, ex, dg, eo, _⟩ := din_ok rx ry ek
        exact ⟨a, o, ex, dg, by unfold dcA; rw [if_pos rfl, eo]⟩
    · simp only [inA] at er
      cases ek : keyD d with
      | none => rw [ek] at er; cases er
      | some k =>
        rw [ek] at er
        cases er
        obtain ⟨a, o, ex, dg, eo, _⟩ := din_ok rx ry ek
        exact ⟨a, o, ex, dg, by unfold dcA; rw [if_neg (by intro z; cases z), eo]⟩
  | true =>
    obtain ⟨ks, ds, rfl⟩ := hz
    rcases h1 with rfl | rfl
    · simp only [inA] at er
      cases ek : keyN d with
      | none => rw [ek] at er; cases er
      | some k =>
        rw [ek] at er
        cases er
        obtain ⟨a, o, ex, dg, eo, _⟩ := nin_ok rx ry ek
        exact ⟨a, o, ex, dg, by unfold dcA; rw [if_pos rfl, eo]⟩
    · simp only [inA] at er
      cases ek : keyN d with
      | none => rw [ek] at er; cases er
      | some k =>
        rw [ek] at er
        cases er
        obtain ⟨a, o, ex, dg, eo, _⟩ := nin_ok rx ry ek
        exact ⟨a, o, ex, dg, by unfold dcA; rw [if_neg (by intro z; cases z), eo]⟩
theorem dc_t {y : D} (h : IsDc y) : ∃ t : Bool, if t = true then ∃ ks ds, y = .dT ks ds else ∃ ks ds, y = .dK ks ds := h.elim (fun h => ⟨false, by simpa using h⟩) fun h => ⟨true, by simpa using h⟩
/-- its rule -/
def tDcIn (K : PySem.W.Frag) (t : Bool) (op : CmpOp) (ty td : TE) : TE := fun σ H Q => ty σ H fun y H1 => td σ H1 fun x H2 => ∃ a o, x = .ref a ∧ DcIn K H2 t a y o ∧ Q (.bl (dcA op o)) H2
theorem PC.weak {op : CmpOp} {t t' : TE} (h : PC X op a b t) (w : ∀ σ H Q, t' σ H Q → t σ H Q) : PC X op a b t' := ⟨fun pins s σ H Q I q => h.run pins s σ H Q I (w _ _ _ q)⟩
theorem pc_dc (hr : Room lvl X.A) {ty td : TE} {op : CmpOp} (h1 : op = .In ∨ op = .NotIn) (t : Bool) (hi : PE X a ty) (ho : PE X b td) : PC X op a b (tDcIn X.K t op ty td) := by
  have hu : X.A.units + 1 < cLine := by have := hr.un; omega
  have hu2 : X.A.units + 10 < cLine := by have := hr.un; omega
  cases t with
  | false =>
    rcases h1 with rfl | rfl
    · exact pc_din hu hi ho
    · exact pc_dnotin hu hi ho
  | true =>
    rcases h1 with rfl | rfl
    · exact pc_nin hu2 hi ho
    · exact pc_nnin hu2 hi ho
theorem s_cmp (hr : Room lvl X.A) {op : CmpOp} (hm : behindInMarks op b = false) (ha : PE X a (tD X.K cv W fa)) (hb : PE X b (tD X.K cv W fb)) : PE X (.Compare a [op] [b] pos) (tD X.K cv W fun ρ => bnd (fa ρ) fun x => bnd (fb ρ) fun y => lft (inA op x y)) := by
  refine PE.of fun σ H Q ⟨O, ρ, env, g⟩ => ?_
  by_cases h : (op = .In ∨ op = .NotIn) ∧ ∃ y, fb ρ = some (.ok y) ∧ IsDc y
  case neg => exact ⟨_, s_cmp0 hr hm ha hb, O, ρ, env, by dsimp only at g ⊢; rw [← inM_off h]; exact g⟩
  obtain ⟨h1, z, e, hz⟩ := h
  obtain ⟨t, hz⟩ := dc_t hz
  dsimp only at g
  refine ⟨_, pe_cmp (pc_dc hr h1 t ha hb) hm, tD.of env ((GoG.bndE (R := Rp X.K O) g).wk fun y H1 ⟨d, s1, ry, g1⟩ => tD.of (env.mono s1) ?_)⟩
  rw [e] at g1 ⊢
  rw [bnd_ok] at g1
  obtain ⟨r, er, q⟩ := g1.lftE
  intro H2 x s2 rx
  obtain ⟨a, o, ex, dg, rfl⟩ := dc_in h1 t hz rx (ry.mono s2) er
  exact ⟨a, o, ex, dg, q H2 _ s2 (.bl _)⟩
theorem t_cmp (hr : Room lvl X.A) {op : CmpOp} (hm : behindInMarks op b = false) (ha : PE X a (tD X.K cv W fa)) (hb : PE X b (tD X.K cv W fb)) : PT X (.Compare a [op] [b] pos) (tB X.K cv W fun ρ => tru (bnd (fa ρ) fun x => bnd (fb ρ) fun y => lft (inA op x y))) := by
  refine PT.of fun σ H Q ⟨O, ρ, env, g⟩ => ?_
  by_cases h : (op = .In ∨ op = .NotIn) ∧ ∃ y, fb ρ = some (.ok y) ∧ IsDc y
  case neg => exact ⟨_, t_cmp0 hr hm ha hb, O, ρ, env, by dsimp only at g ⊢; rw [← inM_off h]; exact g⟩
  obtain ⟨h1, z, e, hz⟩ := h
  obtain ⟨t, hz⟩ := dc_t hz
  dsimp only at g
  refine ⟨_, pt_cmp (pc_dc hr h1 t ha hb) hm, tD.of env ?_⟩
  cases ea : fa ρ with
  | none => simp only [ea, tru, bnd_no] at g; exact g.elim
  | some r => cases r with
    | error c => simp only [ea, tru, bnd_er] at g; exact g
    | ok d =>
      simp only [ea, e, tru, bnd_ok] at g
      intro H1 y s1 ry
      refine tD.of (env.mono s1) ?_
      rw [e]
      intro H2 x s2 rx
      cases er : inA op d z with
      | none => rw [er] at g; exact g.elim
      | some r =>
        obtain ⟨a, o, ex, dg, rfl⟩ := dc_in h1 t hz rx (ry.mono s2) er
        rw [er] at g
        exact ⟨a, o, ex, dg, _, rfl, g H2 _ (s1.trans s2) rfl⟩
theorem idxM_off {ma mb : M D} (h : ¬ ∃ y, ma = some (.ok y) ∧ IsDc y) : (bnd ma fun x => bnd mb fun y => lft (idxA x y)) = bnd ma fun x => bnd mb fun y => lft (idxD x y) := by
  cases ma with
  | none => rfl
  | some r => cases r with
    | error c => rfl
    | ok x =>
      rw [bnd_ok, bnd_ok]
      have : ∀ y, idxA x y = idxD x y := fun y => by
        unfold idxA
        split
        · exact absurd ⟨_, rfl, .inr ⟨_, _, rfl⟩⟩ h
        · exact absurd ⟨_, rfl, .inl ⟨_, _, rfl⟩⟩ h
        · rfl
      simp only [this]
theorem s_idx (hr : Room lvl X.A) (hs : noSlice b = true) (ha : PE X a (tD X.K cv W fa)) (hb : PE X b (tD X.K cv W fb)) : PE X (.Subscript a b pos) (tD X.K cv W fun ρ => bnd (fa ρ) fun x => bnd (fb ρ) fun y => lft (idxA x y)) := by
  have hu : X.A.units + 1 < cLine := by have := hr.un; omega
  have hu2 : X.A.units + 10 < cLine := by have := hr.un; omega
  refine PE.of fun σ H Q ⟨O, ρ, env, g⟩ => ?_
  by_cases h : ∃ y, fa ρ = some (.ok y) ∧ IsDc y
  case neg => exact ⟨_, s_idx0 hs ha hb, O, ρ, env, by dsimp only at g ⊢; rw [← idxM_off h]; exact g⟩
  obtain ⟨z, e, ⟨ks, ds, rfl⟩ | ⟨ks, ds, rfl⟩⟩ := h
  · dsimp only at g
    refine ⟨_, pe_dget hu ha hb (plainIx hs), tD.of env ?_⟩
    rw [e, bnd_ok] at g
    rw [e]
    intro H1 x s1 rx
    refine tD.of (env.mono s1) ((GoG.bndE (R := Rp X.K O) (GoG.mono s1 g)).wk fun y H2 ⟨d, s2, ry, g2⟩ => ?_)
    obtain ⟨r, er, q⟩ := g2.lftE
    simp only [idxA] at er
    cases ek : keyD d with
    | none => rw [ek] at er; cases er
    | some k =>
      rw [ek] at er
      obtain ⟨a, o, ex, dg, _, ev⟩ := din_ok (rx.mono s2) ry ek
      obtain ⟨v, eo, rv⟩ := ev r er
      subst eo
      exact ⟨a, v, ex, dg, q H2 v (Same.refl _) rv⟩
  · dsimp only at g
    refine ⟨_, pe_nget hu2 ha hb (plainIx hs), tD.of env ?_⟩
    rw [e, bnd_ok] at g
    rw [e]
    intro H1 x s1 rx
    refine tD.of (env.mono s1) ((GoG.bndE (R := Rp X.K O) (GoG.mono s1 g)).wk fun y H2 ⟨d, s2, ry, g2⟩ => ?_)
    obtain ⟨r, er, q⟩ := g2.lftE
    simp only [idxA] at er
    cases ek : keyN d with
    | none => rw [ek] at er; cases er
    | some k =>
      rw [ek] at er
      obtain ⟨a, o, ex, dg, _, ev⟩ := nin_ok (rx.mono s2) ry ek
      obtain ⟨v, eo, rv⟩ := ev r er
      subst eo
      exact ⟨a, v, ex, dg, q H2 v (Same.refl _) rv⟩
/-- range(n) as a value -/
theorem cr_range1 : CallR X (.type "range") (fun vs H Q => ∃ j, vs = [V.int j] ∧ ∀ p, H p = none → Q (.ref p) (upd H p (.rng 0 j))) := by
  intro pins s σ H vs us Q I r h
  obtain ⟨j, rfl, q⟩ := h
  obtain ⟨u1, rfl, ri⟩ := vals1 r
  obtain ⟨t, rfl⟩ := ri
  exact call_range_1 ⟨.ref s.heap.objs.size, upd H s.heap.objs.size (.rng 0 j), I.laid (fun b o e => Heap.get?_push_of_some _ e) (Nat.le_refl _) (show ObjOk X.prog X.w _ _ _ (.rng 0 j) from ⟨_, _, _, Heap.get?_push_size _ rfl⟩), rfl, q _ (I.hok.fresh (Nat.le_refl _))⟩
theorem op_ni_rng : OpR X (compareOp .NotIn) (fun x y H Q => ∃ i a lo hi, x = V.int i ∧ y = V.ref a ∧ H a = some (.rng lo hi) ∧ Q (.bl (!decide (lo ≤ i ∧ i < hi))) H) := by
  intro pins s σ H x y v u Q I rx ry h
  obtain ⟨i, a, lo, hi, rfl, rfl, ha, q⟩ := h
  obtain ⟨k, rfl⟩ := rx
  obtain rfl : u = Value.ref a := ry
  obtain ⟨t1, t2, t3, ho⟩ := I.hok a _ ha
  show wpAny _ _ (do return Value.bool (!(← contains (Value.ref a) (Value.int i k)))) _ _ s
  refine wpAny_bind (wpAny_contains_slot (T := "range") ⟨_, ho, rfl⟩ PySem.F.slot_range_contains (call_meets PySem.F.slot_range_contains ⟨_, ho, rfl⟩ PySem.F.entry_range_contains (PySem.F.args_range_contains_2 _ _) (q_contains a lo hi i t1 t2 t3 k)
    ⟨ho, wpAny_truthy_bool (wpAny_pure ⟨.bl _, H, I, rfl, ?_⟩)⟩))
  rw [place1]
  exact q
def rInR (neg : Bool) : R2 := fun x y H Q => ∃ i a lo hi, x = V.int i ∧ y = V.ref a ∧ H a = some (.rng lo hi) ∧ Q (.bl (if neg = true then !decide (lo ≤ i ∧ i < hi) else decide (lo ≤ i ∧ i < hi))) H
theorem op_inr (neg : Bool) : OpR X (compareOp (if neg = true then .NotIn else .In)) (rInR neg) := by
  cases neg with
  | true => exact op_ni_rng
  | false => exact op_in_rng
section
variable {neg : Bool} {op : CmpOp} {x : Str} {p p2 : Pos}
theorem pe_rng (ok : OkX Γ cv lvl X W) (hx : x = ("range" : Str)) (hg : Gl X x) (hs : noStar b = true) (hb : PE X b (tD X.K cv W fb)) : PE X (.Call (.Name x p) [b] [] p2) (fun σ H Q => ∃ O ρ, EnvR X.K O H σ ρ ∧ ∃ r, fb ρ = some r ∧ match r with
    | .error c => ∀ H', Same H H' → W (cv c) none σ H'
    | .ok (.int j) => ∀ H1 p, Same H H1 → H1 p = none → Q (.ref p) (upd H1 p (.rng 0 j))
    | .ok _ => False) := by
  subst hx
  refine PE.weak (pe_callTy cr_range1 hg (ok.blt _ (by decide +kernel)) (by decide +kernel) (pa_cons hb pa_nil (stE hs [] X.env)) (by decide) (by decide) (stE hs [] X.env) rfl) fun σ H Q ⟨O, ρ, env, r, er, g⟩ => tD.of env ?_
  rw [er]
  cases r with
  | error c => exact g
  | ok d =>
    intro H1 v s1 rv
    cases rv with
    | int j => exact ⟨j, rfl, fun p hp => g H1 p s1 hp⟩
    | _ => exact g.elim
theorem inr_w {K : PySem.W.Frag} {σ : L2.St} {H : Hp} {Q : VK} (h : tD K cv W (fun ρ => bnd (fa ρ) fun x => bnd (fb ρ) fun y => lft (inrD neg x y)) σ H Q) : tOp (rInR neg) (tD K cv W fa) (fun σ H Q => ∃ O ρ, EnvR K O H σ ρ ∧ ∃ r, fb ρ = some r ∧ match r with
    | .error c => ∀ H', Same H H' → W (cv c) none σ H'
    | .ok (.int j) => ∀ H1 p, Same H H1 → H1 p = none → Q (.ref p) (upd H1 p (.rng 0 j))
    | .ok _ => False) σ H Q := by
  obtain ⟨O, ρ, env, g⟩ := h
  refine tD.of env ((GoG.bndE (R := Rp K O) g).wk fun x H1 ⟨d, s1, rx, g1⟩ => ⟨O, ρ, env.mono s1, ?_⟩)
  cases e : fb ρ with
  | none => rw [e] at g1; exact g1.elim
  | some r =>
    refine ⟨r, rfl, ?_⟩
    rw [e] at g1
    cases r with
    | error c => exact g1
    | ok y =>
      rw [bnd_ok] at g1
      cases rx with
      | int i => cases y with
        | int j => exact fun H2 p s2 hp => ⟨i, p, 0, j, rfl, rfl, upd_same, g1 _ _ (s2.trans (same_new hp _)) (.bl _)⟩
        | _ => exact g1.elim
      | _ => exact g1.elim
theorem s_inr (ok : OkX Γ cv lvl X W) (ho : op = if neg = true then .NotIn else .In) (hx : x = ("range" : Str)) (hg : Gl X x) (hs : noStar b = true) (hm : behindInMarks op (.Call (.Name x p) [b] [] p2) = false) (ha : PE X a (tD X.K cv W fa)) (hb : PE X b (tD X.K cv W fb)) :
    PE X (.Compare a [op] [.Call (.Name x p) [b] [] p2] pos) (tD X.K cv W fun ρ => bnd (fa ρ) fun x => bnd (fb ρ) fun y => lft (inrD neg x y)) := by
  subst ho
  exact PE.weak (pe_cmpR (op_inr neg) ha (pe_rng ok hx hg hs hb) hm) fun σ H Q h => inr_w h
theorem inr_bl {ρ : Env} {d : D} (h : (bnd (fa ρ) fun x => bnd (fb ρ) fun y => lft (inrD neg x y)) = some (.ok d)) : ∃ k, d = .bl k := by
  cases e1 : fa ρ with
  | none => rw [e1] at h; cases h
  | some r => cases r with
    | error c => rw [e1] at h; cases h
    | ok x =>
      rw [e1, bnd_ok] at h
      cases e2 : fb ρ with
      | none => rw [e2] at h; cases h
      | some r => cases r with
        | error c => rw [e2] at h; cases h
        | ok y =>
          rw [e2, bnd_ok] at h
          cases e3 : inrD neg x y with
          | none => rw [e3] at h; cases h
          | some z =>
            rw [e3] at h
            cases h
            unfold inrD at e3
            split at e3
            · cases e3; exact ⟨_, rfl⟩
            · cases e3
theorem t_inr (ok : OkX Γ cv lvl X W) (ho : op = if neg = true then .NotIn else .In) (hx : x = ("range" : Str)) (hg : Gl X x) (hs : noStar b = true) (hm : behindInMarks op (.Call (.Name x p) [b] [] p2) = false) (ha : PE X a (tD X.K cv W fa)) (hb : PE X b (tD X.K cv W fb)) :
    PT X (.Compare a [op] [.Call (.Name x p) [b] [] p2] pos) (tB X.K cv W fun ρ => tru (bnd (fa ρ) fun x => bnd (fb ρ) fun y => lft (inrD neg x y))) := by
  subst ho
  exact PT.weak (pt_cmpR (op_inr neg) ha (pe_rng ok hx hg hs hb) hm) fun σ H Q h => inr_w (tB_bl (fun ρ d => inr_bl) h)
end
/-- list(range(..)), tuple(range(..)) -/
theorem rgV_rngL {K : PySem.W.Frag} {O : Addr → Prop} {H : Hp} (i j : Int) : Rps K O H (rgV i j) (rngL i (j - i).toNat) := by
  unfold rgV rngL
  induction List.range (j - i).toNat with
  | nil => exact .nil
  | cons n l ih => exact .cons (.int _) ih
section
variable {tp : Bool} {x y : Str} {p p2 p3 : Pos} {g : Env → M (List D)}
theorem rgs_go {K : PySem.W.Frag} {O : Addr → Prop} {H : Hp} {Q : VK} {σ : L2.St} {i j : Int} (hO : ∀ a, O a → ∃ o, H a = some o) (h : GoG (Rp K O) (Wc cv W σ) H Q (lft (if RgOk i j then some (if tp = true then D.tup (rngL i (j - i).toNat) else D.lst (rngL i (j - i).toNat)) else none))) :
    RgOk i j ∧ ∀ q, H q = none → Q (.ref q) (upd H q (if tp = true then .tup (rgV i j) else .lst (rgV i j))) := by
  by_cases ok : RgOk i j
  · rw [if_pos ok] at h
    refine ⟨ok, fun q hq => ?_⟩
    cases tp with
    | true => exact h _ _ (same_new hq _) (new_tup hq (rgV_rngL i j))
    | false => exact h _ _ (same_new hq _) (new_lst hO hq (rgV_rngL i j))
  · rw [if_neg ok] at h; exact h.elim
theorem s_rgv (ok : OkX Γ cv lvl X W) {te : L2.St → Hp → (Int → Int → Hp → Prop) → Prop} {f : Env → M D} (hx : x = if tp = true then ("tuple" : Str) else ("list" : Str)) (hg : Gl X x) (h : PRg X e te) (hn : noStar e = true)
    (w : ∀ σ H Q, tD X.K cv W f σ H Q → te σ H fun i j H1 => RgOk i j ∧ ∀ q, H1 q = none → Q (.ref q) (upd H1 q (if tp = true then .tup (rgV i j) else .lst (rgV i j)))) :
    PE X (.Call (.Name x p) [e] [] pos) (tD X.K cv W f) := by
  subst hx
  cases tp with
  | true => exact PE.weak (pe_tupRg ok.calm hg (ok.blt _ (by decide +kernel)) h (stE hn [] X.env)) fun σ H Q q => w σ H Q q
  | false => exact PE.weak (pe_listRg ok.calm hg (ok.blt _ (by decide +kernel)) h (stE hn [] X.env)) fun σ H Q q => w σ H Q q
theorem s_rg1 (ok : OkX Γ cv lvl X W) (hx : x = if tp = true then ("tuple" : Str) else ("list" : Str)) (hg : Gl X x) (hy : y = ("range" : Str)) (hg2 : Gl X y) (hs : noStar b = true) (hb : PE X b (tD X.K cv W fb)) :
    PE X (.Call (.Name x p) [.Call (.Name y p2) [b] [] p3] [] pos) (tD X.K cv W fun ρ => bnd (fb ρ) fun y => lft (rgsD tp (.int 0) y)) := by
  subst hy
  refine s_rgv ok hx hg (prg_1 hg2 (ok.blt _ (by decide +kernel)) hb (stE hs [] X.env)) rfl fun σ H Q ⟨O, ρ, env, g⟩ => ?_
  refine tD.of env ((GoG.bndE (R := Rp X.K O) g).wk fun x H1 ⟨d, s1, rd, g1⟩ => ?_)
  cases rd with
  | int j => exact ⟨j, rfl, rgs_go (env.mono s1).dom g1⟩
  | _ => exact g1.elim
theorem s_rg2 (ok : OkX Γ cv lvl X W) (hx : x = if tp = true then ("tuple" : Str) else ("list" : Str)) (hg : Gl X x) (hy : y = ("range" : Str)) (hg2 : Gl X y) (hs : noStar a = true) (hs2 : noStar b = true) (ha : PE X a (tD X.K cv W fa)) (hb : PE X b (tD X.K cv W fb)) :
    PE X (.Call (.Name x p) [.Call (.Name y p2) [a, b] [] p3] [] pos) (tD X.K cv W fun ρ => bnd (fa ρ) fun x => bnd (fb ρ) fun y => lft (rgsD tp x y)) := by
  subst hy
  refine s_rgv ok hx hg (prg_2 hg2 (ok.blt _ (by decide +kernel)) ha hb (stE hs [b] X.env) (stE hs2 [] X.env) (stAny (es := [b]) fun e he => by rw [List.mem_singleton.mp he]; exact hs2)) rfl fun σ H Q ⟨O, ρ, env, g⟩ => ?_
  refine tD.of env ((GoG.bndE (R := Rp X.K O) g).wk fun x H1 ⟨d, s1, rd, g1⟩ => tD.of (env.mono s1) ((GoG.bndE (R := Rp X.K O) g1).wk fun y H2 ⟨d2, s2, rd2, g2⟩ => ?_))
  cases rd with
  | int i => cases rd2 with
    | int j => exact ⟨i, j, rfl, rfl, rgs_go (env.mono (s1.trans s2)).dom g2⟩
    | _ => exact g2.elim
  | _ => cases rd2 <;> exact g2.elim
end
/-- {k: v}, k a tuple -/
theorem s_dsq (hr : Room lvl X.A) (ha : PE X a (tD X.K cv W fa)) (hb : PE X b (tD X.K cv W fb)) : PE X (.Dict [some a] [b] pos) (tD X.K cv W fun ρ => bnd (fa ρ) fun x => bnd (fb ρ) fun y => lft (dsqD x y)) := by
  refine PE.weak (pe_disp1 (by have := hr.un; omega) ha hb) fun σ H Q ⟨O, ρ, env, g⟩ => fun p hp => ?_
  have sp := same_new hp (.ext (DNp p []))
  have nO : ¬ O p := fun z => by obtain ⟨o, e⟩ := env.dom p z; rw [hp] at e; cases e
  have env' : EnvR X.K (fun a => O a ∨ a = p) (upd H p (.ext (DNp p []))) σ ρ := env.more (fun a z => z.elim .inl fun z => .inr (z ▸ hp)) sp fun a z => z.elim (fun z => let ⟨o, e⟩ := env.dom a z; ⟨o, sp _ _ e⟩) fun z => by subst z; exact ⟨_, upd_same⟩
  dsimp only at g
  refine tD.of env' ?_
  cases e1 : fa ρ with
  | none => rw [e1] at g; exact g
  | some r => cases r with
    | error c => rw [e1] at g; exact fun H' s => g H' (sp.trans s)
    | ok d =>
      rw [e1, bnd_ok] at g
      intro H1 x s1 rx
      refine tD.of (env'.mono s1) ?_
      cases e2 : fb ρ with
      | none => rw [e2] at g; exact g
      | some r => cases r with
        | error c => rw [e2] at g; exact fun H' s => g H' (sp.trans (s1.trans s))
        | ok d2 =>
          rw [e2, bnd_ok] at g
          intro H2 y s2 ry
          cases er : dsqD d d2 with
          | none => rw [er] at g; exact g.elim
          | some r =>
            rw [er] at g
            unfold dsqD at er
            split at er
            case h_2 => cases er
            rename_i k ek
            cases er
            obtain ⟨bb, rfl, ok, nk⟩ := keyN_rp (rx.mono s2) ek
            obtain ⟨_, ed⟩ := keyN_of ek
            subst ed
            have s12 := s1.trans s2
            have hp2 : H2 p = some (.ext (DNp p [])) := s12 _ _ upd_same
            refine ⟨hp2, k, bb, rfl, ok, nk, ?_⟩
            have w : ∀ {v : V} {d : D}, Rp X.K (fun a => O a ∨ a = p) H2 v d → Rp X.K O (upd H2 p (.ext (DNp p [(k, bb, y)]))) v d := fun r => (r.wrM hp2 trivial (.inr rfl)).less fun a z => .inl z
            refine g _ _ (fun b o e => ?_) (.dT upd_same rfl (by simp [ok]) nO ?_ (.cons (w ry) .nil))
            · rw [upd_ne (ne_of_none e hp)]
              exact s12 _ _ (sp _ _ e)
            · simp only [kDs]
              exact .cons (w (rx.mono s2)) .nil
def tO (K : PySem.W.Frag) (cv : Str → Value) (W : WX) (f : Env → M (Option Int)) : TO := fun σ H Q => ∃ O ρ, EnvR K O H σ ρ ∧ GoG (fun (_ : Hp) (b b' : Option Int) => b = b') (Wc cv W σ) H Q (f ρ)
theorem PO.weak {e : Option Expr} {t t' : TO} (h : PO X e t) (w : ∀ σ H Q, t' σ H Q → t σ H Q) : PO X e t' := ⟨fun pins s σ H Q I q => h.run pins s σ H Q I (w _ _ _ q)⟩
theorem o_none : PO X none (tO X.K cv W fun _ => some (.ok none)) := PO.weak po_none fun σ H Q ⟨O, ρ, env, g⟩ => g H none (Same.refl _) rfl
theorem o_some (ha : PE X a (tD X.K cv W fa)) : PO X (some a) (tO X.K cv W fun ρ => bnd (fa ρ) fun d => match d with
    | .int i => some (.ok (some i))
    | _ => none) :=
  PO.weak (po_some ha) fun σ H Q ⟨O, ρ, env, g⟩ =>
    tD.of env ((GoG.bndE (R := Rp X.K O) g).wk fun x H1 ⟨d, s1, rd, g1⟩ => by
      cases rd with
      | int i => exact ⟨i, rfl, g1 H1 _ (Same.refl _) rfl⟩
      | _ => exact g1.elim)
theorem s_slc {lo hi : Option Expr} {p2 : Pos} {fl fh : Env → M (Option Int)} (ha : PE X a (tD X.K cv W fa)) (hl : PO X lo (tO X.K cv W fl)) (hh : PO X hi (tO X.K cv W fh)) :
    PE X (.Subscript a (.Slice lo hi none p2) pos) (tD X.K cv W fun ρ => bnd (fa ρ) fun x => bnd (fl ρ) fun l => bnd (fh ρ) fun h => lft (slcD x l h)) :=
  PE.weak (pe_slice sl_ok ha hl hh) fun σ H Q ⟨O, ρ, env, g⟩ =>
    tD.of env ((GoG.bndE (R := Rp X.K O) g).wk fun x H1 ⟨a, s1, ra, g1⟩ => ⟨O, ρ, env.mono s1, (GoG.bndE (R := fun (_ : Hp) (b b' : Option Int) => b = b') g1).wk fun l H2 ⟨l', s2, e2, g2⟩ => by
      subst e2
      exact ⟨O, ρ, env.mono (s1.trans s2), (GoG.bndE (R := fun (_ : Hp) (b b' : Option Int) => b = b') g2).wk fun h H3 ⟨h', s3, e3, g3⟩ => by
        subst e3
        obtain ⟨d, e, q⟩ := g3.lftE
        exact ⟨O, a, d, (env.mono (s1.trans (s2.trans s3))).dom, ra.mono (s2.trans s3), e, q⟩⟩⟩)
theorem a_nil : PA X [] (tA X.K cv W fun _ => some (.ok [])) := PA.weak pa_nil fun σ H Q ⟨O, ρ, env, g⟩ => g H [] (Same.refl _) .nil
theorem a_cons {es : List Expr} {f : Env → M (List D)} (hs : noStar a = true) (ha : PE X a (tD X.K cv W fa)) (hr : PA X es (tA X.K cv W f)) : PA X (a :: es) (tA X.K cv W fun ρ => bnd (fa ρ) fun d => bnd (f ρ) fun ds => some (.ok (d :: ds))) :=
  PA.weak (pa_cons ha hr (stE hs es X.env)) fun σ H Q ⟨O, ρ, env, g⟩ =>
    tD.of env ((GoG.bndE (R := Rp X.K O) g).wk fun x H1 ⟨a, s1, ra, g1⟩ => tA.of (env.mono s1) ((GoG.bndE (R := Rps X.K O) g1).wk fun xs H2 ⟨ds, s2, rs, g2⟩ =>
      g2 H2 (x :: xs) (Same.refl _) (.cons (ra.mono s2) rs)))
theorem s_blt (ok : OkX Γ cv lvl X W) {x : Str} {p : Pos} {es : List Expr} {f : Blt} {g : Env → M (List D)} (hx : x = f.name) (hg : Gl X x) (hs : ∀ e' ∈ e :: es, noStar e' = true) (ha : PA X (e :: es) (tA X.K cv W g)) :
    PE X (.Call (.Name x p) (e :: es) [] pos) (tD X.K cv W fun ρ => bnd (g ρ) fun ds => lft (bltD f ds)) := by
  subst hx
  have key : PE X (.Call (.Name f.name p) (e :: es) [] pos) (tCB (rDs X.K (bltD f)) (tA X.K cv W g)) := by
    have h := blt_ok (X := X) ok.calm f
    have st := stE (hs e List.mem_cons_self) es X.env
    have sa : (backTo pos (starEach es X.env)).any (·.1) = false := stAny fun e he => hs e (List.mem_cons_of_mem _ he)
    cases f with
    | len => exact pe_callB h hg (ok.blt _ (by decide +kernel)) PySem.boot_len ha (by decide) (by decide) st sa
    | int => exact pe_callTy h hg (ok.blt _ (by decide +kernel)) (by decide +kernel) ha (by decide) (by decide) st sa
    | tuple => exact pe_callTy h hg (ok.blt _ (by decide +kernel)) (by decide +kernel) ha (by decide) (by decide) st sa
    | list => exact pe_callTy h hg (ok.blt _ (by decide +kernel)) (by decide +kernel) ha (by decide) (by decide) st sa
    | sum => exact pe_callB h hg (ok.blt _ (by decide +kernel)) (by decide +kernel) ha (by decide) (by decide) st sa
    | all => exact pe_callB h hg (ok.blt _ (by decide +kernel)) (by decide +kernel) ha (by decide) (by decide) st sa
    | any => exact pe_callB h hg (ok.blt _ (by decide +kernel)) (by decide +kernel) ha (by decide) (by decide) st sa
    | abs => exact pe_callB h hg (ok.blt _ (by decide +kernel)) (by decide +kernel) ha (by decide) (by decide) st sa
    | max2 => exact pe_callB h hg (ok.blt _ (by decide +kernel)) (by decide +kernel) ha (by decide) (by decide) st sa
    | min2 => exact pe_callB h hg (ok.blt _ (by decide +kernel)) (by decide +kernel) ha (by decide) (by decide) st sa
  exact PE.weak key fun σ H Q ⟨O, ρ, env, g⟩ =>
    tA.of env ((GoG.bndE (R := Rps X.K O) g).wk fun xs H1 ⟨ds, s1, rs, g1⟩ =>
      let ⟨d, e, q⟩ := g1.lftE
      ⟨O, ds, d, (env.mono s1).dom, rs, e, q⟩)
theorem s_isi (ok : OkX Γ cv lvl X W) {x y : Str} {p p2 : Pos} {t : TyN} (hx : x = ("isinstance" : Str)) (hg : Gl X x) (hy : y = Str.ofString t.name) (hg2 : Gl X y) (hs : noStar a = true) (ha : PE X a (tD X.K cv W fa)) :
    PE X (.Call (.Name x p) [a, .Name y p2] [] pos) (tD X.K cv W fun ρ => bnd (fa ρ) fun d => lft (isiO d t)) := by
  subst hx hy
  have hty : PE X (.Name (Str.ofString t.name) p2) (tC (.ty t.name)) := by
    cases t with
    | int => exact pe_bltn (u := .type "int") hg2 (ok.blt _ (by decide +kernel)) (by decide +kernel) rfl (by decide) (by decide)
    | bool => exact pe_bltn (u := .type "bool") hg2 (ok.blt _ (by decide +kernel)) (by decide +kernel) rfl (by decide) (by decide)
    | tuple => exact pe_bltn (u := .type "tuple") hg2 (ok.blt _ (by decide +kernel)) (by decide +kernel) rfl (by decide) (by decide)
    | list => exact pe_bltn (u := .type "list") hg2 (ok.blt _ (by decide +kernel)) (by decide +kernel) rfl (by decide) (by decide)
    | str => exact pe_bltn (u := .type "str") hg2 (ok.blt _ (by decide +kernel)) (by decide +kernel) rfl (by decide) (by decide)
    | dict => exact pe_bltn (u := .type "dict") hg2 (ok.blt _ (by decide +kernel)) (by decide +kernel) rfl (by decide) (by decide)
  have ha2 : PA X [a, .Name (Str.ofString t.name) p2] (tCons (tD X.K cv W fa) (tCons (tC (.ty t.name)) tNil)) := pa_cons ha (pa_cons hty pa_nil) (stE hs _ X.env)
  refine PE.weak (pe_callB (isi_ok t) hg (ok.blt _ (by decide +kernel)) (by decide +kernel) ha2 (by decide) (by decide) (stE hs _ X.env) (stAny (es := [.Name (Str.ofString t.name) p2]) fun e he => by rw [List.mem_singleton.mp he]; rfl)) fun σ H Q ⟨O, ρ, env, g⟩ => ?_
  exact tD.of env ((GoG.bndE (R := Rp X.K O) g).wk fun x H1 ⟨d, s1, rd, g1⟩ => by
    obtain ⟨b, e, q⟩ := g1.lftE
    unfold isiO at e
    by_cases hd : d.isO = true
    · rw [if_pos hd] at e; cases e
    · rw [if_neg hd] at e
      cases e
      exact ⟨O, x, d, rfl, rd, by simpa using hd, q H1 _ (Same.refl _) (.bl _)⟩)
theorem s_call (ok : OkX Γ cv lvl X W) {i : Nat} {q : FnI} {x : Str} {p : Pos} {es : List Expr} {g : Env → M (List D)} (hi : Γ.fns[i]? = some q) (hx : x = q.name) (hl : (e :: es).length = q.np) (hlen : ∀ ρ ds, g ρ = some (.ok ds) → ds.length = q.np) (hdb : (x == ("__debug__" : Str)) = false) (hg : Gl X x)
    (hs : ∀ e' ∈ e :: es, noStar e' = true) (ha : PA X (e :: es) (tA X.K cv W g)) : PE X (.Call (.Name x p) (e :: es) [] pos) (tD X.K cv W fun ρ => bnd (g ρ) q.f) := by
  subst hx
  obtain ⟨f, fd, ps, hps, hm, hk, F, B⟩ := ok.fns i q hi
  refine PE.weak (pe_callS F ok.room hg hm hk B (fun σ => L2N.passAt ok.tk σ) ha hdb (stE (hs e List.mem_cons_self) es X.env) (stAny fun e he => hs e (List.mem_cons_of_mem _ he))) fun σ H Q ⟨O, ρ, env, g'⟩ => ?_
  refine tA.of env ?_
  try dsimp only at g'
  cases e1 : g ρ with
  | none => rw [e1] at g'; exact g'
  | some r => cases r with
    | error c => rw [e1] at g'; exact g'
    | ok ds =>
      rw [e1] at g'
      intro H1 vs s1 rs
      exact ⟨O, ds, by rw [rs.length, hlen ρ ds e1], (env.mono s1).dom, rs, GoG.mono s1 g'⟩
theorem s_call0 (ok : OkX Γ cv lvl X W) {i : Nat} {q : FnI} {x : Str} {p : Pos} (hi : Γ.fns[i]? = some q) (hx : x = q.name) (hl : 0 = q.np) (hdb : (x == ("__debug__" : Str)) = false) (hg : Gl X x) : PE X (.Call (.Name x p) [] [] pos) (tD X.K cv W fun _ => q.f []) := by
  subst hx
  obtain ⟨f, fd, ps, hps, hm, hk, F, B⟩ := ok.fns i q hi
  constructor
  intro pins s σ H Q I hh
  obtain ⟨O, ρ, env, g'⟩ := hh
  apply wpAny_Call_Name_kw
  apply ld_glob I hg hm _ hdb
  apply PySem.W.callWith_K0 I.kIn hk
  exact run_fnS (us := []) (vs := []) F ok.room B (L2N.passAt ok.tk σ) I .nil ⟨O, [], hl, env.dom, .nil, g'⟩
end
end
end DE
set_option linter.all false
set_option maxRecDepth 100000
set_option maxHeartbeats 4000000
namespace DE
open PySem PySem.Spec PyProof.Rows L2

abbrev Sl := Option (Nat × D)
inductive SlR (K : PySem.W.Frag) (OO P : Addr → Prop) (H : Hp) : L2.St → List Sl → List Addr → Prop
  | nil : SlR K OO P H [] [] []
  | un (v : Option V) {σ : L2.St} {ρ : List Sl} {fp : List Addr} : SlR K OO P H σ ρ fp → SlR K OO P H (v :: σ) (none :: ρ) fp
  | som {n : Nat} {v : V} {d : D} {fp fps : List Addr} {σ : L2.St} {ρ : List Sl} : Ow K OO P H n v d fp → SlR K OO P H σ ρ fps → SlR K OO P H (some v :: σ) (some (n, d) :: ρ) (fp ++ fps)
section
variable {K : PySem.W.Frag} {OO OO' P P' O : Addr → Prop} {H H' : Hp}
theorem SlR.len : ∀ {σ : L2.St} {ρ : List Sl} {fp : List Addr}, SlR K OO P H σ ρ fp → σ.length = ρ.length
  | _, _, _, .nil => rfl
  | _, _, _, .un _ r => congrArg Nat.succ r.len
  | _, _, _, .som _ r => congrArg Nat.succ r.len
theorem SlR.tr (hr : ∀ v d, Rp K OO H v d → Rp K OO' H' v d) : ∀ {σ : L2.St} {ρ : List Sl} {fp : List Addr}, SlR K OO P H σ ρ fp → (∀ a ∈ fp, (P a → P' a) ∧ ∀ o, H a = some o → H' a = some o) → SlR K OO' P' H' σ ρ fp
  | _, _, _, .nil, _ => .nil
  | _, _, _, .un v r, k => .un v (r.tr hr k)
  | _, _, _, .som h r, k => .som (h.tr hr fun a ha => k a (List.mem_append_left _ ha)) (r.tr hr fun a ha => k a (List.mem_append_right _ ha))
theorem SlR.inP : ∀ {σ : L2.St} {ρ : List Sl} {fp : List Addr}, SlR K OO P H σ ρ fp → ∀ a ∈ fp, P a ∧ Mok H a
  | _, _, _, .nil, _, h => by cases h
  | _, _, _, .un _ r, a, h => r.inP a h
  | _, _, _, .som h r, a, ha => (List.mem_append.mp ha).elim (h.inP a) (r.inP a)
theorem SlR.get : ∀ {σ : L2.St} {ρ : List Sl} {fp : List Addr} {i n : Nat} {d : D}, SlR K OO P H σ ρ fp → ρ[i]? = some (some (n, d)) → ∃ v fp1, σ[i]? = some (some v) ∧ Ow K OO P H n v d fp1 ∧ ∀ a ∈ fp1, a ∈ fp
  | _, _, _, _, _, _, .nil, e => by simp at e
  | _, _, _, 0, _, _, .un _ r, e => by simp at e
  | _, _, _, 0, _, _, .som h r, e => by
    simp only [List.getElem?_cons_zero, Option.some.injEq, Prod.mk.injEq] at e
    obtain ⟨rfl, rfl⟩ := e
    exact ⟨_, _, rfl, h, fun a ha => List.mem_append_left _ ha⟩
  | _, _, _, i + 1, _, _, .un _ r, e => by
    obtain ⟨v, fp1, h1, h2, h3⟩ := r.get (i := i) (by simpa using e)
    exact ⟨v, fp1, by simpa using h1, h2, h3⟩
  | _, _, _, i + 1, _, _, .som h r, e => by
    obtain ⟨v, fp1, h1, h2, h3⟩ := r.get (i := i) (by simpa using e)
    exact ⟨v, fp1, by simpa using h1, h2, fun a ha => List.mem_append_right _ (h3 a ha)⟩
/-- a slot takes a new value, of a footprint that is apart from all -/
theorem SlR.put {n : Nat} {v : V} {d : D} {fq : List Addr} (h : Ow K OO P H n v d fq) (nq : fq.Nodup) : ∀ {σ : L2.St} {ρ : List Sl} {fp : List Addr} (i : Nat), SlR K OO P H σ ρ fp → fp.Nodup → (∀ a ∈ fq, a ∉ fp) →
    ∃ fp', SlR K OO P H (σ.set i (some v)) (ρ.set i (some (n, d))) fp' ∧ fp'.Nodup ∧ ∀ a ∈ fp', a ∈ fp ∨ a ∈ fq
  | _, _, _, _, .nil, _, _ => ⟨[], .nil, .nil, fun _ h => by cases h⟩
  | _, _, fp, 0, .un _ r, nd, ap => ⟨fq ++ fp, .som h r, List.nodup_append.mpr ⟨nq, nd, fun a ha b hb e => ap a ha (e ▸ hb)⟩, fun a ha => (List.mem_append.mp ha).elim .inr .inl⟩
  | _, _, _, 0, @SlR.som _ _ _ _ _ _ _ fp1 fps _ _ h1 r, nd, ap => ⟨fq ++ fps, .som h r, List.nodup_append.mpr ⟨nq, (List.nodup_append.mp nd).2.1, fun a ha b hb e => ap a ha (e ▸ List.mem_append_right _ hb)⟩, fun a ha => (List.mem_append.mp ha).elim .inr fun z => .inl (List.mem_append_right _ z)⟩
  | _, _, _, i + 1, .un w r, nd, ap => by
    obtain ⟨fp', h1, h2, h3⟩ := SlR.put h nq i r nd ap
    exact ⟨fp', .un w h1, h2, h3⟩
  | _, _, _, i + 1, @SlR.som _ _ _ _ _ _ _ fp1 fps _ _ h1 r, nd, ap => by
    have n2 := List.nodup_append.mp nd
    obtain ⟨fp', h1', h2, h3⟩ := SlR.put h nq i r n2.2.1 fun a ha z => ap a ha (List.mem_append_right _ z)
    refine ⟨fp1 ++ fp', .som h1 h1', List.nodup_append.mpr ⟨n2.1, h2, fun a ha b hb e => ?_⟩, fun a ha => (List.mem_append.mp ha).elim (fun z => .inl (List.mem_append_left _ z)) fun z => (h3 a z).elim (fun z => .inl (List.mem_append_right _ z)) .inr⟩
    subst e
    rcases h3 a hb with z | z
    · exact n2.2.2 a ha a z rfl
    · exact ap a z (List.mem_append_left _ ha)
/-- the object of an owned slot is written, or is owned no longer -/
theorem SlR.mod : ∀ {σ : L2.St} {ρ : List Sl} {fp : List Addr} {i n : Nat} {d : D}, SlR K OO P H σ ρ fp → fp.Nodup → ρ[i]? = some (some (n, d)) →
    ∃ v fp1, σ[i]? = some (some v) ∧ Ow K OO P H n v d fp1 ∧ fp1.Nodup ∧ (∀ a ∈ fp1, a ∈ fp) ∧ ∀ (OO' P' : Addr → Prop) (H' : Hp) (m : Nat) (e : D) (fq : List Addr), (∀ v d, Rp K OO H v d → Rp K OO' H' v d) → (∀ a ∈ fp, a ∉ fp1 → (P a → P' a) ∧ ∀ o, H a = some o → H' a = some o) → Ow K OO' P' H' m v e fq → fq.Nodup → (∀ a ∈ fq, a ∈ fp1 ∨ a ∉ fp) →
      ∃ fp', SlR K OO' P' H' σ (ρ.set i (some (m, e))) fp' ∧ fp'.Nodup ∧ ∀ a ∈ fp', a ∈ fp ∨ a ∈ fq
  | _, _, _, _, _, _, .nil, _, e => by simp at e
  | _, _, _, 0, _, _, .un _ r, _, e => by simp at e
  | _, _, _, 0, _, _, @SlR.som _ _ _ _ _ v _ fp1 fps _ _ h r, nd, e => by
    simp only [List.getElem?_cons_zero, Option.some.injEq, Prod.mk.injEq] at e
    obtain ⟨rfl, rfl⟩ := e
    have n2 := List.nodup_append.mp nd
    refine ⟨v, fp1, rfl, h, n2.1, fun a ha => List.mem_append_left _ ha, fun OO' P' H' m e fq hr k ho nq ap => ⟨fq ++ fps, .som ho (r.tr hr fun a ha => k a (List.mem_append_right _ ha) fun z => n2.2.2 a z a ha rfl), List.nodup_append.mpr ⟨nq, n2.2.1, fun a ha b hb e => ?_⟩, fun a ha => (List.mem_append.mp ha).elim .inr fun z => .inl (List.mem_append_right _ z)⟩⟩
    subst e
    rcases ap a ha with z | z
    · exact n2.2.2 a z a hb rfl
    · exact z (List.mem_append_right _ hb)
  | _, _, _, i + 1, _, _, .un w r, nd, e => by
    obtain ⟨v, fp1, h1, h2, h3, h4, h5⟩ := SlR.mod (i := i) r nd (by simpa using e)
    refine ⟨v, fp1, by simpa using h1, h2, h3, h4, fun OO' P' H' m e fq hr k ho nq ap => ?_⟩
    obtain ⟨fp', g1, g2, g3⟩ := h5 OO' P' H' m e fq hr k ho nq ap
    exact ⟨fp', .un w g1, g2, g3⟩
  | _, _, _, i + 1, _, _, @SlR.som _ _ _ _ _ _ _ fp2 fps _ _ h r, nd, e => by
    have n2 := List.nodup_append.mp nd
    obtain ⟨v, fp1, h1, h2, h3, h4, h5⟩ := SlR.mod (i := i) r n2.2.1 (by simpa using e)
    refine ⟨v, fp1, by simpa using h1, h2, h3, fun a ha => List.mem_append_right _ (h4 a ha), fun OO' P' H' m e fq hr k ho nq ap => ?_⟩
    obtain ⟨fp', g1, g2, g3⟩ := h5 OO' P' H' m e fq hr (fun a ha => k a (List.mem_append_right _ ha)) ho nq fun a ha => (ap a ha).elim .inl fun z => .inr fun y => z (List.mem_append_right _ y)
    refine ⟨fp2 ++ fp', .som (h.tr hr fun a ha => k a (List.mem_append_left _ ha) fun z => n2.2.2 a ha a (h4 a z) rfl) g1, List.nodup_append.mpr ⟨n2.1, g2, fun a ha b hb e => ?_⟩, fun a ha => (List.mem_append.mp ha).elim (fun z => .inl (List.mem_append_left _ z)) fun z => (g3 a z).elim (fun z => .inl (List.mem_append_right _ z)) .inr⟩
    subst e
    rcases g3 a hb with z | z
    · exact n2.2.2 a ha a z rfl
    · rcases ap a z with y | y
      · exact n2.2.2 a ha a (h4 a y) rfl
      · exact y (List.mem_append_left _ ha)
end

/-- the state of a body: O, what callers own; H0, the heap at the entry; P, what was made to be owned here -/

def PinR (E : Ent) (σ : L2.St) (ρ : List Sl) : Prop := ∀ a d, E.pin = some a → ρ[0]? = some (some (3, d)) → σ[0]? = some (some (.ref a))
theorem set_z {ρ : List Sl} {n : Nat} {d e : D} {i : Nat} (h : (ρ.set i (some (n, d)))[0]? = some (some (3, e))) : (i = 0 ∧ n = 3 ∧ 0 < ρ.length) ∨ ρ[0]? = some (some (3, e)) := by
  by_cases hi : i = 0
  · subst hi
    cases ρ with
    | nil => cases h
    | cons x ρ =>
      simp only [List.set_cons_zero, List.getElem?_cons_zero, Option.some.injEq, Prod.mk.injEq] at h
      exact .inl ⟨rfl, h.1, by simp⟩
  · rw [List.getElem?_set_ne hi] at h
    exact .inr h
theorem PinR.put {E : Ent} {σ : L2.St} {ρ : List Sl} (p : PinR E σ ρ) {n : Nat} (hn : n ≠ 3) (d : D) (v : V) (i : Nat) : PinR E (σ.set i (some v)) (ρ.set i (some (n, d))) := fun a e h1 h2 => by
  by_cases hi : i = 0
  · subst hi
    cases ρ with
    | nil => cases h2
    | cons x ρ =>
      simp only [List.set_cons_zero, List.getElem?_cons_zero, Option.some.injEq, Prod.mk.injEq] at h2
      exact absurd h2.1 hn
  · rw [List.getElem?_set_ne hi] at h2 ⊢
    exact p a e h1 h2
theorem PinR.setN {E : Ent} {σ : L2.St} {ρ : List Sl} (p : PinR E σ ρ) {n : Nat} (hn : n ≠ 3) (d : D) (i : Nat) : PinR E σ (ρ.set i (some (n, d))) := fun a e h1 h2 => (set_z h2).elim (fun z => absurd z.2.1 hn) (p a e h1)
theorem PinR.keep {E : Ent} {σ : L2.St} {ρ : List Sl} (p : PinR E σ ρ) {n i : Nat} {d0 : D} (q : ρ[i]? = some (some (n, d0))) (d : D) : PinR E σ (ρ.set i (some (n, d))) := fun a e h1 h2 => (set_z h2).elim (fun z => p a d0 h1 (by obtain ⟨rfl, rfl, _⟩ := z; exact q)) (p a e h1)
theorem PinR.drop {E : Ent} {σ : L2.St} {ρ : List Sl} (p : PinR E σ ρ) (v : Nat) : PinR E σ (ρ.set v none) := fun a e h1 h2 => by
  by_cases hi : v = 0
  · subst hi
    cases ρ with
    | nil => cases h2
    | cons x ρ => simp at h2
  · rw [List.getElem?_set_ne hi] at h2
    exact p a e h1 h2
theorem PinR.putU {E : Ent} {σ : L2.St} {ρ : List Sl} (p : PinR E σ ρ) (v : Nat) (w : Option V) (e0 : ρ.set v none = ρ) : PinR E (σ.set v w) ρ := fun a e h1 h2 => by
  by_cases hi : v = 0
  · subst hi
    cases ρ with
    | nil => cases h2
    | cons x ρ =>
      have := (List.cons.inj e0).1
      subst this
      simp at h2
  · rw [List.getElem?_set_ne hi]
    exact p a e h1 h2
structure SE (K : PySem.W.Frag) (O : Addr → Prop) (H0 : Ent) (P : Addr → Prop) (H : Hp) (σ : L2.St) (ρ : List Sl) : Prop where
  same : SameB H0 H
  odom : ∀ a, O a → ∃ o, H0.H a = some o
  oB : ∀ a, O a → ¬ H0.B a
  pnew : ∀ a, P a → (H0.B a ∨ H0.H a = none) ∧ Mok H a
  rep : ∃ fp, SlR K (fun a => O a ∨ P a) P H σ ρ fp ∧ fp.Nodup
  pin : PinR H0 σ ρ
def bor (ρ : List Sl) : Env := ρ.map fun s => s.map (·.2)
def stc (ρ : List Sl) : Env := ρ.map fun s => match s with
  | some (0, d) => some d
  | _ => none
section
variable {K : PySem.W.Frag} {O P : Addr → Prop} {H0 : Ent} {H H' : Hp} {σ : L2.St} {ρ : List Sl}
theorem SE.dom (s : SE K O H0 P H σ ρ) : ∀ a, (O a ∨ P a) → ∃ o, H a = some o := fun a z => z.elim (fun z => let ⟨o, e⟩ := s.odom a z; ⟨o, (s.same _ _ e).1 (s.oB a z)⟩) fun z => let ⟨_, o, e, _⟩ := s.pnew a z; ⟨o, e⟩
theorem SE.pO (s : SE K O H0 P H σ ρ) : ∀ a, P a → ¬ O a := fun a z y => by
  obtain ⟨o, e⟩ := s.odom a y
  rcases (s.pnew a z).1 with b | b
  · exact s.oB a y b
  · rw [b] at e; cases e
theorem SE.bor (s : SE K O H0 P H σ ρ) : EnvR K O H σ (bor ρ) := by
  obtain ⟨fp, r, nd⟩ := s.rep
  refine ⟨by unfold DE.bor; rw [List.length_map]; exact r.len, fun a z => s.dom a (.inl z), fun i d h => ?_⟩
  unfold DE.bor at h
  rw [List.getElem?_map] at h
  cases e : ρ[i]? with
  | none => rw [e] at h; cases h
  | some o => cases o with
    | none => rw [e] at h; cases h
    | some p =>
      obtain ⟨n, d'⟩ := p
      rw [e] at h
      cases h
      obtain ⟨v, fp1, h1, h2, _⟩ := r.get e
      exact ⟨v, h1, h2.rp (fun a z => .inl z) fun a ha => s.pO a (h2.inP a ha).1⟩
theorem SE.stc (s : SE K O H0 P H σ ρ) : EnvR K (fun a => O a ∨ P a) H σ (stc ρ) := by
  obtain ⟨fp, r, nd⟩ := s.rep
  refine ⟨by unfold DE.stc; rw [List.length_map]; exact r.len, s.dom, fun i d h => ?_⟩
  unfold DE.stc at h
  rw [List.getElem?_map] at h
  cases e : ρ[i]? with
  | none => rw [e] at h; cases h
  | some o => cases o with
    | none => rw [e] at h; cases h
    | some p =>
      obtain ⟨n, d'⟩ := p
      cases n with
      | succ n => rw [e] at h; cases h
      | zero =>
        rw [e] at h
        cases h
        obtain ⟨v, fp1, h1, h2, _⟩ := r.get e
        cases h2 with | fz r2 => exact ⟨v, h1, r2⟩
theorem SE.mono (s : SE K O H0 P H σ ρ) (t : Same H H') : SE K O H0 P H' σ ρ := by
  obtain ⟨fp, r, nd⟩ := s.rep
  exact ⟨s.same.trans t, s.odom, s.oB, fun a z => ⟨(s.pnew a z).1, (s.pnew a z).2.same t⟩, ⟨fp, r.tr (fun v d r => r.mono t) (fun a _ => ⟨fun z => z, fun xs e => t _ _ e⟩), nd⟩, s.pin⟩
/-- more is made to be owned -/
theorem SE.more {P' : Addr → Prop} (s : SE K O H0 P H σ ρ) (t : Same H H') (hP : ∀ a, P' a → P a ∨ (H a = none ∧ Mok H' a)) (hP2 : ∀ a, P a → P' a) : SE K O H0 P' H' σ ρ := by
  obtain ⟨fp, r, nd⟩ := s.rep
  refine ⟨s.same.trans t, s.odom, s.oB, fun a z => ?_, ⟨fp, r.tr (fun v d r => (r.more fun a z => ?_).mono t) (fun a _ => ⟨hP2 a, fun xs e => t _ _ e⟩), nd⟩, s.pin⟩
  · rcases hP a z with y | y
    · exact ⟨(s.pnew a y).1, (s.pnew a y).2.same t⟩
    · exact ⟨.inr (s.same.free y.1), y.2⟩
  · rcases z with z | z
    · exact .inl (.inl z)
    · exact (hP a z).elim (fun y => .inl (.inr y)) fun y => .inr y.1
theorem SE.put {n : Nat} {v : V} {d : D} {fq : List Addr} (s : SE K O H0 P H σ ρ) (h : Ow K (fun a => O a ∨ P a) P H n v d fq) (nq : fq.Nodup) (ap : ∀ fp, SlR K (fun a => O a ∨ P a) P H σ ρ fp → ∀ a ∈ fq, a ∉ fp) (i : Nat) (hn : n ≠ 3) : SE K O H0 P H (σ.set i (some v)) (ρ.set i (some (n, d))) := by
  obtain ⟨fp, r, nd⟩ := s.rep
  obtain ⟨fp', h1, h2, _⟩ := SlR.put h nq i r nd (ap fp r)
  exact ⟨s.same, s.odom, s.oB, s.pnew, ⟨fp', h1, h2⟩, s.pin.put hn d v i⟩
theorem SE.put0 {v : V} {d : D} (s : SE K O H0 P H σ ρ) (h : Rp K (fun a => O a ∨ P a) H v d) (i : Nat) : SE K O H0 P H (σ.set i (some v)) (ρ.set i (some (0, d))) := s.put (.fz h) .nil (fun _ _ _ h => by cases h) i (by decide)
/-- a slot's lists are owned no longer -/
theorem SE.frz {n : Nat} {d : D} {i : Nat} (s : SE K O H0 P H σ ρ) (e : ρ[i]? = some (some (n, d))) : ∃ P', (∀ a, P' a → P a) ∧ SE K O H0 P' H σ (ρ.set i (some (0, d))) := by
  obtain ⟨fp, r, nd⟩ := s.rep
  obtain ⟨v, fp1, h1, h2, h3, h4, h5⟩ := SlR.mod r nd e
  refine ⟨fun a => P a ∧ a ∉ fp1, fun a z => z.1, s.same, s.odom, s.oB, fun a z => s.pnew a z.1, ?_, s.pin.setN (by decide) d i⟩
  obtain ⟨fp', g1, g2, _⟩ := h5 (fun a => O a ∨ (P a ∧ a ∉ fp1)) (fun a => P a ∧ a ∉ fp1) H 0 d [] (fun v d r => r.less fun a z => z.elim .inl fun z => .inr z.1) (fun a _ na => ⟨fun p => ⟨p, na⟩, fun xs e => e⟩)
    (.fz (h2.rp (fun a z => z.elim .inl fun z => .inr z.1) fun a ha z => z.elim (s.pO a (h2.inP a ha).1) fun z => z.2 ha)) .nil (fun a ha => by cases ha)
  exact ⟨fp', g1, g2⟩
end
end DE
set_option linter.all false
set_option maxRecDepth 100000
set_option maxHeartbeats 4000000
namespace DE
open PySem PySem.Spec PyProof.Rows L2
section
variable {X : Cx} {Γ : G} {cv : Str → Value} {lvl : Nat} {W : WX}
theorem lookup_zip {f : Str} : ∀ {ns : List Str} {xs : List V} {j : Nat}, ns.length = xs.length → ns.findIdx? (fun p => decide (p = f)) = some j → ∃ v, (ns.zip xs).lookup f = some v ∧ xs[j]? = some v
  | [], _, _, _, e => by cases e
  | _ :: _, [], _, l, _ => by cases l
  | n :: ns, x :: xs, j, l, e => by
    rw [List.findIdx?_cons] at e
    by_cases h : n = f
    · subst h
      simp only [decide_true, if_true] at e
      cases e
      exact ⟨x, by rw [List.zip_cons_cons, List.lookup_cons_self], rfl⟩
    · simp only [h, decide_false] at e
      cases q : ns.findIdx? (fun p => decide (p = f)) with
      | none => rw [q] at e; cases e
      | some i =>
        rw [q] at e
        cases e
        obtain ⟨v, h1, h2⟩ := lookup_zip (Nat.succ.inj l) q
        refine ⟨v, ?_, by simpa using h2⟩
        have hb : (f == n) = false := beq_eq_false_iff_ne.mpr fun z => h z.symm
        rw [List.zip_cons_cons, List.lookup_cons, hb]
        exact h1
theorem lookup_zipN {m : Str} : ∀ {ns : List Str} {xs : List V}, (ns.any fun p => decide (p = m)) = false → (ns.zip xs).lookup m = none
  | [], _, _ => by simp
  | _ :: _, [], _ => by simp
  | n :: ns, x :: xs, e => by
    rw [List.any_cons, Bool.or_eq_false_iff] at e
    have h : ¬ n = m := of_decide_eq_false e.1
    have hb : (m == n) = false := beq_eq_false_iff_ne.mpr fun z => h z.symm
    rw [List.zip_cons_cons, List.lookup_cons, hb]
    exact lookup_zipN e.2
theorem fldIx_map (fs : List (Str × Nat)) (f : Str) : fldIx fs f = (fs.map (·.1)).findIdx? fun p => decide (p = f) := by
  unfold fldIx
  rw [List.findIdx?_map]
  rfl
theorem cls_of {K : PySem.W.Frag} (ok : ∀ p ∈ Γ.cls, ClOk K p) {c f : Str} (h : (Γ.cls.any fun p => decide (p.1 = c) && p.2.any (fun g => decide (g = f))) = true) {C : Addr} (hC : PySem.W.nsIn K mainGlobals c = some (some (.ref C))) : Cls K C ∧ NoAttr K C f := by
  obtain ⟨p, hp, h2⟩ := List.any_eq_true.mp h
  rw [Bool.and_eq_true] at h2
  have e1 := of_decide_eq_true h2.1
  obtain ⟨g, hg, e2⟩ := List.any_eq_true.mp h2.2
  have e2 := of_decide_eq_true e2
  subst e1; subst e2
  obtain ⟨C', hC', c1, n1⟩ := (ok p hp).ex
  rw [hC] at hC'
  cases hC'
  exact ⟨c1, n1 g hg⟩
/-- what stands behind an attribute -/
theorem fld_of {O : Addr → Prop} {H : Hp} {v : V} {d e : D} {f : Str} (ok : ∀ p ∈ Γ.cls, ClOk X.K p) (r : Rp X.K O H v d) (h : fldD Γ f d = some e) :
    ∃ a C dx fs w, v = .ref a ∧ H a = some (.ins C dx fs) ∧ Cls X.K C ∧ NoAttr X.K C f ∧ fs.lookup f = some w ∧ Rp X.K O H w e := by
  cases r with
  | @obj a dx C c fs xs ds h1 l hc n r =>
    unfold fldD at h
    dsimp only at h
    by_cases hz : (Γ.cls.any fun p => decide (p.1 = c) && p.2.any (fun g => decide (g = f))) = true ∧ fs.length = ds.length
    case neg => rw [if_neg hz] at h; cases h
    rw [if_pos hz] at h
    cases q : fldIx fs f with
    | none => rw [q] at h; cases h
    | some j =>
      rw [q] at h
      obtain ⟨c1, n1⟩ := cls_of ok hz.1 hc
      rw [fldIx_map] at q
      obtain ⟨w, h2, h3⟩ := lookup_zip (by rw [List.length_map]; exact l) q
      obtain ⟨w', h4, h5⟩ := r.get h
      rw [h3] at h4
      cases h4
      exact ⟨a, C, dx, _, w, rfl, h1, c1, n1, h2, h5⟩
  | non => cases h
  | bl _ => cases h
  | int _ => cases h
  | str _ => cases h
  | tup _ _ => cases h
  | lst _ _ _ => cases h
  | scr _ => cases h
  | dK _ _ _ _ => cases h
  | dT _ _ _ _ _ _ => cases h
theorem attr_nm {e : Expr} (h : isName e = true) (f : Str) (env : PySem.Env) : attributeBase e f env (eval e env) = eval e env := by
  cases e <;> first | rfl | cases h
theorem s_fld (ok : OkX Γ cv lvl X W) {a : Expr} {f : Str} {pos : Pos} {fa : Env → M D} (hn : isName a = true) (ha : PE X a (tD X.K cv W fa)) : PE X (.Attribute a f pos) (tD X.K cv W fun ρ => bnd (fa ρ) fun x => lft (fldD Γ f x)) :=
  PE.weak (pe_fld ha (attr_nm hn f X.env)) fun σ H Q ⟨O, ρ, env, g⟩ =>
    tD.of env ((GoG.bndE (R := Rp X.K O) g).wk fun x H1 ⟨d, s1, rd, g1⟩ => by
      obtain ⟨e, he, q⟩ := g1.lftE
      obtain ⟨p, C, dx, fs, w, h1, h2, h3, h4, h5, h6⟩ := fld_of ok.cls rd he
      exact ⟨p, C, dx, fs, w, h1, h2, h3, h4, h5, q H1 w (Same.refl _) h6⟩)
theorem meth_tree {o : Expr} {m : Str} {apos pos : Pos} {args : List Expr} {env : PySem.Env} (hb : attributeBase o m env (eval o env) = eval o env) (hs : ∀ e ∈ args, noStar e = true) (hl : args.length < 29) (hline : (apos.endLine == pos.line) = true) :
    eval (.Call (.Attribute o m apos) args [] pos) env = (do
      let ov ← eval o env
      standAt apos.atName
      let (f, first) ← holding [ov] (getMethod ov m (do return (← importBound o env).getD true))
      callWith pos f first (backTo pos (starEach args env)) (backToKw pos (keywordEach [] env))) := by
  have h1 : (backTo pos (starEach args env)).all (fun x => !x.1) = true := by
    have := stAny (pos := pos) (env := env) hs
    rw [List.any_eq_false] at this
    rw [List.all_eq_true]
    intro x hx
    simpa using this x hx
  have hform : methodCallForm (args.length + ([] : List Keyword).length) (backTo pos (starEach args env)) (backToKw pos (keywordEach [] env)) = true := by
    show ((backTo pos (starEach args env)).all (fun x => !x.1) && true && decide (args.length + 0 + 0 < 30)) = true
    rw [h1, decide_eq_true (by omega)]
    rfl
  have hpos : methodCallPos true o env apos pos = pure pos := by unfold methodCallPos; simp [hline]
  rw [arm_eval_Call, hb]
  unfold methodCall calleeOf
  rw [hform, hpos]
  rfl
section
variable {CX : CXT} {k : Nat} {f C : Addr} {fd : FuncData} {ps : List Str} {sp : Sp} {E : L2.St → XK} {x m : Str} {p pos apos : Pos} {e o : Expr} {es : List Expr} {ta : TE} {t : TA}
def tMethS (C : Addr) (m : Str) (sp : Sp) (E : L2.St → XK) (ta : TE) (t : TA) : TE := fun σ H Q => ta σ H fun x H1 => ∃ a dx fs, x = .ref a ∧ H1 a = some (.ins C dx fs) ∧ fs.lookup m = none ∧
  t σ H1 fun vs H2 => sp (x :: vs) H2 Q (E σ)
theorem pe_methS2 {pl : Sem Bool} (he : PE X o ta) (c : Cls X.K C) (hm : Meth X.K C m f) (F : FnOk X.prog X.w X.K X.mg X.base CX k f fd ps sp) (hr : Room k X.A) (hb : Binds X.K fd ps []) (hx : ∀ σ, PassesAt CX X σ (E σ)) (ha : PA X (e :: es) t)
    (hst : starEach (e :: es) X.env = (false, eval e X.env) :: starEach es X.env) (hpl : (backTo pos (starEach es X.env)).any (·.1) = false)
    (ht : eval (.Call (.Attribute o m apos) (e :: es) [] pos) X.env = (do
      let ov ← eval o X.env
      standAt apos.atName
      let (f, first) ← holding [ov] (getMethod ov m pl)
      callWith pos f first (backTo pos (starEach (e :: es) X.env)) (backToKw pos (keywordEach [] X.env)))) :
    PE X (.Call (.Attribute o m apos) (e :: es) [] pos) (tMethS C m sp E ta t) := by
  refine ⟨fun pins s σ H Q I h => ?_⟩
  refine PySem.W.methodCall_KW (pl := pl) (thn (he.run pins s σ H _ I h) fun u s1 ⟨x, H1, I1, rx, a, dx, fs, ex, ea, l, q⟩ => ?_) ht
  subst ex
  obtain rfl : u = Value.ref a := rx
  refine getmeth_ok I1 ea c hm l ?_
  refine PySem.W.callWith_K (first := [.ref a]) (h₀ := X.base) I.ok.mod.kin hm.kp (thn (ha.run pos pins s1 σ H1 _ I1 q) fun us s2 ⟨vs, H2, I2, r, q2⟩ => ⟨I2.kIn, ?_⟩) hst hpl
  exact run_fnS (us := .ref a :: us) (vs := .ref a :: vs) F hr hb (hx σ) I2 (.cons rfl r) q2
def tMakeS (C : Addr) (sp : Sp) (E : L2.St → XK) (t : TA) : TE := fun σ H Q => t σ H fun vs H1 => ∀ x dx, H1 x = none → H1 dx = none → dx ≠ x →
  sp (.ref x :: vs) (upd (upd H1 dx (.own x)) x (.ins C dx [])) (fun v H2 => v = .non ∧ Q (.ref x) H2) (E σ)
theorem run_makeS {pins : List (Addr × Obj)} {σ : L2.St} {H : Hp} {s : Shared} {Q : VK} {us : List Value} {vs : List V} (M : Mk X.K C f) (F : FnOk X.prog X.w X.K X.mg X.base CX k f fd ps sp) (hr : Room (k + 1) X.A) (hb : Binds X.K fd ps [])
    (hx : PassesAt CX X σ (E σ)) (I : Inv X pins σ H s) (r : Vals vs us)
    (h : ∀ x dx, H x = none → H dx = none → dx ≠ x → sp (.ref x :: vs) (upd (upd H dx (.own x)) x (.ins C dx [])) (fun v H2 => v = .non ∧ Q (.ref x) H2) (E σ)) :
    wpAny (model X.prog X.w) X.A (call (.ref C) us) (EP X pins σ Q) X.xe s := by
  have hq := h (s.heap.objs.size + 1) s.heap.objs.size (I.hok.fresh (Nat.le_succ _)) (I.hok.fresh (Nat.le_refl _)) (Nat.ne_of_lt (Nat.lt_succ_self _))
  have I2 := Inv.made (C := C) I
  have r2 : Vals (V.ref (s.heap.objs.size + 1) :: vs) (Value.ref (s.heap.objs.size + 1) :: us) := .cons rfl r
  have hl : (Value.ref (s.heap.objs.size + 1) :: us).length = ps.length := by
    have e := r2.length
    rw [F.len _ _ _ _ hq] at e
    exact e.symm
  have b := hb _ (Value.ref (s.heap.objs.size + 1) :: us) I2.kIn (by rw [List.append_nil]; exact hl)
  rw [List.append_nil] at b
  refine wpAny_call (make_map (f := f) I.kIn M.makes M.init (beq_iff_eq.mp M.fn) (codeAny_mono (F.run _ X.stack _ _ ⟨Value.ref (s.heap.objs.size + 1) :: us, []⟩ (Value.ref (s.heap.objs.size + 1) :: us) _ _ (E σ) (hr.make C us [])
    (I2.env0.make C us []) b r2 hq) fun r s' hq' => ?_))
  cases r with
  | error e => exact hx pins _ _ e s' I2 hq'
  | ok fl =>
    cases fl with
    | ret u =>
      obtain ⟨v, H', I3, rv, ev, q3⟩ := I2.after hq'
      subst ev
      exact ⟨rv, ⟨V.ref (s.heap.objs.size + 1), H', I3, rfl, q3⟩⟩
    | next => exact False.elim hq'
    | brk => exact False.elim hq'
    | cont => exact False.elim hq'
theorem pe_makeS (M : Mk X.K C f) (F : FnOk X.prog X.w X.K X.mg X.base CX k f fd ps sp) (hr : Room (k + 1) X.A) (hg : Gl X x) (hm : X.mg x = some (.ref C)) (hb : Binds X.K fd ps []) (hx : ∀ σ, PassesAt CX X σ (E σ))
    (ha : PA X (e :: es) t) (hdb : (x == ("__debug__" : Str)) = false) (he : starEach (e :: es) X.env = (false, eval e X.env) :: starEach es X.env) (hpl : (backTo pos (starEach es X.env)).any (·.1) = false) :
    PE X (.Call (.Name x p) (e :: es) [] pos) (tMakeS C sp E t) := by
  refine ⟨fun pins s σ H Q I h => ?_⟩
  refine wpAny_Call_Name_kw (ld_glob I hg hm ?_ hdb)
  refine PySem.W.callWith_K (h₀ := X.base) I.ok.mod.kin M.kp (thn (ha.run pos pins s σ H _ I h) fun us s1 ⟨vs, H1, I1, r, q⟩ => ⟨I1.kIn, ?_⟩) he hpl
  exact run_makeS M F hr hb (hx σ) I1 r q
end
theorem obj_of {O : Addr → Prop} {H : Hp} {v : V} {d : D} {c m : Str} (r : Rp X.K O H v d) (h : isObj c m d = true) : ∃ a C dx fs, v = .ref a ∧ PySem.W.nsIn X.K mainGlobals c = some (some (.ref C)) ∧ H a = some (.ins C dx fs) ∧ fs.lookup m = none := by
  cases r with
  | @obj a dx C c' fs xs ds h1 l hc n r =>
    unfold isObj at h
    simp only [Bool.and_eq_true, decide_eq_true_eq, Bool.not_eq_true'] at h
    obtain ⟨rfl, h2⟩ := h
    exact ⟨a, C, dx, _, rfl, hc, h1, lookup_zipN (by rw [List.any_map]; exact h2)⟩
  | non => cases h
  | bl _ => cases h
  | int _ => cases h
  | str _ => cases h
  | tup _ _ => cases h
  | lst _ _ _ => cases h
  | scr _ => cases h
  | dK _ _ _ _ => cases h
  | dT _ _ _ _ _ _ => cases h
theorem s_mth (ok : OkX Γ cv lvl X W) {i : Nat} {q : MtI} {o : Expr} {m : Str} {apos pos : Pos} {e : Expr} {es : List Expr} {fa : Env → M D} {g : Env → M (List D)} (hi : Γ.mts[i]? = some q) (hx : m = q.m) (hlen : ∀ ρ ds, g ρ = some (.ok ds) → ds.length = q.np)
    (hn : isName o = true) (hline : (apos.endLine == pos.line) = true) (hl : es.length < 28) (hs : ∀ e' ∈ e :: es, noStar e' = true) (ho : PE X o (tD X.K cv W fa)) (ha : PA X (e :: es) (tA X.K cv W g)) :
    PE X (.Call (.Attribute o m apos) (e :: es) [] pos) (tD X.K cv W fun ρ => bnd (fa ρ) fun x => if isObj q.c q.m x = true then bnd (g ρ) fun ds => q.f (x :: ds) else none) := by
  subst hx
  obtain ⟨C, f, fd, ps, hps, hC, F, B, hcl, hm⟩ := (ok.mts i q hi).ex
  have key : PE X (.Call (.Attribute o q.m apos) (e :: es) [] pos) (tMethS C q.m (spD X.K cv (q.np + 1) q.f) (WE W) (tD X.K cv W fa) (tA X.K cv W g)) :=
    pe_methS2 ho hcl hm F ok.room B (fun σ => L2N.passAt ok.tk σ) ha (stE (hs e List.mem_cons_self) es X.env) (stAny fun e he => hs e (List.mem_cons_of_mem _ he)) (meth_tree (attr_nm hn q.m X.env) hs (by rw [List.length_cons]; omega) hline)
  refine PE.weak key fun σ H Q ⟨O, ρ, env, g'⟩ => ?_
  refine tD.of env ((GoG.bndE (R := Rp X.K O) g').wk fun x H1 ⟨d, s1, rd, g1⟩ => ?_)
  by_cases h : isObj q.c q.m d = true
  case neg => rw [if_neg h] at g1; exact g1.elim
  rw [if_pos h] at g1
  obtain ⟨a, C', dx, fs, ex, hC', h1, h2⟩ := obj_of rd h
  rw [hC] at hC'
  cases hC'
  refine ⟨a, dx, fs, ex, h1, h2, tA.of (env.mono s1) ?_⟩
  cases e1 : g ρ with
  | none => rw [e1] at g1; exact g1
  | some r => cases r with
    | error c => rw [e1] at g1; exact g1
    | ok ds =>
      rw [e1] at g1
      intro H2 vs s2 rs
      exact ⟨O, d :: ds, by rw [List.length_cons, rs.length, hlen ρ ds e1], (env.mono (s1.trans s2)).dom, .cons (rd.mono s2) rs, GoG.mono s2 g1⟩
theorem same_mk {H : Hp} {x dx : Addr} {o u : HO} (h1 : H x = none) (h2 : H dx = none) : Same H (upd (upd H dx o) x u) := fun b w q => by
  rw [upd_ne (ne_of_none q h1), upd_ne (ne_of_none q h2)]
  exact q
theorem s_new (ok : OkX Γ cv lvl X W) {i : Nat} {q : MkI} {x : Str} {p pos : Pos} {e : Expr} {es : List Expr} {g : Env → M (List D)} (hi : Γ.mks[i]? = some q) (hx : x = q.c) (hmi : q.m = "__init__") (hlen : ∀ ρ ds, g ρ = some (.ok ds) → ds.length = q.np)
    (hdb : (x == ("__debug__" : Str)) = false) (hg : Gl X x) (hs : ∀ e' ∈ e :: es, noStar e' = true) (ha : PA X (e :: es) (tA X.K cv W g)) :
    PE X (.Call (.Name x p) (e :: es) [] pos) (tD X.K cv W fun ρ => bnd (g ρ) fun ds => bnd (q.f (.obj q.c [] []) ds) fun r => match r.1 with
      | .non => some (.ok r.2)
      | _ => none) := by
  subst hx
  obtain ⟨C, f, fd, ps, j, hps, hC, hj, F, B, hcl, hm⟩ := (ok.mks i q hi).ex
  obtain ⟨hmg, M⟩ := hm.1 hmi
  have key : PE X (.Call (.Name q.c p) (e :: es) [] pos) (tMakeS C (spM X.K cv q.np q.f) (WE W) (tA X.K cv W g)) :=
    pe_makeS M F (ok.room.mono hj) hg hmg B (fun σ => L2N.passAt ok.tk σ) ha hdb (stE (hs e List.mem_cons_self) es X.env) (stAny fun e he => hs e (List.mem_cons_of_mem _ he))
  refine PE.weak key fun σ H Q ⟨O, ρ, env, g'⟩ => ?_
  refine tA.of env ?_
  try dsimp only at g'
  cases e1 : g ρ with
  | none => rw [e1] at g'; exact g'
  | some r => cases r with
    | error c => rw [e1] at g'; exact g'
    | ok ds =>
      rw [e1, bnd_ok] at g'
      intro H1 vs s1 rs x dx hx hdx ne
      have sm : Same H1 (upd (upd H1 dx (.own x)) x (.ins C dx [])) := same_mk hx hdx
      have nO : ∀ b, O b → b ≠ x := fun b z e => by
        obtain ⟨o, q⟩ := env.dom b z
        have := s1 _ _ q
        rw [e, hx] at this; cases this
      refine ⟨O, fun b => b = x, x, vs, .obj q.c [] [], ds, [x], rfl, by rw [rs.length, hlen ρ ds e1], fun b z => let ⟨o, q⟩ := env.dom b z; ⟨o, sm _ _ (s1 _ _ q)⟩, nO, fun b z => z ▸ ⟨_, upd_same, trivial⟩, ?_, .ob (n := 0) (xs := []) (fs := []) (by exact upd_same) rfl hC rfl .nil, List.nodup_cons.mpr ⟨by simp, .nil⟩, ?_⟩
      · exact (rs.more fun b z => z.elim .inl fun z => .inr (z ▸ hx)).mono sm
      cases e2 : q.f (.obj q.c [] []) ds with
      | none => rw [e2] at g'; exact g'
      | some r => cases r with
        | error c =>
          rw [e2] at g'
          exact fun H' sb => g' H' (s1.trans fun b o q => (sb b o (sm _ _ q)).1 fun z => by subst z; rw [hx] at q; cases q)
        | ok r =>
          rw [e2, bnd_ok] at g'
          intro H2 v Pn fp' sb hP ow nd rv
          have s2 : Same H1 H2 := fun b o q => (sb b o (sm _ _ q)).1 fun z => by subst z; rw [hx] at q; cases q
          obtain ⟨r1, r2⟩ := r
          cases r1 <;> try exact g'.elim
          cases rv
          refine ⟨rfl, g' H2 (.ref x) (s1.trans s2) (ow.rp (fun a z => .inl z) fun b hb z => ?_)⟩
          obtain ⟨o, q⟩ := env.dom b z
          rcases (hP b (ow.inP b hb).1).1 with h | h
          · exact nO b z h
          · have := sm _ _ (s1 _ _ q)
            rw [h] at this; cases this
/-! ### displays, stars, reversals -/
theorem x_one {a : Expr} {p : Pos} {fa : Env → M D} (ha : PE X a (tD X.K cv W fa)) : PA X [.Starred a p] (tA X.K cv W fun ρ => bnd (bnd (fa ρ) fun d => some (.ok [d])) fun ds => lft (starL ds)) := by
  refine PA.weak (StX.pa_star ha pa_nil) fun σ H Q ⟨O, ρ, env, g⟩ => tD.of env ?_
  dsimp only at g
  cases e1 : fa ρ with
  | none => rw [e1] at g; exact g
  | some r => cases r with
    | error c => rw [e1] at g; exact g
    | ok d =>
      rw [e1, bnd_ok, bnd_ok] at g
      intro H1 v s1 r
      obtain ⟨xs, ex, q⟩ := g.lftE
      cases r with
      | tup h r => cases ex; exact ⟨_, _, rfl, .inl h, by show Q (_ ++ []) H1; rw [List.append_nil]; exact q H1 _ s1 r⟩
      | lst h n r => cases ex; exact ⟨_, _, rfl, .inr (SqL.of h), by show Q (_ ++ []) H1; rw [List.append_nil]; exact q H1 _ s1 r⟩
      | scr h => cases ex; exact ⟨_, _, rfl, .inr h.seq, by show Q (_ ++ []) H1; rw [List.append_nil]; exact q H1 _ s1 (Rps.of_ints _)⟩
      | non => cases ex
      | bl _ => cases ex
      | int _ => cases ex
      | str _ => cases ex
      | obj _ _ _ _ _ => cases ex
      | dK _ _ _ _ => cases ex
      | dT _ _ _ _ _ _ => cases ex
theorem x_cons {a : Expr} {es : List Expr} {fa : Env → M D} {f : Env → M (List D)} (hs : noStar a = true) (hne : ∀ ρ ds, f ρ = some (.ok ds) → ds ≠ []) (ha : PE X a (tD X.K cv W fa)) (hr : PA X es (tA X.K cv W fun ρ => bnd (f ρ) fun ds => lft (starL ds))) :
    PA X (a :: es) (tA X.K cv W fun ρ => bnd (bnd (fa ρ) fun d => bnd (f ρ) fun ds => some (.ok (d :: ds))) fun ds => lft (starL ds)) := by
  refine PA.weak (pa_cons ha hr (stE hs es X.env)) fun σ H Q ⟨O, ρ, env, g⟩ => tD.of env ?_
  dsimp only at g
  cases e1 : fa ρ with
  | none => rw [e1] at g; exact g
  | some r => cases r with
    | error c => rw [e1] at g; exact g
    | ok d =>
      rw [e1, bnd_ok] at g
      intro H1 v s1 r
      refine tA.of (env.mono s1) ?_
      cases e2 : f ρ with
      | none => rw [e2] at g; exact g
      | some r => cases r with
        | error c => rw [e2] at g; exact fun H' s => g H' (s1.trans s)
        | ok ds =>
          rw [e2, bnd_ok, bnd_ok] at g
          rw [bnd_ok]
          cases ds with
          | nil => exact absurd rfl (hne ρ [] e2)
          | cons d2 ds =>
            obtain ⟨xs, ex, q⟩ := g.lftE
            simp only [starL] at ex
            cases e3 : starL (d2 :: ds) with
            | none => rw [e3] at ex; cases ex
            | some ys =>
              rw [e3] at ex
              cases ex
              exact fun H2 vs s2 rs => q H2 _ (s1.trans s2) (.cons (r.mono s2) rs)
/-! a tuple or a list from its end: how many places, and which items -/
theorem back_many (n : Nat) : Builtin.Slice.slicePlaces ((n : Int) - 1) (-1) (-1) = n := by
  cases n with
  | zero => rfl
  | succ n =>
    have up : ((n + 1 : Nat) : Int) - 1 > -1 := by omega
    have dn : ¬ (-1 : Int) > 0 := by decide
    simp only [Builtin.Slice.slicePlaces, dn, up, if_false, if_true]
    have : (((n + 1 : Nat) : Int) - 1 - -1 - 1) / (- -1) + 1 = ((n + 1 : Nat) : Int) := by
      rw [show (- -1 : Int) = 1 by decide, Int.ediv_one]; omega
    omega
theorem back_items (xs : Array Value) : ((List.range xs.size).filterMap fun (m : Nat) => xs[(((xs.size : Nat) : Int) - 1 + (m : Int) * (-1)).toNat]?).toArray = xs.toList.reverse.toArray := by
  have same : ∀ m : Nat, (((xs.size : Nat) : Int) - 1 + (m : Int) * (-1)).toNat = xs.size - 1 - m := fun m => by omega
  simp only [same]
  have turned := congrArg (fun l => l.filterMap (xs[·]?)) (PySem.W.krv_range xs.size)
  simp only [List.filterMap_map, List.filterMap_reverse, PySem.W.krv_all] at turned
  exact congrArg List.toArray turned
section
variable {prog : Program} {w : World} {A : Around} {E : Value → Shared → Prop} {s : Shared} {sl : Addr} {vl vu vs : Value}
theorem three_fields {Q : Value × Value × Value → Shared → Prop} (x : s.heap.IsSliceOf sl vl vu vs) (q : Q (vl, vu, vs) s) : wpAny (model prog w) A (Builtin.Slice.sliceFields (.ref sl)) Q E s :=
  let ⟨_, here, _, parts⟩ := x
  wpAny_bind (wpAny_field here parts (x := vl) rfl (wpAny_bind (wpAny_field here parts (x := vu) rfl (wpAny_bind (wpAny_field here parts (x := vs) rfl (wpAny_pure q))))))
theorem applied_back {n : Nat} {Q : Int × Int × Nat → Shared → Prop} (x : s.heap.IsSliceOf sl vl vu vs) (l : IsPart vl none) (u : IsPart vu none) (p : IsPart vs (some (-1))) (q : Q ((n : Int) - 1, -1, n) s) :
    wpAny (model prog w) A (Builtin.Slice.sliceApplied (.ref sl) (pure (n : Int))) Q E s := by
  have last : wpAny (model prog w) A (pure ((n : Int) - 1, (-1 : Int), Builtin.Slice.slicePlaces ((n : Int) - 1) (-1) (-1)) : Sem (Int × Int × Nat)) Q E s := wpAny_pure ((back_many n).symm ▸ q)
  exact wpAny_bind (three_fields x (wpAny_bind (HT.slicePart_ p (wpAny_bind (HT.slicePart_ l (wpAny_bind (HT.slicePart_ u (wpAny_bind (wpAny_pure last)))))))))
theorem tuple_back {t : Addr} {items : Array Value} {Q : Value → Shared → Prop} (tp : IsTup s.heap t items) (x : s.heap.IsSliceOf sl vl vu vs) (l : IsPart vl none) (u : IsPart vu none) (p : IsPart vs (some (-1))) (small : items.size ≤ sizeLine)
    (q : Q (.ref s.heap.objs.size) { s with heap := s.heap.push { cls := .type "tuple", data := .seq items.toList.reverse.toArray } }) : wpAny (model prog w) A (getItem (.ref t) (.ref sl)) Q E s := by
  have room : items.toList.reverse.toArray.size ≤ sizeLine := by simpa using small
  have isSl : s.TypeIs (.ref sl) "slice" := let ⟨o, h, c, _⟩ := x; ⟨o, h, c⟩
  have other : (((items.size : Nat) : Int) - 1 == 0 && (-1 : Int) == 1 && items.size == items.size) ≠ true := by simp
  delta getItem
  refine wpAny_holding (wpAny_bind (wpAny_sequenceKey tp.typeIs (by decide) (wpAny_bind (wpAny_callSpecial?_slot (name := Str.ofString "__getitem__") tp.typeIs PyProof.Rows.slot_tuple_getitem (wpAny_call_entry PyProof.Rows.slot_tuple_getitem tp.typeIs entry_tuple_getitem ?_ (args_tuple_getitem _ _))))))
  refine wpAny_bind (m := Builtin.Tuple.tupleItemsOf (.ref t)) (tupleItemsOf_ tp (wpAny_bind (wpAny_typeOf isSl ?_)))
  rw [if_pos (by decide)]
  refine wpAny_bind (applied_back x l u p ?_)
  show wpAny _ _ (if (((items.size : Nat) : Int) - 1 == 0 && (-1 : Int) == 1 && items.size == items.size) = true then _ else _) _ _ s
  rw [if_neg other, back_items]
  exact wpAny_bind (m := Builtin.Tuple.tupleExact _) (wpAny_newObj_type (wpAny_pure ⟨_, rfl, wpAny_pure q⟩) room)
end
/-- xs[::-1], of a list or of a tuple -/
def tRevA (K : PySem.W.Frag) (te : TE) : TE := fun σ H Q => te σ H fun x H1 => ∃ a xs, x = .ref a ∧ ((SqL K H1 a xs ∧ ∀ p, H1 p = none → Q (.ref p) (upd H1 p (.lst xs.reverse))) ∨ (SqT K H1 a xs ∧ ∀ p, H1 p = none → Q (.ref p) (upd H1 p (.tup xs.reverse))))
theorem pe_revA {X : Cx} {e : Expr} {te : TE} {k : Nat} {p1 p2 p3 pos : Pos} (src : PE X e te) : PE X (.Subscript e (.Slice none none (some (.UnaryOp .USub (.Constant (.int 1) k p1) p2)) p3) pos) (tRevA X.K te) := by
  constructor
  intro pins s σ H Q I h
  apply Subscript_
  apply thn (src.run pins s σ H _ I h)
  rintro v s1 ⟨x, H1, I1, rv, a, xs, rfl, both⟩
  cases rv
  apply wpAny_Slice
  apply thn (po_none.run pins s1 σ H1 (fun o G => o = none ∧ G = H1) I1 ⟨rfl, rfl⟩)
  rintro vl s2 ⟨_, _, I2, pl, rfl, rfl⟩
  apply thn (po_none.run pins s2 σ _ (fun o G => o = none ∧ G = _) I2 ⟨rfl, rfl⟩)
  rintro vu s3 ⟨_, _, I3, pu, rfl, rfl⟩
  apply thn ((po_some (pe_un un_neg pe_int)).run pins s3 σ _ (fun o G => o = some (-1) ∧ G = _) I3 ⟨1, rfl, -1, rfl, rfl, rfl⟩)
  rintro vs s4 ⟨_, G, I4, ps, rfl, rfl⟩
  generalize hn : s4.heap.push { cls := .type "slice", data := .fields #[vl, vu, vs] } = h5
  have kept : Inv X pins σ G { s4 with heap := h5 } := I4.kept (t' := s4.toks) fun b ob q => by subst hn; exact Heap.get?_push_of_some _ q
  have made : h5.IsSliceOf s4.heap.objs.size vl vu vs := by subst hn; exact Heap.IsSliceOf.new _ vl vu vs
  have slot := kept.hok.fresh (Nat.le_refl _)
  rcases both with ⟨hx, q⟩ | ⟨hx, q⟩
  · obtain ⟨its, r, ht, hz⟩ := kept.list hx
    have small : its.toArray.size ≤ sizeLine := by rw [List.size_toArray, ← r.length]; exact hz
    refine tail_any (s := { s4 with heap := h5 }) (ops := [.ref a, .ref s4.heap.objs.size]) ht.isList.typeIs PySem.slot_list_getitem.lookup (wpAny_getItem_list_slice ht.isList made pl pu ps (by decide) ?_ small) (by with_unfolding_all rfl)
    refine ⟨.ref h5.objs.size, _, kept.laid (t' := s4.toks) (o := .lst xs.reverse) (fun b ob z => Heap.get?_push_of_some _ z) (Nat.le_refl _) ?_, rfl, q _ slot⟩
    have new : its.reverse.toArray = slicePick its.toArray none none (some (-1)) := by rw [PySem.W.krv_pick]
    exact ⟨by simpa using hz, its.reverse, 0, r.reverse, new ▸ Heap.get?_push_size _ rfl⟩
  · obtain ⟨its, r, ht, hz⟩ := kept.tuple hx
    have small : its.toArray.size ≤ sizeLine := by rw [List.size_toArray, ← r.length]; exact hz
    refine tail_any (s := { s4 with heap := h5 }) (ops := [.ref a, .ref s4.heap.objs.size]) ht.typeIs PyProof.Rows.slot_tuple_getitem.lookup (tuple_back ht made pl pu ps small ?_) (by with_unfolding_all rfl)
    exact ⟨.ref h5.objs.size, _, kept.laid (t' := s4.toks) (o := .tup xs.reverse) (fun b ob z => Heap.get?_push_of_some _ z) (Nat.le_refl _) ⟨by simpa using hz, its.reverse, r.reverse, IsTup.new _ _⟩, rfl, q _ slot⟩
theorem s_bck {a : Expr} {k : Nat} {p1 p2 p3 pos : Pos} {fa : Env → M D} (ha : PE X a (tD X.K cv W fa)) : PE X (.Subscript a (.Slice none none (some (.UnaryOp .USub (.Constant (.int 1) k p1) p2)) p3) pos) (tD X.K cv W fun ρ => bnd (fa ρ) fun x => lft (bckD x)) :=
  PE.weak (pe_revA ha) fun σ H Q ⟨O, ρ, env, g⟩ =>
    tD.of env ((GoG.bndE (R := Rp X.K O) g).wk fun x H1 ⟨d, s1, rd, g1⟩ => by
      obtain ⟨e, he, q⟩ := g1.lftE
      cases rd with
      | lst h n r =>
        cases he
        exact ⟨_, _, rfl, .inl ⟨SqL.of h, fun p hp => q _ _ (same_new hp _) (new_lst (env.mono s1).dom hp r.rev)⟩⟩
      | tup h r =>
        cases he
        exact ⟨_, _, rfl, .inr ⟨h, fun p hp => q _ _ (same_new hp _) (new_tup hp r.rev)⟩⟩
      | non => cases he
      | bl _ => cases he
      | int _ => cases he
      | str _ => cases he
      | scr _ => cases he
      | obj _ _ _ _ _ => cases he
      | dK _ _ _ _ => cases he
      | dT _ _ _ _ _ _ => cases he)
theorem s_dnew {pos : Pos} (t : Bool) : PE X (.Dict [] [] pos) (tD X.K cv W fun _ => some (.ok (if t = true then .dT [] [] else .dK [] []))) := by
  cases t with
  | false =>
    refine PE.weak pe_dnewK fun σ H Q ⟨O, ρ, env, g⟩ => fun p hp => g _ _ (same_new hp _) (.dK (ks := []) (xs := []) upd_same rfl (fun z => by obtain ⟨o, e⟩ := env.dom p z; rw [hp] at e; cases e) .nil)
  | true =>
    refine PE.weak pe_dnewN fun σ H Q ⟨O, ρ, env, g⟩ => fun p hp => g _ _ (same_new hp _) (.dT (es := []) (ks := []) upd_same rfl rfl (fun z => by obtain ⟨o, e⟩ := env.dom p z; rw [hp] at e; cases e) (by simp only [kDs]; exact .nil) .nil)
theorem s_mfn (ok : OkX Γ cv lvl X W) {i : Nat} {q : Str × Mfn} {x : Str} {p pos : Pos} {e : Expr} {es : List Expr} {g : Env → M (List D)} (hi : Γ.mfs[i]? = some q) (hx : x = q.1) (hdb : (x == ("__debug__" : Str)) = false) (hg : Gl X x) (hs : ∀ e' ∈ e :: es, noStar e' = true) (ha : PA X (e :: es) (tA X.K cv W g)) :
    PE X (.Call (.Name x p) (e :: es) [] pos) (tD X.K cv W fun ρ => bnd (g ρ) fun ds => lft (mfnD q.2 ds)) := by
  subst hx
  have hm := ok.mfs i q hi
  obtain ⟨x, f⟩ := q
  cases f with
  | gcd =>
    refine PE.weak (pe_callBfun cr_gcd hg hm ha hdb (stE (hs e List.mem_cons_self) es X.env) (stAny fun e he => hs e (List.mem_cons_of_mem _ he))) fun σ H Q ⟨O, ρ, env, g'⟩ => ?_
    refine tA.of env ((GoG.bndE (R := Rps X.K O) g').wk fun vs H1 ⟨ds, s1, rs, g1⟩ => ?_)
    obtain ⟨d, e, q⟩ := g1.lftE
    unfold mfnD at e
    split at e
    · cases e
      cases rs with | cons r1 rn => cases rn with | cons r2 rn => cases rn; cases r1; cases r2; exact ⟨_, _, rfl, q _ _ (Same.refl _) (.int _)⟩
    · cases e
/-! ### {k: e, ..} -/
def PDs (X : Cx) (pos : Pos) (kes : List (Option Expr)) (ves : List Expr) (cv : Str → Value) (W : WX) (ks : List Key) (f : Env → M (List D)) : Prop :=
  ∃ trs, PPs X pos kes ves trs ∧ ∀ O ρ σ H Q, EnvR X.K O H σ ρ → Gos X.K cv W O σ H (fun vs H' => Q ((ks.zip vs).map fun p => (kV p.1, p.2)) H') (f ρ) → tPairs trs σ H Q
theorem p_nil {pos : Pos} : PDs X pos [] [] cv W [] fun _ => some (.ok []) := ⟨[], pps_nil, fun O ρ σ H Q env g => g H [] (Same.refl _) .nil⟩
theorem p_cons {pos : Pos} {ke e : Expr} {k : Key} {kes : List (Option Expr)} {ves : List Expr} {ks : List Key} {fa : Env → M D} {f : Env → M (List D)} (hk : PE X ke (tC (kV k))) (he : PE X e (tD X.K cv W fa)) (h : PDs X pos kes ves cv W ks f) :
    PDs X pos (some ke :: kes) (e :: ves) cv W (k :: ks) fun ρ => bnd (fa ρ) fun d => bnd (f ρ) fun ds => some (.ok (d :: ds)) := by
  obtain ⟨trs, h1, h2⟩ := h
  refine ⟨_, pps_cons hk he h1, fun O ρ σ H Q env g => ?_⟩
  refine tD.of env ((GoG.bndE (R := Rp X.K O) g).wk fun x H1 ⟨d, s1, rd, g1⟩ => h2 O ρ σ H1 _ (env.mono s1) ?_)
  exact (GoG.bndE (R := Rps X.K O) g1).wk fun xs H2 ⟨ds, s2, rs, g2⟩ => g2 H2 (x :: xs) (Same.refl _) (.cons (rd.mono s2) rs)
theorem zip_fst {ks : List Key} {vs : List V} (l : ks.length = vs.length) : (ks.zip vs).map (·.1) = ks := by
  rw [List.map_fst_zip]
  omega
theorem merge_new : ∀ (kvs acc : List (Key × V)), (kvs.map (·.1)).Nodup → (∀ k ∈ kvs.map (·.1), valV acc k = none) → mergeK acc kvs = acc ++ kvs
  | [], acc, _, _ => by simp [mergeK]
  | (k, v) :: kvs, acc, nd, h => by
    rw [List.map_cons, List.nodup_cons] at nd
    have h0 := h k (by simp)
    show mergeK (putK acc k v) kvs = _
    rw [putK_new v h0, merge_new kvs _ nd.2 fun j hj => ?_]
    · simp
    · rw [valV_snoc k j v acc h0]
      have : j ≠ k := fun e => nd.1 (e ▸ hj)
      rw [if_neg this]
      exact h j (List.mem_cons_of_mem _ hj)
theorem s_dsp {ks : List Key} {kes : List (Option Expr)} {ves : List Expr} {pos : Pos} {f : Env → M (List D)} (hall : kes.all (·.isSome) = true) (hl : kes.length = ves.length) (h0 : ves ≠ []) (h15 : ves.length ≤ 15) (hks : ks.length = kes.length) (h : PDs X pos kes ves cv W ks f) :
    PE X (.Dict kes ves pos) (tD X.K cv W fun ρ => bnd (f ρ) fun ds => if ks.length = ds.length ∧ ks.Nodup then some (.ok (.dK ks ds)) else none) := by
  obtain ⟨trs, h1, h2⟩ := h
  refine PE.weak (pe_disp h1 hall hl (fun e => h0 (List.eq_nil_of_length_eq_zero (by rw [← hl, e]; rfl))) (by rw [hl]; exact h15)) fun σ H Q ⟨O, ρ, env, g⟩ => fun p hp => ?_
  have sp := same_new hp (.dK [])
  have nO : ¬ O p := fun z => by obtain ⟨o, e⟩ := env.dom p z; rw [hp] at e; cases e
  have env' : EnvR X.K (fun a => O a ∨ a = p) (upd H p (.dK [])) σ ρ := env.more (fun a z => z.elim .inl fun z => .inr (z ▸ hp)) sp fun a z => z.elim (fun z => let ⟨o, e⟩ := env.dom a z; ⟨o, sp _ _ e⟩) fun z => by subst z; exact ⟨_, upd_same⟩
  refine h2 _ ρ σ _ _ env' ?_
  dsimp only at g
  cases e1 : f ρ with
  | none => rw [e1] at g; exact g
  | some r => cases r with
    | error c => rw [e1] at g; exact fun H' s => g H' (sp.trans s)
    | ok ds =>
      rw [e1, bnd_ok] at g
      intro H2 vs s2 rs
      by_cases hz : ks.length = ds.length ∧ ks.Nodup
      case neg => rw [if_neg hz] at g; exact g.elim
      rw [if_pos hz] at g
      have hv : ks.length = vs.length := by rw [rs.length]; exact hz.1
      have hp2 : H2 p = some (.dK []) := s2 _ _ upd_same
      refine ⟨hp2, ks.zip vs, rfl, by rw [List.length_zip, ← hv, hks, hl]; omega, ?_⟩
      rw [merge_new (ks.zip vs) [] (by rw [zip_fst hv]; exact hz.2) fun _ _ => rfl, List.nil_append]
      refine g _ _ (fun b o e => ?_) (.dK upd_same hv nO ((rs.wrM (u := .dK (ks.zip vs)) hp2 trivial (.inr rfl)).less fun a z => .inl z))
      rw [upd_ne (ne_of_none e hp)]
      exact s2 _ _ (sp _ _ e)
end
end DE
set_option linter.all false
set_option maxRecDepth 100000
set_option maxHeartbeats 4000000
namespace DE
open PySem PySem.Spec PyProof.Rows L2 RZ

/-! ### zip of a tuple and a list: what is drawn from, of either kind -/
/-- a list or a tuple, and an iterator that stands before its i-th item -/
structure Seqs where
  It : Heap → Addr → Addr → Nat → Prop
  Is : Heap → Addr → Array Value → Prop
  stay : ∀ {h h' : Heap} {it l : Addr} {i : Nat}, It h it l i → (∀ o, h.get? it = some o → h'.get? it = some o) → It h' it l i
  same : ∀ {h h' : Heap} {l : Addr} {xs : Array Value}, Is h l xs → (∀ o, h.get? l = some o → h'.get? l = some o) → Is h' l xs
  obj : ∀ {h : Heap} {it l : Addr} {i : Nat}, It h it l i → ∃ o, h.get? it = some o ∧ ∀ v, o.data ≠ .cell v
  item : ∀ {prog : Program} {w : World} {A : Around} {E : Value → Shared → Prop} {s : Shared} {it l : Addr} {i : Nat} {xs : Array Value} {x : Value} {Q : Value → Shared → Prop}, It s.heap it l i → Is s.heap l xs → xs[i]? = some x →
    (∀ h', It h' it l (i + 1) → Heap.SameBut it s.heap h' → Q x { s with heap := h' }) → wpAny (model prog w) A (Builtin.SmallTypes.nextOf (.ref it)) Q E s
  over : ∀ {prog : Program} {w : World} {A : Around} {E : Value → Shared → Prop} {s : Shared} {it l : Addr} {i : Nat} {xs : Array Value} {Q : Value → Shared → Prop}, A.handled = none → It s.heap it l i → Is s.heap l xs → xs[i]? = none →
    (∀ h' e, Heap.ExtBut it s.heap h' → (∃ o, h'.get? e = some o ∧ o.cls = .type "StopIteration") → E (.ref e) { s with heap := h' }) → wpAny (model prog w) A (Builtin.SmallTypes.nextOf (.ref it)) Q E s
def sqsL : Seqs where
  It := fun h it l i => h.IsListIter it l i
  Is := fun h l xs => h.IsList l xs
  stay := fun x e => x.at e
  same := fun ⟨o, ho, r⟩ e => ⟨o, e _ ho, r⟩
  obj := fun ⟨o, ho, _, d⟩ => ⟨o, ho, fun v z => by rw [d] at z; cases z⟩
  item := fun a b c d => wpAny_nextOf_list_item a b c d
  over := fun a b c d e => wpAny_nextOf_list_end a b c d e
def sqsT : Seqs where
  It := fun h it l i => h.IsTupleIter it l i
  Is := fun h l xs => h.IsTuple l xs
  stay := fun x e => x.at e
  same := fun ⟨o, ho, r⟩ e => ⟨o, e _ ho, r⟩
  obj := fun ⟨o, ho, _, d⟩ => ⟨o, ho, fun v z => by rw [d] at z; cases z⟩
  item := fun a b c d => nextOf_tuple_item a b c d
  over := fun a b c d e => nextOf_tuple_end a b c d e
/-- a zip that stands before the k-th pair -/
structure Zmx (S1 S2 : Seqs) (z TI TO i1 i2 a b : Addr) (k : Nat) (h : Heap) : Prop where
  zp : IsZip h z TI TO .none
  ti : IsPair h TI (.ref i1) (.ref i2)
  to_ : ∃ x y, IsPair h TO x y
  f : S1.It h i1 a k
  g : S2.It h i2 b k
section
variable {prog : Program} {w : World} {A : Around} {E : Value → Shared → Prop} {s : Shared}
/-- one pair more, or none left -/
theorem mix_next {S1 S2 : Seqs} {z TI TO i1 i2 a b : Addr} {k : Nat} {xs ys : Array Value} {Q : Value → Shared → Prop} (hh : A.handled = none) (D : ZipApart z TI TO i1 i2 a b) (m : Zmx S1 S2 z TI TO i1 i2 a b k s.heap) (h1 : S1.Is s.heap a xs) (h2 : S2.Is s.heap b ys)
    (go : ∀ x y, xs[k]? = some x → ys[k]? = some y → ∀ h', IsZip h' z TI TO (rawInt s.heap.objs.size) → (∃ u v, IsPair h' TO u v) → S1.It h' i1 a (k + 1) → S2.It h' i2 b (k + 1) → IsPair h' s.heap.objs.size x y →
      (∀ c o, c ≠ z → c ≠ TO → c ≠ i1 → c ≠ i2 → s.heap.get? c = some o → h'.get? c = some o) → Q (.ref s.heap.objs.size) { s with heap := h' })
    (stop : xs[k]? = none ∨ ys[k]? = none → ∀ h' e, (∀ c o, c ≠ z → c ≠ TO → c ≠ i1 → c ≠ i2 → s.heap.get? c = some o → h'.get? c = some o) → (∃ o, h'.get? e = some o ∧ o.cls = .type "StopIteration") → E (.ref e) { s with heap := h' }) :
    wpAny (model prog w) A (Builtin.«zip.__next__» ⟨[.ref z], []⟩) (fun fin s' => ∃ v, fin = .done (.ret v) ∧ Q v s') E s := by
  obtain ⟨mz, mti, ⟨p, q, mto⟩, mf, mg⟩ := m
  -- an exception's object is no zip
  have other : ∀ {h : Heap} {e : Addr} {f0 : Value}, IsZip h z TI TO f0 → (∃ o, h.get? e = some o ∧ o.cls = .type "StopIteration") → e ≠ z := fun {h e f0} hz ⟨o, ho, hc⟩ x => by
    rw [x, show h.get? z = _ from hz] at ho
    cases ho
    simp at hc
  show wpAny _ _ (field (.ref z) 2 >>= _) _ _ _
  refine wpAny_bind (wpAny_field mz rfl (x := .bool false) rfl ?_)
  show wpAny _ _ (field (.ref z) 3 >>= _) _ _ _
  refine wpAny_bind (wpAny_field mz rfl (x := .ref TI) rfl (wpAny_bind (wpAny_seqItems mti rfl ?_)))
  show wpAny _ _ (Builtin.SmallTypes.ownedTupleIsFree (.ref z) >>= _) _ _ _
  unfold Builtin.SmallTypes.ownedTupleIsFree
  refine wpAny_bind (wpAny_bind (wpAny_field mz rfl (x := .none) rfl (wpAny_pure ?_)))
  simp only [if_true]
  refine wpAny_bind (wpAny_rule (wpAny_bind (wpAny_field mz rfl (x := .ref TO) rfl (wpAny_bind (wpAny_setField_rec mz (by simp) fun ha hz1 sa => wpAny_bind ?_)))))
  replace hz1 : IsZip ha z TI TO .ellipsis := hz1
  have ka := sa.extBut
  simp only [List.zipIdx_cons, List.zipIdx_nil, List.forIn_cons, List.forIn_nil]
  refine wpAny_bind (wpAny_bind (wpAny_onRaise ?_))
  show wpAny _ _ (Builtin.SmallTypes.nextOf (.ref i1) >>= _) _ _ _
  have f1 : S1.It ha i1 a k := S1.stay mf fun o e => ka _ _ D.i1z e
  have s1 : S1.Is ha a xs := S1.same h1 fun o e => ka _ _ D.l1z e
  cases hx : xs[k]? with
  | none =>
    refine wpAny_bind (S1.over hh f1 s1 hx fun hb e kb he => ?_)
    have hz2 : IsZip hb z TI TO .ellipsis := kb _ _ D.i1z.symm hz1
    have ne := other hz2 he
    obtain ⟨o, ho, hc⟩ := he
    exact wpAny_setField_rec hz2 (by simp) fun hc' _ sc => stop (.inl hx) hc' e (fun c o c1 _ c3 _ x => sc.extBut _ _ c1 (kb _ _ c3 (ka _ _ c1 x))) ⟨o, sc.extBut _ _ ne ho, hc⟩
  | some x =>
  refine wpAny_bind (S1.item f1 s1 hx fun hb f2 sb => wpAny_pure ?_)
  have kb := sb.extBut
  have t2 : IsPair hb TO p q := kb _ _ D.TOi1 (ka _ _ D.TOz mto)
  refine wpAny_bind (wpAny_seqItems t2 rfl (wpAny_bind (wpAny_updateSeq_pair t2 fun hc t3 sc => wpAny_bind (wpAny_letGo (wpAny_pure (wpAny_bind (wpAny_bind (wpAny_onRaise ?_))))))))
  replace t3 : IsPair hc TO x q := t3
  have kc := sc.extBut
  show wpAny _ _ (Builtin.SmallTypes.nextOf (.ref i2) >>= _) _ _ _
  have g1 : S2.It hc i2 b k := S2.stay mg fun o e => kc _ _ D.TOi2.symm (kb _ _ D.i12.symm (ka _ _ D.i2z e))
  have s2 : S2.Is hc b ys := S2.same h2 fun o e => kc _ _ D.l2TO (kb _ _ D.l2i1 (ka _ _ D.l2z e))
  have hz3 : IsZip hc z TI TO .ellipsis := kc _ _ D.TOz.symm (kb _ _ D.i1z.symm hz1)
  cases hy : ys[k]? with
  | none =>
    refine wpAny_bind (S2.over hh g1 s2 hy fun hd e kd he => ?_)
    have hz4 : IsZip hd z TI TO .ellipsis := kd _ _ D.i2z.symm hz3
    have ne := other hz4 he
    obtain ⟨o, ho, hc⟩ := he
    exact wpAny_setField_rec hz4 (by simp) fun he' _ se => stop (.inr hy) he' e (fun c o c1 c2 c3 c4 x => se.extBut _ _ c1 (kd _ _ c4 (kc _ _ c2 (kb _ _ c3 (ka _ _ c1 x))))) ⟨o, se.extBut _ _ ne ho, hc⟩
  | some y =>
  refine wpAny_bind (S2.item g1 s2 hy fun hd g2 sd => wpAny_pure ?_)
  have kd := sd.extBut
  have t4 : IsPair hd TO x q := kd _ _ D.TOi2 t3
  refine wpAny_bind (wpAny_seqItems t4 rfl (wpAny_bind (wpAny_updateSeq_pair t4 fun he t5 se => wpAny_bind (wpAny_letGo (wpAny_pure (wpAny_pure ?_))))))
  replace t5 : IsPair he TO x y := t5
  have ke := se.extBut
  refine wpAny_bind (wpAny_seqItems t5 rfl (wpAny_bind (wpAny_newTuple ?_)))
  have sz : he.objs.size = s.heap.objs.size := by rw [se.1, sd.1, sc.1, sb.1, sa.1]
  have hz5 : IsZip he z TI TO .ellipsis := ke _ _ D.TOz.symm (kd _ _ D.i2z.symm hz3)
  have lz : z ≠ he.objs.size := Nat.ne_of_lt (Heap.lt_size hz5)
  show wpAny _ _ (Builtin.SmallTypes.ownedTupleHandOut (.ref z) (.ref he.objs.size) >>= _) _ _ _
  unfold Builtin.SmallTypes.ownedTupleHandOut
  refine wpAny_bind (wpAny_bind (wpAny_setField_rec (show IsZip (he.push { cls := .type "tuple", data := .seq #[x, y] }) z TI TO .ellipsis from Heap.get?_push_of_some _ hz5) (by simp) fun hf hz6 sf => ?_))
  replace hz6 : IsZip hf z TI TO (rawInt he.objs.size) := hz6
  refine wpAny_setField_rec hz6 (by simp) fun hg hz7 sg => wpAny_pure ⟨_, rfl, ?_⟩
  replace hz7 : IsZip hg z TI TO (rawInt he.objs.size) := hz7
  have up : ∀ c o, c ≠ z → he.get? c = some o → hg.get? c = some o := fun c o n e => sg.extBut _ _ n (sf.extBut _ _ n (Heap.get?_push_of_some _ e))
  have new : IsPair hg he.objs.size x y := sg.extBut _ _ (Ne.symm lz) (sf.extBut _ _ (Ne.symm lz) (Heap.get?_push_size _ rfl))
  rw [sz] at hz7 new
  show Q (.ref he.objs.size) _
  rw [sz]
  exact go x y hx hy hg hz7 ⟨x, y, up _ _ D.TOz t5⟩ (S1.stay f2 fun o e => up _ _ D.i1z (ke _ _ D.TOi1.symm (kd _ _ D.i12 (kc _ _ D.TOi1.symm e)))) (S2.stay g2 fun o e => up _ _ D.i2z (ke _ _ D.TOi2.symm e)) new
    fun c o c1 c2 c3 c4 e => up _ _ c1 (ke _ _ c2 (kd _ _ c4 (kc _ _ c2 (kb _ _ c3 (ka _ _ c1 e)))))
/-- asked for the next pair -/
theorem mix_pair {S1 S2 : Seqs} {z TI TO i1 i2 a b : Addr} {k : Nat} {xs ys : Array Value} {Q : Option Value → Shared → Prop} (hh : A.handled = none) (D : ZipApart z TI TO i1 i2 a b) (m : Zmx S1 S2 z TI TO i1 i2 a b k s.heap) (h1 : S1.Is s.heap a xs) (h2 : S2.Is s.heap b ys)
    (go : ∀ x y, xs[k]? = some x → ys[k]? = some y → ∀ h', IsZip h' z TI TO (rawInt s.heap.objs.size) → (∃ u v, IsPair h' TO u v) → S1.It h' i1 a (k + 1) → S2.It h' i2 b (k + 1) → IsPair h' s.heap.objs.size x y →
      (∀ c o, c ≠ z → c ≠ TO → c ≠ i1 → c ≠ i2 → s.heap.get? c = some o → h'.get? c = some o) → Q (some (.ref s.heap.objs.size)) { s with heap := h' })
    (stop : xs[k]? = none ∨ ys[k]? = none → ∀ h', (∀ c o, c ≠ z → c ≠ TO → c ≠ i1 → c ≠ i2 → s.heap.get? c = some o → h'.get? c = some o) → Q none { s with heap := h' }) : wpAny (model prog w) A (pyNext (.ref z)) Q E s := by
  have hT : s.TypeIs (.ref z) "zip" := ⟨_, m.zp, rfl⟩
  unfold pyNext
  refine wpAny_bind (wpAny_attempt (wpAny_callSpecial?_slot (name := Str.ofString "__next__") hT F.slot_zip_next (wpAny_call_entry F.slot_zip_next hT F.entry_zip_next
    (mix_next hh D m h1 h2 (fun x y hx hy h' z1 z2 z3 z4 z5 z6 => wpAny_pure (go x y hx hy h' z1 z2 z3 z4 z5 z6)) fun hn h' e kp he => ?_) (F.args_zip_next_1 _))))
  obtain ⟨o, ho, hc⟩ := he
  exact wpAny_bind (wpAny_isInstance (T := "StopIteration") (b := true) ⟨o, ho, hc⟩ isSubtype_stop (wpAny_pure (stop hn _ kp)))
end
/-- zip(a tuple, a list) made: five objects more -/
abbrev zmH (h : Heap) (a b : Addr) : Heap := ((((h.push { cls := .type "tuple_iterator", data := .fields #[.ref a, .int 0 0] }).push { cls := .type "list_iterator", data := .fields #[.ref b, .int 0 0] }).push
  { cls := .type "tuple", data := .seq #[.ref h.objs.size, .ref (h.objs.size + 1)] }).push { cls := .type "tuple", data := .seq #[.none, .none] }).push { cls := .type "zip", data := .fields #[.none, .bool false, .bool false, .ref (h.objs.size + 2), .ref (h.objs.size + 3)] }
theorem zm_new (a b : Addr) (xs ys : Array Value) :
    Meets (Builtin.«zip.__new__» ⟨[.type "zip", .ref a, .ref b], []⟩) (fun _ R s => s.heap.IsTuple a xs ∧ s.heap.IsList b ys ∧ R (.ok (.ret (.ref (s.heap.objs.size + 4)))) { s with heap := zmH s.heap a b }) :=
  .of_wp fun prog w A R s h => by
    obtain ⟨hp, g, d, tk, os⟩ := s
    obtain ⟨h1, h2, h⟩ := h
    have hsub := sub_zip
    have t1 : Heap.IsTuple (Shared.heap ⟨hp, g, d, tk, os⟩) a xs := h1
    have t2 : Heap.IsList (Shared.heap ⟨hp.push { cls := .type "tuple_iterator", data := .fields #[.ref a, .int 0 0] }, g, d, tk, os⟩) b ys := Heap.IsList.push h2 _
    wp_walk using wpAny_pyIter_tuple t1, wpAny_pyIter_list t2
    refine ⟨_, rfl, ?_⟩
    simp only [Heap.size_push]
    exact h
end DE
set_option linter.all false
set_option maxRecDepth 100000
set_option maxHeartbeats 4000000
namespace DE
open PySem PySem.Spec PyProof.Rows L2 RZ
/-- the pairs of the tuple at a and the list at b -/
def Itzm (K : PySem.W.Frag) (a b : Addr) : It :=
  ⟨fun i H => ∃ (xs ys : List V) (x y : V), SqT K H a xs ∧ SqL K H b ys ∧ xs[i]? = some x ∧ ys[i]? = some y,
    fun i H v H' => ∃ T x y, v = .ref T ∧ H T = none ∧ H' = upd H T (.tup [x, y]) ∧ (∀ xs, SqT K H a xs → xs[i]? = some x) ∧ ∀ ys, SqL K H b ys → ys[i]? = some y,
    fun i H => ∃ xs ys : List V, SqT K H a xs ∧ SqL K H b ys ∧ (xs.length ≤ i ∨ ys.length ≤ i)⟩
theorem push_at {h : Heap} {o : Obj} {n : Nat} (e : h.objs.size = n) (hf : o.isFreed = false) : (h.push o).get? n = some o := by
  subst e
  exact Heap.get?_push_size _ hf
theorem zm_five {z TI TO i1 i2 c : Addr} (h : c ∈ [z, TI, TO, i1, i2]) : c = z ∨ c = TI ∨ c = TO ∨ c = i1 ∨ c = i2 := by simpa using h
theorem turn_zm {P : Program} {w : World} {K : PySem.W.Frag} {elts : List Expr} {kk : Nat} {tpos : Pos} {a b z TI TO i1 i2 : Addr} (D : ZipApart z TI TO i1 i2 a b) :
    Turn P w K (.Tuple elts kk tpos) (Itzm K a b) [z, TI, TO, i1, i2] z (fun i h => Zmx sqsT sqsL z TI TO i1 i2 a b i h) where
  mem := List.mem_cons_self
  obj := fun i h st c hc => by
    obtain ⟨m1, m2, ⟨x, y, m3⟩, m4, m5⟩ := st
    rcases zm_five hc with q | q | q | q | q <;> subst q
    · exact ⟨_, m1, fun v q => nomatch q⟩
    · exact ⟨_, m2, fun v q => nomatch q⟩
    · exact ⟨_, m3, fun v q => nomatch q⟩
    · exact sqsT.obj m4
    · exact sqsL.obj m5
  keep := fun i h h' st k => by
    obtain ⟨m1, m2, ⟨x, y, m3⟩, m4, m5⟩ := st
    exact ⟨k _ (by simp) _ m1, k _ (by simp) _ m2, ⟨x, y, k _ (by simp) _ m3⟩, sqsT.stay m4 fun o e => k _ (by simp) o e, sqsL.stay m5 fun o e => k _ (by simp) o e⟩
  item := by
    intro X hP hw hK hc i pins s σ H E I hf st ⟨xs, ys, x, y, qx, qy, hx, hy⟩
    subst hP hw hK
    obtain ⟨its, rv, p1, _⟩ := I.tuple qx
    obtain ⟨its2, rv2, p2, _⟩ := I.list qy
    obtain ⟨u, hu, ru⟩ := rv.get hx
    obtain ⟨u2, hu2, ru2⟩ := rv2.get hy
    have old : ∀ c ∈ [z, TI, TO, i1, i2], c < s.heap.objs.size := fun c hcm => by
      obtain ⟨m1, m2, ⟨x, y, m3⟩, m4, m5⟩ := st
      rcases zm_five hcm with q | q | q | q | q <;> subst q
      · exact Heap.lt_size m1
      · exact Heap.lt_size m2
      · exact Heap.lt_size m3
      · obtain ⟨o, e, _⟩ := sqsT.obj m4; exact Heap.lt_size e
      · obtain ⟨o, e, _⟩ := sqsL.obj m5; exact Heap.lt_size e
    refine mix_pair (xs := its.toArray) (ys := its2.toArray) (I.ok.hd hc) D st (show s.heap.IsTuple a its.toArray from p1) p2.isList (fun v v2 e1 e2 h' z' to' f' g' hT kp => ?_) fun hn => ?_
    · have ev : v = u := by
        have : its[i]? = some v := by simpa using e1
        rw [hu] at this; exact (Option.some.inj this).symm
      have ev2 : v2 = u2 := by
        have : its2[i]? = some v2 := by simpa using e2
        rw [hu2] at this; exact (Option.some.inj this).symm
      subst ev ev2
      refine ⟨_, rfl, wpAny_letOwnedTupleGo_zip (s := { s with heap := h' }) z' fun h'' z'' sb => ?_⟩
      have nz := Nat.ne_of_gt (old z List.mem_cons_self)
      have kq := sb.extBut
      have T2 : IsPair h'' s.heap.objs.size v v2 := kq _ _ nz hT
      have new : ObjOk X.prog X.w (upd H s.heap.objs.size (.tup [x, y])) h'' s.heap.objs.size (.tup [x, y]) :=
        ⟨by show 2 ≤ sizeLine; decide, [v, v2], .cons ru (.cons ru2 .nil), ⟨_, T2, rfl, _, rfl⟩⟩
      have I1 : Inv X pins σ (upd H s.heap.objs.size (.tup [x, y])) { s with heap := h'' } :=
        I.turnedNew (t' := s.toks) (ch := [z, TI, TO, i1, i2]) (fun c o hb q => kq _ _ (fun e => hb (by simp [e])) (kp c o (fun e => hb (by simp [e])) (fun e => hb (by simp [e])) (fun e => hb (by simp [e])) (fun e => hb (by simp [e])) q)) hf (Nat.le_refl _) new
      obtain ⟨t1, t2, t3⟩ := to'
      refine ⟨.ref s.heap.objs.size, _, I1, rfl, ⟨_, x, y, rfl, I.hok.fresh (Nat.le_refl _), rfl, fun l hl => by rw [I.tuple_inj hl qx]; exact hx, fun l hl => by rw [I.list_inj hl qy]; exact hy⟩,
        ⟨z'', kq _ _ D.TIz (kp _ _ D.TIz D.TITO D.TIi1 D.TIi2 st.ti), ⟨t1, t2, kq _ _ D.TOz t3⟩, sqsT.stay f' fun o e => kq _ _ D.i1z e, sqsL.stay g' fun o e => kq _ _ D.i2z e⟩, fun c hcm => ?_⟩
      rw [upd_ne (Nat.ne_of_lt (old c hcm))]
      exact (hf c hcm).1
    · rcases hn with q | q
      · have : its[i]? = none := by simpa using q
        rw [hu] at this; cases this
      · have : its2[i]? = none := by simpa using q
        rw [hu2] at this; cases this
  done := by
    intro X hP hw hK hc i pins s σ H E I hf st ⟨xs, ys, qx, qy, hend⟩
    subst hP hw hK
    obtain ⟨its, rv, p1, _⟩ := I.tuple qx
    obtain ⟨its2, rv2, p2, _⟩ := I.list qy
    have l1 := rv.length
    have l2 := rv2.length
    refine mix_pair (xs := its.toArray) (ys := its2.toArray) (I.ok.hd hc) D st (show s.heap.IsTuple a its.toArray from p1) p2.isList (fun v v2 e1 e2 => ?_) fun _ h' kp => ⟨rfl, I.turnedL (t' := s.toks) (ch := [z, TI, TO, i1, i2]) (fun c o hb q =>
      kp c o (fun e => hb (by simp [e])) (fun e => hb (by simp [e])) (fun e => hb (by simp [e])) (fun e => hb (by simp [e])) q) hf⟩
    have a1 := (Array.getElem?_eq_some_iff.mp e1).1
    have a2 := (Array.getElem?_eq_some_iff.mp e2).1
    simp only [List.size_toArray] at a1 a2
    omega
  self := fun A i s Q E st h => wpAny_pyIter_zip st.zp h
def iZm (K : PySem.W.Frag) (ta : TA) : TI := fun σ H R => ta σ H fun vs H1 => ∃ a b xs ys, vs = [.ref a, .ref b] ∧ SqT K H1 a xs ∧ SqL K H1 b ys ∧ R (Itzm K a b) H1
theorem pi_zm {X : Cx} {e e2 : Expr} {ta : TA} {p pos tpos : Pos} {elts : List Expr} {kk : Nat} (hg : Gl X "zip") (hm : X.mg "zip" = none) (ha : PA X [e, e2] ta) (hs : starEach [e, e2] X.env = (false, eval e X.env) :: starEach [e2] X.env) (hpl : (backTo pos (starEach [e2] X.env)).any (·.1) = false) :
    PI X (.Tuple elts kk tpos) (.Call (.Name "zip" p) [e, e2] [] pos) (iZm X.K ta) := by
  refine ⟨fun pins s σ H R I h => Call_ (ld_blt I hg hm PyProof.Rows.boot_zip (PyProof.Rows.callWith_type1 (thn (ha.run pos pins s σ H _ I h) fun us s1 ⟨vs, H1, I1, r1, a, b, xs, ys, ex, qx, qy, q⟩ => ?_) hs hpl))⟩
  subst ex
  obtain ⟨u, v, rfl, ru, rv⟩ := r1.two
  obtain rfl : u = Value.ref a := ru
  obtain rfl : v = Value.ref b := rv
  obtain ⟨its, ri, p1, _⟩ := I1.tuple qx
  obtain ⟨its2, ri2, p2, _⟩ := I1.list qy
  have t1 : s1.heap.IsTuple a its.toArray := p1
  obtain ⟨o1, ho1, _⟩ := id p1
  generalize hn : s1.heap.objs.size = n
  have g0 : ∀ c o, s1.heap.get? c = some o → (zmH s1.heap a b).get? c = some o := fun c o e => Heap.get?_push_of_some _ (Heap.get?_push_of_some _ (Heap.get?_push_of_some _ (Heap.get?_push_of_some _ (Heap.get?_push_of_some _ e))))
  have m : Zmx sqsT sqsL (n + 4) (n + 2) (n + 3) n (n + 1) a b 0 (zmH s1.heap a b) := by
    have e1 : (zmH s1.heap a b).get? n = some _ := Heap.get?_push_of_some _ (Heap.get?_push_of_some _ (Heap.get?_push_of_some _ (Heap.get?_push_of_some _ (push_at (by simp only [Heap.size_push, hn]) rfl))))
    have e2 : (zmH s1.heap a b).get? (n + 1) = some _ := Heap.get?_push_of_some _ (Heap.get?_push_of_some _ (Heap.get?_push_of_some _ (push_at (by simp only [Heap.size_push, hn]) rfl)))
    have e3 : (zmH s1.heap a b).get? (n + 2) = some _ := Heap.get?_push_of_some _ (Heap.get?_push_of_some _ (push_at (by simp only [Heap.size_push, hn]) rfl))
    have e4 : (zmH s1.heap a b).get? (n + 3) = some _ := Heap.get?_push_of_some _ (push_at (by simp only [Heap.size_push, hn]) rfl)
    have e5 : (zmH s1.heap a b).get? (n + 4) = some _ := push_at (by simp only [Heap.size_push, hn]) rfl
    refine ⟨?_, ?_, ⟨.none, .none, e4⟩, ⟨_, e1, rfl, rfl⟩, ⟨_, e2, rfl, rfl⟩⟩
    · rw [← hn] at e5 ⊢; exact e5
    · rw [← hn] at e3 ⊢; exact e3
  refine callType_new F.called_zip (by decide) (F.typeCall_zip_2 _ _) (F.newCall_zip_2 _ _) (fun obj => F.args_object_init_3 obj _ _) F.entry_zip_new (zm_new a b its.toArray its2.toArray) ⟨t1, p2.isList, ?_⟩
  refine ⟨⟨_, by rw [hn]; exact m.zp, rfl⟩, ?_⟩
  rw [hn]
  refine wpAny_pyIter_zip m.zp ?_
  have I2 : Inv X pins σ H1 { s1 with heap := zmH s1.heap a b } := I1.kept (t' := s1.toks) g0
  refine ⟨n + 4, [n + 4, n + 2, n + 3, n, n + 1], _, _, H1, rfl, I2, turn_zm (PySem.W.ktu_apart n a b (by rw [← hn]; exact Heap.lt_size ho1) (by rw [← hn]; exact p2.lt)), m, fun c hc => ?_, q⟩
  have hle : s1.heap.objs.size ≤ c := by
    rw [hn]
    rcases zm_five hc with q | q | q | q | q <;> rw [q] <;> first | exact Nat.le_refl _ | exact Nat.le_add_right _ _
  exact I1.fpOk hle (I1.hok.fresh hle)
end DE
set_option linter.all false
set_option maxRecDepth 100000
set_option maxHeartbeats 4000000
namespace DE
open PySem PySem.Spec PyProof.Rows L2 RZ RT
section
variable {Γ : G} {cv : Str → Value} {lvl : Nat}
def SrcOk (cv : Str → Value) (X : Cx) (W : WX) (src : Src) (f : Env → M D) : Prop := match src with
  | .one e => PE X e (tD X.K cv W f) ∧ (noIf e = true → PT X e (tB X.K cv W fun ρ => tru (f ρ)))
  | .ands es => ∀ pos, PE X (.BoolOp .And es pos) (tD X.K cv W f) ∧ PW X (.BoolOp .And es pos) (tB X.K cv W fun ρ => tru (f ρ))
  | .ors es => ∀ pos, PE X (.BoolOp .Or es pos) (tD X.K cv W f) ∧ PW X (.BoolOp .Or es pos) (tB X.K cv W fun ρ => tru (f ρ))
  | .bad => False
theorem srcA {X : Cx} {W : WX} {es : List Expr} {f : Env → M D} (h : SrcOk cv X W (nrmA es) f) (pos : Pos) : PE X (.BoolOp .And es pos) (tD X.K cv W f) ∧ PW X (.BoolOp .And es pos) (tB X.K cv W fun ρ => tru (f ρ)) := by
  match es, h with
  | [], h => exact h pos
  | [e], h =>
    have h : SrcOk cv X W (if noIf e = true then .one e else .bad) f := h
    by_cases hi : noIf e = true
    · rw [if_pos hi] at h
      exact ⟨pe_one h.1, pw_and1 (h.2 hi)⟩
    · rw [if_neg hi] at h; exact h.elim
  | e :: e2 :: es, h => exact h pos
theorem srcO {X : Cx} {W : WX} {es : List Expr} {f : Env → M D} (h : SrcOk cv X W (nrmO es) f) (pos : Pos) : PE X (.BoolOp .Or es pos) (tD X.K cv W f) ∧ PW X (.BoolOp .Or es pos) (tB X.K cv W fun ρ => tru (f ρ)) := by
  match es, h with
  | [], h => exact h pos
  | [e], h =>
    have h : SrcOk cv X W (if noIf e = true then .one e else .bad) f := h
    by_cases hi : noIf e = true
    · rw [if_pos hi] at h
      exact ⟨pe_one h.1, pw_or1 (h.2 hi)⟩
    · rw [if_neg hi] at h; exact h.elim
  | e :: e2 :: es, h => exact h pos
theorem gl_of {sc : Scope} {X : Cx} (he : X.env.scope = sc) {x : Str} (h : glB sc x = true) : Gl X x := by
  unfold glB at h
  split at h
  · show X.env.scope.names.lookup x = _
    rw [he]; assumption
  · cases h
theorem okName_of {x : Str} (h : okName x = true) : (x == ("__debug__" : Str)) = false ∧ (x == ("__classdict__" : Str)) = false := by
  unfold okName at h
  simp only [Bool.and_eq_true, Bool.not_eq_true'] at h
  exact ⟨h.1.1, h.1.2⟩
theorem src1 {X : Cx} {W : WX} {e : Expr} {f : Env → M D} (h : PE X e (tD X.K cv W f)) (he : ∀ whole, isTrue e X.env whole = (do let v ← whole; standAt e.pos; holding [v] (truthy v))) : SrcOk cv X W (.one e) f := ⟨h, fun _ => t_val h he⟩
theorem en_of {X : Cx} {W : WX} {O : Addr → Prop} {σ : L2.St} {ρ : Env} {H : Hp} {R : It → Hp → Prop} : True := trivial
theorem i_seq {X : Cx} {W : WX} {tg e : Expr} {fa : Env → M D} (h : PE X e (tD X.K cv W fa)) : PI X tg e (tI X.K cv W fun ρ => bnd (bnd (fa ρ) fun d => some (.ok [d])) fun ds => lft (itD .seq ds)) := by
  refine PI.weak (PI.or (pi_list h) (pi_tup h)) fun σ H R ⟨O, ρ, env, g⟩ => ?_
  dsimp only at g
  cases e1 : fa ρ with
  | none => rw [e1] at g; exact g.elim
  | some r => cases r with
    | error c => rw [e1] at g; exact .inl (tD.of env (by rw [e1]; exact g))
    | ok d =>
      rw [e1] at g
      cases d with
      | tup ds =>
        have g : ∀ H1 J, Same H H1 → En X.K O H1 J ds → R J H1 := g
        refine .inr (tD.of env ?_)
        rw [e1]
        intro H1 v s1 rv
        cases rv with | tup hT rs => exact ⟨_, rfl, ⟨_, hT⟩, g H1 _ s1 (en_tup hT rs)⟩
      | lst ds =>
        have g : ∀ H1 J, Same H H1 → En X.K O H1 J ds → R J H1 := g
        refine .inl (tD.of env ?_)
        rw [e1]
        intro H1 v s1 rv
        cases rv with | lst hL n rs => exact ⟨_, rfl, ⟨_, SqL.of hL⟩, g H1 _ s1 (en_list (fun O' o H' st => SqL.of (st.l _ _ hL trivial fun z => (o _ z).elim n fun z => by rw [hL] at z; cases z)) rs)⟩
      | scr ns =>
        have g : ∀ H1 J, Same H H1 → En X.K O H1 J (ns.map D.int) → R J H1 := g
        refine .inl (tD.of env ?_)
        rw [e1]
        intro H1 v s1 rv
        cases rv with | scr hS => exact ⟨_, rfl, ⟨_, hS.seq⟩, g H1 _ s1 (en_list (fun O' o H' st => (st.s _ _ hS).seq) (Rps.of_ints ns))⟩
      | non => exact g.elim
      | bl _ => exact g.elim
      | int _ => exact g.elim
      | str _ => exact g.elim
      | obj _ _ _ => exact g.elim
      | dK _ _ => exact g.elim
      | dT _ _ => exact g.elim
theorem i_rng1 {X : Cx} {W : WX} {tg e : Expr} {p pos : Pos} {fa : Env → M (List D)} (hg : Gl X "range") (hm : X.mg "range" = none) (hs : noStar e = true) (h : PA X [e] (tA X.K cv W fa)) :
    PI X tg (.Call (.Name "range" p) [e] [] pos) (tI X.K cv W fun ρ => bnd (fa ρ) fun ds => lft (itD .rng1 ds)) := by
  refine PI.weak (pi_range1 hg hm h (stE hs [] X.env)) fun σ H R ⟨O, ρ, env, g⟩ => ?_
  refine tA.of env ((GoG.bndE (R := Rps X.K O) g).wk fun vs H1 ⟨ds, s1, rs, g1⟩ => ?_)
  have g1 : GoG (fun H1 J ds => En X.K O H1 J ds) (Wc cv W σ) H1 R (lft (it1 ds)) := g1
  unfold it1 at g1
  split at g1
  · rename_i j _
    split at g1
    · rename_i hz
      cases rs with | cons r1 rn => cases rn; cases r1; exact ⟨j, rfl, hz.1, hz.2, g1 H1 _ (Same.refl _) en_rng⟩
    · exact g1.elim
  · exact g1.elim
theorem i_rng2 {X : Cx} {W : WX} {tg e e2 : Expr} {p pos : Pos} {fa : Env → M (List D)} (hg : Gl X "range") (hm : X.mg "range" = none) (hs : noStar e = true) (hs2 : noStar e2 = true) (h : PA X [e, e2] (tA X.K cv W fa)) :
    PI X tg (.Call (.Name "range" p) [e, e2] [] pos) (tI X.K cv W fun ρ => bnd (fa ρ) fun ds => lft (itD .rng2 ds)) := by
  refine PI.weak (pi_range2 hg hm h (by rw [stE hs, stE hs2]; rfl) (stE hs2 [] X.env)) fun σ H R ⟨O, ρ, env, g⟩ => ?_
  refine tA.of env ((GoG.bndE (R := Rps X.K O) g).wk fun vs H1 ⟨ds, s1, rs, g1⟩ => ?_)
  have g1 : GoG (fun H1 J ds => En X.K O H1 J ds) (Wc cv W σ) H1 R (lft (it2 ds)) := g1
  unfold it2 at g1
  split at g1
  · rename_i i j _
    split at g1
    · rename_i hz
      cases rs with | cons r1 rn => cases rn with | cons r2 rn => cases rn; cases r1; cases r2; exact ⟨i, j, rfl, ⟨hz.1, hz.2.1, hz.2.2.1, hz.2.2.2⟩, g1 H1 _ (Same.refl _) en_rng⟩
    · exact g1.elim
  · exact g1.elim
theorem walk_zipT {K : PySem.W.Frag} {a b : Addr} {xs ys : List V} {n : Nat} (hn : n = min xs.length ys.length) : Walk (ItzT K a b) n (fun H => SqT K H a xs ∧ SqT K H b ys) (YPair (fun i => xs[i]?) (fun i => ys[i]?)) := by
  subst hn
  refine ⟨fun i _ hi q => ?_, fun _ q => ⟨xs, ys, q.1, q.2, by omega⟩, fun i H v H' _ q y => ?_⟩
  · have h1 : i < xs.length := by omega
    have h2 : i < ys.length := by omega
    exact ⟨xs, ys, xs[i], ys[i], q.1, q.2, by simp [h1], by simp [h2]⟩
  · obtain ⟨T, x, y, h1, h2, h3, h4, h5⟩ := y
    exact ⟨T, x, y, h1, h2, h3, h4 xs q.1, h5 ys q.2⟩
theorem walk_revT {K : PySem.W.Frag} {a : Addr} {xs : List V} : Walk (ItvT K a xs.length) xs.length (fun H => SqT K H a xs) (fun i H x H' => H' = H ∧ xs[xs.length - 1 - i]? = some x) :=
  ⟨fun i _ hi q => ⟨hi, xs, xs[xs.length - 1 - i]'(by omega), q, by simp [show xs.length - 1 - i < xs.length by omega]⟩, fun _ _ => Nat.le_refl _, fun _ _ _ _ _ q y => ⟨y.1, y.2 xs q⟩⟩
/-- the walks of the hand layer, as ours -/
theorem en_walk {K : PySem.W.Frag} {O : Addr → Prop} {H1 : Hp} {J : It} {n : Nat} {G : Hp → Prop} {Y : Nat → Hp → V → Hp → Prop} {ds : List D} (w : Walk J n G Y) (hn : n = ds.length) (hG : ∀ O' : Addr → Prop, (∀ a, O' a → O a ∨ H1 a = none) → ∀ H, Stay K O' H1 H → G H)
    (hY : ∀ O' : Addr → Prop, (∀ a, O' a → O a ∨ H1 a = none) → ∀ H i d x H', Stay K O' H1 H → ds[i]? = some d → Y i H x H' → Same H H' ∧ Rp K O' H' x d) : En K O H1 J ds := by
  subst hn
  refine ⟨fun O' o H i s hi => w.goes i H hi (hG O' o H s), fun O' o H i d x H' s hd y => ?_, fun O' o H s => w.stops H (hG O' o H s)⟩
  · have hi := (List.getElem?_eq_some_iff.mp hd).1
    exact hY O' o H i d x H' s hd (w.yields i H x H' hi (hG O' o H s) y)
theorem en_rngC {K : PySem.W.Frag} {O : Addr → Prop} {H1 : Hp} {lo c : Int} {n : Nat} : En K O H1 (Itc lo c n) (rngC lo c n) := by
  refine en_walk walk_rangeC (by unfold rngC; simp) (fun _ _ _ _ => trivial) fun O' o H i d x H' s hd y => ?_
  obtain ⟨rfl, rfl⟩ := y
  unfold rngC at hd
  rw [List.getElem?_map] at hd
  cases h : (List.range n)[i]? with
  | none => rw [h] at hd; cases hd
  | some j =>
    rw [h] at hd
    obtain ⟨h1, h2⟩ := List.getElem?_eq_some_iff.mp h
    rw [List.getElem_range] at h2
    subst h2
    cases hd
    exact ⟨Same.refl _, .int _⟩
theorem pairsL_get : ∀ {as bs : List D} {i : Nat} {d : D}, (pairsL as bs)[i]? = some d → ∃ a b, d = .tup [a, b] ∧ as[i]? = some a ∧ bs[i]? = some b
  | [], _, _, _, h => by simp [pairsL] at h
  | _ :: _, [], _, _, h => by simp [pairsL] at h
  | a :: as, b :: bs, 0, d, h => by
    simp only [pairsL, List.getElem?_cons_zero, Option.some.injEq] at h
    exact ⟨a, b, h.symm, rfl, rfl⟩
  | a :: as, b :: bs, i + 1, d, h => by
    simp only [pairsL, List.getElem?_cons_succ] at h
    obtain ⟨x, y, h1, h2, h3⟩ := pairsL_get h
    exact ⟨x, y, h1, by simpa using h2, by simpa using h3⟩
theorem pairsL_len : ∀ (as bs : List D), (pairsL as bs).length = min as.length bs.length
  | [], _ => by simp [pairsL]
  | _ :: _, [] => by simp [pairsL]
  | a :: as, b :: bs => by simp only [pairsL, List.length_cons, pairsL_len as bs]; omega
theorem pair_rp {K : PySem.W.Frag} {O : Addr → Prop} {H H' : Hp} {v x y : V} {a b : D} {T : Addr} (hT : H T = none) (e : H' = upd H T (.tup [x, y])) (ra : Rp K O H x a) (rb : Rp K O H y b) : Same H H' ∧ Rp K O H' (.ref T) (.tup [a, b]) := by
  subst e
  exact ⟨same_new hT _, new_tup hT (.cons ra (.cons rb .nil))⟩
theorem rngL_get {lo : Int} {n i : Nat} {a : D} (h : (rngL lo n)[i]? = some a) : a = .int (lo + (i : Int)) := by
  unfold rngL at h
  rw [List.getElem?_map] at h
  cases q : (List.range n)[i]? with
  | none => rw [q] at h; cases h
  | some j =>
    rw [q] at h
    obtain ⟨h1, h2⟩ := List.getElem?_eq_some_iff.mp q
    rw [List.getElem_range] at h2
    subst h2
    cases h
    rfl
section
variable {X : Cx} {W : WX} {fa : Env → M (List D)} {tg e e2 e3 : Expr} {p pos tpos : Pos} {elts : List Expr} {kk : Nat}
theorem i_rng3 (hg : Gl X "range") (hm : X.mg "range" = none) (hs : noStar e = true) (hs2 : noStar e2 = true) (hs3 : noStar e3 = true) (h : PA X [e, e2, e3] (tA X.K cv W fa)) :
    PI X tg (.Call (.Name "range" p) [e, e2, e3] [] pos) (tI X.K cv W fun ρ => bnd (fa ρ) fun ds => lft (itD .rng3 ds)) := by
  refine PI.weak (pi_range3 hg hm h (stE hs [e2, e3] X.env) (stAny (es := [e2, e3]) fun e he => by rcases List.mem_cons.mp he with rfl | he; exact hs2; rw [List.mem_singleton.mp he]; exact hs3)) fun σ H R ⟨O, ρ, env, g⟩ => ?_
  refine tA.of env ((GoG.bndE (R := Rps X.K O) g).wk fun vs H1 ⟨ds, s1, rs, g1⟩ => ?_)
  replace g1 : GoG (fun H1 J ds => En X.K O H1 J ds) (Wc cv W σ) H1 R (lft (it3 ds)) := g1
  unfold it3 at g1
  split at g1
  · rename_i i j c
    split at g1
    · rename_i hz
      obtain ⟨rfl, h1, h2, h3, h4⟩ := hz
      cases rs with | cons r1 rn => cases rn with | cons r2 rn => cases rn with | cons r3 rn =>
        cases rn; cases r1; cases r2; cases r3
        exact ⟨i, j, -1, (i - j).toNat, rfl, RgC.neg h1 h2 h3 h4, g1 H1 _ (Same.refl _) en_rngC⟩
    · exact g1.elim
  · exact g1.elim
theorem en_enumT {K : PySem.W.Frag} {O : Addr → Prop} {H1 : Hp} {a : Addr} {xs : List V} {ds : List D} (h : SqT K H1 a xs) (r : Rps K O H1 xs ds) : En K O H1 (IteT K a) (pairsL (rngL 0 ds.length) ds) := by
  have hl := r.length
  refine ⟨fun O' o H i s hi => ?_, fun O' o H i d x H' s hd y => ?_, fun O' o H s => ⟨xs, s.t _ _ h, by rw [pairsL_len, rngL_len]; omega⟩⟩
  · rw [pairsL_len, rngL_len] at hi
    exact ⟨xs, xs[i]'(by omega), s.t _ _ h, List.getElem?_eq_getElem _⟩
  · obtain ⟨a', b', rfl, h1, h2⟩ := pairsL_get hd
    obtain ⟨T, u, rfl, hT, eH, e2⟩ := y
    obtain ⟨w', h3, h4⟩ := r.get h2
    have e2 := e2 xs (s.t _ _ h)
    rw [e2] at h3
    cases h3
    have := rngL_get h1
    subst this
    rw [Int.zero_add]
    exact pair_rp (v := .non) hT eH (.int _) ((h4.more o).stay s)
theorem i_enum (hg : Gl X "enumerate") (hm : X.mg "enumerate" = none) (hs : noStar e = true) (h : PA X [e] (tA X.K cv W fa)) :
    PI X (.Tuple elts kk tpos) (.Call (.Name "enumerate" p) [e] [] pos) (tI X.K cv W fun ρ => bnd (fa ρ) fun ds => lft (itD .enum ds)) := by
  refine PI.weak (pi_enum2 hg hm h (stE hs [] X.env)) fun σ H R ⟨O, ρ, env, g⟩ => ?_
  refine tA.of env ((GoG.bndE (R := Rps X.K O) g).wk fun vs H1 ⟨ds, s1, rs, g1⟩ => ?_)
  have g1 : GoG (fun H1 J ds => En X.K O H1 J ds) (Wc cv W σ) H1 R (lft (itE ds)) := g1
  have core : ∀ {a : Addr} {xs : List V} {es : List D}, (∀ O' : Addr → Prop, (∀ b, O' b → O b ∨ H1 b = none) → ∀ H, Stay X.K O' H1 H → SqL X.K H a xs) → Rps X.K O H1 xs es → En X.K O H1 (Ite X.K a) (pairsL (rngL 0 es.length) es) := fun {a xs es} hq r => by
    refine en_walk (walk_enum (xs := xs)) (by rw [pairsL_len, rngL_len, r.length]; omega) hq fun O' o H i d x H' s hd y => ?_
    obtain ⟨a', b', rfl, h1, h2⟩ := pairsL_get hd
    obtain ⟨T, u, w, rfl, hT, eH, e1, e2⟩ := y
    cases e1
    obtain ⟨w', h3, h4⟩ := r.get h2
    dsimp only at e2
    rw [e2] at h3
    cases h3
    have := rngL_get h1
    subst this
    rw [Int.zero_add]
    exact pair_rp (v := .non) hT eH (.int _) ((h4.more o).stay s)
  unfold itE at g1
  split at g1
  · cases rs with | cons r1 rn => cases rn; cases r1 with | lst h n r =>
      exact ⟨_, _, rfl, .inl ⟨SqL.of h, g1 H1 _ (Same.refl _) (core (fun O' o H' st => SqL.of (st.l _ _ h trivial fun z => (o _ z).elim n fun z => by rw [h] at z; cases z)) r)⟩⟩
  · cases rs with | cons r1 rn => cases rn; cases r1 with | tup h r =>
      exact ⟨_, _, rfl, .inr ⟨h, g1 H1 _ (Same.refl _) (en_enumT h r)⟩⟩
  · rename_i ns _
    cases rs with | cons r1 rn => cases rn; cases r1 with | scr h =>
      have := core (a := _) (fun O' o H' st => (st.s _ _ h).seq) (Rps.of_ints (K := X.K) (O := O) (H := H1) ns)
      rw [List.length_map] at this
      exact ⟨_, _, rfl, .inl ⟨h.seq, g1 H1 _ (Same.refl _) this⟩⟩
  · exact g1.elim
theorem walk_zm {K : PySem.W.Frag} {a b : Addr} {xs ys : List V} {n : Nat} (hn : n = min xs.length ys.length) : Walk (Itzm K a b) n (fun H => SqT K H a xs ∧ SqL K H b ys) (YPair (fun i => xs[i]?) (fun i => ys[i]?)) := by
  subst hn
  refine ⟨fun i _ hi q => ?_, fun _ q => ⟨xs, ys, q.1, q.2, by omega⟩, fun i H v H' _ q y => ?_⟩
  · have h1 : i < xs.length := by omega
    have h2 : i < ys.length := by omega
    exact ⟨xs, ys, xs[i], ys[i], q.1, q.2, by simp [h1], by simp [h2]⟩
  · obtain ⟨T, x, y, h1, h2, h3, h4, h5⟩ := y
    exact ⟨T, x, y, h1, h2, h3, h4 xs q.1, h5 ys q.2⟩
theorem i_zip (hg : Gl X "zip") (hm : X.mg "zip" = none) (hs : noStar e = true) (hs2 : noStar e2 = true) (h : PA X [e, e2] (tA X.K cv W fa)) :
    PI X (.Tuple elts kk tpos) (.Call (.Name "zip" p) [e, e2] [] pos) (tI X.K cv W fun ρ => bnd (fa ρ) fun ds => lft (itD .zip ds)) := by
  refine PI.of fun σ H R ⟨O, ρ, env, g⟩ => ?_
  have two := pi_zipA (tpos := tpos) (elts := elts) (kk := kk) (p := p) (pos := pos) hg hm h (stE hs [e2] X.env) (stAny (es := [e2]) fun e he => by rw [List.mem_singleton.mp he]; exact hs2)
  have mix := pi_zm (tpos := tpos) (elts := elts) (kk := kk) (p := p) (pos := pos) hg hm h (stE hs [e2] X.env) (stAny (es := [e2]) fun e he => by rw [List.mem_singleton.mp he]; exact hs2)
  have pr : ∀ {H1 : Hp} {xs ys : List V} {as bs : List D} (O' : Addr → Prop), (∀ a, O' a → O a ∨ H1 a = none) → Rps X.K O H1 xs as → Rps X.K O H1 ys bs → ∀ H i d x H', Stay X.K O' H1 H → (pairsL as bs)[i]? = some d → YPair (fun i => xs[i]?) (fun i => ys[i]?) i H x H' → Same H H' ∧ Rp X.K O' H' x d := fun {H1 xs ys as bs} O' o rx ry H i d x H' s hd y => by
    obtain ⟨a', b', rfl, h1, h2⟩ := pairsL_get hd
    obtain ⟨T, u, w, rfl, hT, eH, e1, e2⟩ := y
    obtain ⟨u', h3, h4⟩ := rx.get h1
    obtain ⟨w', h5, h6⟩ := ry.get h2
    dsimp only at e1 e2
    rw [e1] at h3
    rw [e2] at h5
    cases h3; cases h5
    exact pair_rp (v := .non) hT eH ((h4.more o).stay s) ((h6.more o).stay s)
  dsimp only at g
  cases ef : fa ρ with
  | none => rw [ef] at g; exact g.elim
  | some r => cases r with
    | error c => exact ⟨_, two, tA.of env (by rw [ef] at g ⊢; exact g)⟩
    | ok ds =>
      rw [ef, bnd_ok] at g
      have g : GoG (fun H1 J ds => En X.K O H1 J ds) (Wc cv W σ) H R (lft (itZ ds)) := g
      unfold itZ at g
      split at g
      · refine ⟨_, two, tA.of env ?_⟩
        rw [ef]
        intro H1 vs s1 rs
        cases rs with | cons r1 rn => cases rn with | cons r2 rn =>
          cases rn
          cases r1 with | lst h n r =>
          cases r2 with | lst h' n' r' =>
          refine ⟨_, _, _, _, rfl, .inl ⟨SqL.of h, SqL.of h', g H1 _ s1 (en_walk (walk_zip rfl) (by rw [pairsL_len, r.length, r'.length]) (fun O' o H' st => ⟨?_, ?_⟩) fun O' o => pr O' o r r')⟩⟩
          · exact SqL.of (st.l _ _ h trivial fun z => (o _ z).elim n fun z => by rw [h] at z; cases z)
          · exact SqL.of (st.l _ _ h' trivial fun z => (o _ z).elim n' fun z => by rw [h'] at z; cases z)
      · refine ⟨_, two, tA.of env ?_⟩
        rw [ef]
        intro H1 vs s1 rs
        cases rs with | cons r1 rn => cases rn with | cons r2 rn =>
          cases rn
          cases r1 with | tup h r =>
          cases r2 with | tup h' r' =>
          exact ⟨_, _, _, _, rfl, .inr ⟨h, h', g H1 _ s1 (en_walk (walk_zipT rfl) (by rw [pairsL_len, r.length, r'.length]) (fun O' o H' st => ⟨st.t _ _ h, st.t _ _ h'⟩) fun O' o => pr O' o r r')⟩⟩
      · refine ⟨_, mix, tA.of env ?_⟩
        rw [ef]
        intro H1 vs s1 rs
        cases rs with | cons r1 rn => cases rn with | cons r2 rn =>
          cases rn
          cases r1 with | tup h r =>
          cases r2 with | lst h' n' r' =>
          refine ⟨_, _, _, _, rfl, h, SqL.of h', g H1 _ s1 (en_walk (walk_zm rfl) (by rw [pairsL_len, r.length, r'.length]) (fun O' o H' st => ⟨st.t _ _ h, ?_⟩) fun O' o => pr O' o r r')⟩
          exact SqL.of (st.l _ _ h' trivial fun z => (o _ z).elim n' fun z => by rw [h'] at z; cases z)
      · exact g.elim
theorem i_rev {fd : Env → M D} (hg : Gl X "reversed") (hm : X.mg "reversed" = none) (hs : noStar e = true) (h : PE X e (tD X.K cv W fd)) :
    PI X tg (.Call (.Name "reversed" p) [e] [] pos) (tI X.K cv W fun ρ => bnd (bnd (fd ρ) fun d => some (.ok [d])) fun ds => lft (itD .rev ds)) := by
  refine PI.weak (pi_revA hg hm h (stE hs [] X.env)) fun σ H R ⟨O, ρ, env, g⟩ => tD.of env ?_
  dsimp only at g
  cases e1 : fd ρ with
  | none => rw [e1] at g; exact g.elim
  | some r => cases r with
    | error c => rw [e1] at g; exact g
    | ok d =>
      rw [e1] at g
      intro H1 v s1 rv
      have rvget : ∀ {xs : List V} {ds : List D} {i : Nat} {d : D}, Rps X.K O H1 xs ds → ds.reverse[i]? = some d → ∃ v, xs[xs.length - 1 - i]? = some v ∧ Rp X.K O H1 v d := fun {xs ds i d} r h => by
        have hi := (List.getElem?_eq_some_iff.mp h).1
        rw [List.length_reverse] at hi
        rw [List.getElem?_reverse hi] at h
        rw [r.length]
        exact r.get h
      cases rv with
      | tup hT rs =>
        have g : ∀ H1 J, Same H H1 → En X.K O H1 J _ → R J H1 := g
        refine ⟨_, _, rfl, .inr ⟨hT, g H1 _ s1 (en_walk walk_revT (by rw [List.length_reverse, rs.length]) (fun O' o H' st => st.t _ _ hT) fun O' o H' i d x H2 st hd y => ?_)⟩⟩
        obtain ⟨rfl, y⟩ := y
        obtain ⟨w, h1, h2⟩ := rvget rs hd
        rw [y] at h1
        cases h1
        exact ⟨Same.refl _, (h2.more o).stay st⟩
      | lst hL n rs =>
        have g : ∀ H1 J, Same H H1 → En X.K O H1 J _ → R J H1 := g
        refine ⟨_, _, rfl, .inl ⟨SqL.of hL, g H1 _ s1 (en_walk walk_rev (by rw [List.length_reverse, rs.length]) (fun O' o H' st => SqL.of (st.l _ _ hL trivial fun z => (o _ z).elim n fun z => by rw [hL] at z; cases z)) fun O' o H' i d x H2 st hd y => ?_)⟩⟩
        obtain ⟨rfl, y⟩ := y
        obtain ⟨w, h1, h2⟩ := rvget rs hd
        rw [y] at h1
        cases h1
        exact ⟨Same.refl _, (h2.more o).stay st⟩
      | non => exact g.elim
      | bl _ => exact g.elim
      | int _ => exact g.elim
      | str _ => exact g.elim
      | scr _ => exact g.elim
      | obj _ _ _ _ _ => exact g.elim
      | dK _ _ _ _ => exact g.elim
      | dT _ _ _ _ _ _ => exact g.elim
end
theorem f_nil {X : Cx} {W : WX} : PTs X [] (tB X.K cv W fun _ => some (.ok true)) := PTs.weak pts_nil fun σ H Q ⟨O, ρ, env, g⟩ => g H true (Same.refl _) rfl
theorem evs_len (Γ : G) : ∀ (ts : List T) (ρ : Env) (ds : List D), evs Γ ts ρ = some (.ok ds) → ds.length = ts.length
  | [], ρ, ds, h => by cases h; rfl
  | t :: ts, ρ, ds, h => by
    simp only [evs] at h
    cases e1 : ev Γ t ρ with
    | none => rw [e1] at h; cases h
    | some r => cases r with
      | error c => rw [e1] at h; cases h
      | ok d =>
        rw [e1, bnd_ok] at h
        cases e2 : evs Γ ts ρ with
        | none => rw [e2] at h; cases h
        | some r2 => cases r2 with
          | error c => rw [e2] at h; cases h
          | ok ds2 =>
            rw [e2, bnd_ok] at h
            cases h
            rw [List.length_cons, List.length_cons, evs_len Γ ts ρ ds2 e2]
theorem chks_star {Γ : G} {sc : Scope} : ∀ {ts : List T} {es : List Expr}, chks Γ sc ts es = true → ts.length = es.length ∧ ∀ e ∈ es, noStar e = true
  | [], [], _ => ⟨rfl, fun _ h => by cases h⟩
  | t :: ts, e :: es, h => by
    simp only [chks, Bool.and_eq_true] at h
    have ih := chks_star h.2
    exact ⟨by rw [List.length_cons, List.length_cons, ih.1], fun e' he => (List.mem_cons.mp he).elim (fun z => z ▸ h.1.2) (ih.2 e')⟩
  | [], _ :: _, h => by simp [chks] at h
  | _ :: _, [], h => by simp [chks] at h

theorem chkks_all : ∀ {ks : List Key} {kes : List (Option Expr)}, chkks ks kes = true → kes.all (·.isSome) = true ∧ ks.length = kes.length
  | [], [], _ => ⟨rfl, rfl⟩
  | [], _ :: _, h => by simp [chkks] at h
  | _ :: _, [], h => by simp [chkks] at h
  | .inl i :: ks, ke :: kes, h => by
    cases ke <;> try (simp [chkks] at h; done)
    rename_i ke
    cases ke <;> try (simp [chkks] at h; done)
    rename_i c k p
    cases c <;> try (simp [chkks] at h; done)
    simp only [chkks, Bool.and_eq_true] at h
    have ih := chkks_all h.2
    exact ⟨by rw [List.all_cons, ih.1]; rfl, by rw [List.length_cons, List.length_cons, ih.2]⟩
  | .inr i :: ks, ke :: kes, h => by
    cases ke <;> try (simp [chkks] at h; done)
    rename_i ke
    cases ke <;> try (simp [chkks] at h; done)
    rename_i c k p
    cases c <;> try (simp [chkks] at h; done)
    simp only [chkks, Bool.and_eq_true] at h
    have ih := chkks_all h.2
    exact ⟨by rw [List.all_cons, ih.1]; rfl, by rw [List.length_cons, List.length_cons, ih.2]⟩
mutual
theorem snd : ∀ (t : T) (src : Src) (X : Cx) (W : WX) (sc : Scope), OkX Γ cv lvl X W → X.env.scope = sc → chk Γ sc t src = true → SrcOk cv X W src (ev Γ t)
  | .var i, src, X, W, sc, ok, hsc, h => by
    cases src <;> try exact absurd h Bool.false_ne_true
    rename_i e
    cases e <;> try exact absurd h Bool.false_ne_true
    rename_i x pos
    simp only [chk, Bool.and_eq_true, decide_eq_true_eq] at h
    subst hsc
    refine src1 (PE.weak (pe_var (by rw [ok.nN]; exact h.1.1) (vis_of h.1.2) (okName_of h.2).1 (okName_of h.2).2) fun σ H Q ⟨O, ρ, env, g⟩ => ?_) fun _ => rfl
    simp only [ev] at g
    cases e1 : ρ[i]? with
    | none => rw [e1] at g; exact g.elim
    | some o => cases o with
      | none => rw [e1] at g; exact g.elim
      | some d =>
        rw [e1] at g
        obtain ⟨v, h1, h2⟩ := env.at' i d e1
        exact ⟨v, h1, g H v (Same.refl _) h2⟩
  | .cst d, src, X, W, sc, ok, hsc, h => by
    cases src <;> try (cases d <;> exact absurd h Bool.false_ne_true)
    rename_i e
    cases e <;> try (cases d <;> exact absurd h Bool.false_ne_true)
    rename_i c k pos
    refine src1 ?_ fun _ => rfl
    cases d <;> cases c <;> try exact absurd h Bool.false_ne_true
    · exact PE.weak pe_non fun σ H Q ⟨O, ρ, env, g⟩ => g H _ (Same.refl _) .non
    · simp only [chk, decide_eq_true_eq] at h
      subst h
      exact PE.weak pe_bl fun σ H Q ⟨O, ρ, env, g⟩ => g H _ (Same.refl _) (.bl _)
    · simp only [chk, decide_eq_true_eq] at h
      subst h
      exact PE.weak pe_int fun σ H Q ⟨O, ρ, env, g⟩ => g H _ (Same.refl _) (.int _)
    · simp only [chk, decide_eq_true_eq] at h
      subst h
      exact PE.weak pe_str fun σ H Q ⟨O, ρ, env, g⟩ => g H _ (Same.refl _) (.str _)
  | .glo i, src, X, W, sc, ok, hsc, h => by
    cases src <;> try exact absurd h Bool.false_ne_true
    rename_i e
    cases e <;> try exact absurd h Bool.false_ne_true
    rename_i x pos
    simp only [chk, Bool.and_eq_true, decide_eq_true_eq] at h
    cases e1 : Γ.gls[i]? with
    | none => rw [e1] at h; cases h.1.1
    | some p =>
      rw [e1] at h
      obtain rfl : p.1 = x := Option.some.inj h.1.1
      obtain ⟨u, v, hm, r, hr⟩ := ok.gls i p e1
      refine src1 (PE.weak (pe_glob (gl_of hsc h.1.2) hm r (okName_of h.2).1) fun σ H Q ⟨O, ρ, env, g⟩ => ?_) fun _ => rfl
      simp only [ev, e1] at g
      exact g H v (Same.refl _) (hr O H)
  | .bin op a b, src, X, W, sc, ok, hsc, h => by
    cases src <;> try exact absurd h Bool.false_ne_true
    rename_i e
    cases e <;> try exact absurd h Bool.false_ne_true
    simp only [chk, Bool.and_eq_true, decide_eq_true_eq] at h
    obtain ⟨⟨rfl, h1⟩, h2⟩ := h
    exact src1 (s_bin (snd a _ X W sc ok hsc h1).1 (snd b _ X W sc ok hsc h2).1) fun _ => rfl
  | .neg a, src, X, W, sc, ok, hsc, h => by
    cases src <;> try exact absurd h Bool.false_ne_true
    rename_i e
    cases e <;> try exact absurd h Bool.false_ne_true
    rename_i op e pos
    cases op <;> try exact absurd h Bool.false_ne_true
    exact src1 (s_neg (snd a _ X W sc ok hsc h).1) fun _ => rfl
  | .nt a, src, X, W, sc, ok, hsc, h => by
    cases src <;> try exact absurd h Bool.false_ne_true
    rename_i e
    cases e <;> try exact absurd h Bool.false_ne_true
    rename_i op e pos
    cases op <;> try exact absurd h Bool.false_ne_true
    simp only [chk, Bool.and_eq_true] at h
    have q := snd a _ X W sc ok hsc h.1
    exact ⟨s_nt q.1, fun _ => t_nt (q.2 h.2)⟩
  | .cmp op a b, src, X, W, sc, ok, hsc, h => by
    cases src <;> try exact absurd h Bool.false_ne_true
    rename_i e
    cases e <;> try exact absurd h Bool.false_ne_true
    rename_i ea ops es pos
    match ops, es, h with
    | [op'], [eb], h =>
      simp only [chk, Bool.and_eq_true, decide_eq_true_eq, Bool.not_eq_true'] at h
      obtain ⟨⟨⟨rfl, h1⟩, h2⟩, h3⟩ := h
      have q1 := (snd a _ X W sc ok hsc h1).1
      have q2 := (snd b _ X W sc ok hsc h2).1
      exact ⟨s_cmp ok.room h3 q1 q2, fun _ => t_cmp ok.room h3 q1 q2⟩
    | [], _, h => exact absurd h Bool.false_ne_true
    | [_], [], h => exact absurd h Bool.false_ne_true
    | [_], _ :: _ :: _, h => exact absurd h Bool.false_ne_true
    | _ :: _ :: _, _, h => exact absurd h Bool.false_ne_true
  | .cmp2 op op2 a b c, src, X, W, sc, ok, hsc, h => by
    cases src <;> try exact absurd h Bool.false_ne_true
    rename_i e
    cases e <;> try exact absurd h Bool.false_ne_true
    rename_i ea ops es pos
    match ops, es, h with
    | [op', op2'], [eb, ec], h =>
      simp only [chk, Bool.and_eq_true, decide_eq_true_eq, Bool.not_eq_true'] at h
      obtain ⟨⟨⟨⟨⟨rfl, rfl⟩, h1⟩, h2⟩, h3⟩, h4⟩ := h
      have q1 := (snd a _ X W sc ok hsc h1).1
      have q2 := (snd b _ X W sc ok hsc h2).1
      have q3 := (snd c _ X W sc ok hsc h3).1
      have q : PE X (.Compare ea [op, op2] [eb, ec] pos) (tD X.K cv W (ev Γ (.cmp2 op op2 a b c))) := s_cmp2 ok.room h4 q1 q2 q3
      exact ⟨q, fun _ => t_cmp2 ok.room h4 q1 q2 q3⟩
    | [], _, h => exact absurd h Bool.false_ne_true
    | [_], _, h => exact absurd h Bool.false_ne_true
    | [_, _], [], h => exact absurd h Bool.false_ne_true
    | [_, _], [_], h => exact absurd h Bool.false_ne_true
    | [_, _], _ :: _ :: _ :: _, h => exact absurd h Bool.false_ne_true
    | _ :: _ :: _ :: _, _, h => exact absurd h Bool.false_ne_true
  | .and a b, src, X, W, sc, ok, hsc, h => by
    cases src <;> try exact absurd h Bool.false_ne_true
    · rename_i e
      cases e <;> try exact absurd h Bool.false_ne_true
      rename_i op es pos
      cases op <;> try exact absurd h Bool.false_ne_true
      match es, h with
      | e :: e2 :: es, h =>
        simp only [chk, Bool.and_eq_true] at h
        have q := snd a _ X W sc ok hsc h.1.1
        have q2 := srcA (snd b _ X W sc ok hsc h.2) pos
        exact ⟨s_and q.1 q2.1, fun _ => (t_and (q.2 h.1.2) q2.2).pt⟩
      | [], h => exact absurd h Bool.false_ne_true
      | [_], h => exact absurd h Bool.false_ne_true
    · rename_i es
      match es, h with
      | e :: e2 :: es, h =>
        simp only [chk, Bool.and_eq_true] at h
        have q := snd a _ X W sc ok hsc h.1.1
        intro pos
        have q2 := srcA (snd b _ X W sc ok hsc h.2) pos
        exact ⟨s_and q.1 q2.1, t_and (q.2 h.1.2) q2.2⟩
      | [], h => exact absurd h Bool.false_ne_true
      | [_], h => exact absurd h Bool.false_ne_true
  | .or a b, src, X, W, sc, ok, hsc, h => by
    cases src <;> try exact absurd h Bool.false_ne_true
    · rename_i e
      cases e <;> try exact absurd h Bool.false_ne_true
      rename_i op es pos
      cases op <;> try exact absurd h Bool.false_ne_true
      match es, h with
      | e :: e2 :: es, h =>
        simp only [chk, Bool.and_eq_true] at h
        have q := snd a _ X W sc ok hsc h.1.1
        have q2 := srcO (snd b _ X W sc ok hsc h.2) pos
        exact ⟨s_or q.1 q2.1, fun _ => (t_or (q.2 h.1.2) q2.2).pt⟩
      | [], h => exact absurd h Bool.false_ne_true
      | [_], h => exact absurd h Bool.false_ne_true
    · rename_i es
      match es, h with
      | e :: e2 :: es, h =>
        simp only [chk, Bool.and_eq_true] at h
        have q := snd a _ X W sc ok hsc h.1.1
        intro pos
        have q2 := srcO (snd b _ X W sc ok hsc h.2) pos
        exact ⟨s_or q.1 q2.1, t_or (q.2 h.1.2) q2.2⟩
      | [], h => exact absurd h Bool.false_ne_true
      | [_], h => exact absurd h Bool.false_ne_true
  | .ite c a b, src, X, W, sc, ok, hsc, h => by
    cases src <;> try exact absurd h Bool.false_ne_true
    rename_i e
    cases e <;> try exact absurd h Bool.false_ne_true
    simp only [chk, Bool.and_eq_true] at h
    have q := (snd c _ X W sc ok hsc h.1.1.1).2 h.1.1.2
    exact ⟨s_ite q (snd a _ X W sc ok hsc h.1.2).1 (snd b _ X W sc ok hsc h.2).1, fun z => by cases z⟩
  | .tup es, src, X, W, sc, ok, hsc, h => by
    cases src <;> try exact absurd h Bool.false_ne_true
    rename_i e
    cases e <;> try exact absurd h Bool.false_ne_true
    exact src1 (s_tup (snds es _ X W sc ok hsc h)) fun _ => rfl
  | .lst es, src, X, W, sc, ok, hsc, h => by
    cases src <;> try exact absurd h Bool.false_ne_true
    rename_i e
    cases e <;> try exact absurd h Bool.false_ne_true
    exact src1 (s_lst (snds es _ X W sc ok hsc h)) fun _ => rfl
  | .idx a i, src, X, W, sc, ok, hsc, h => by
    cases src <;> try exact absurd h Bool.false_ne_true
    rename_i e
    cases e <;> try exact absurd h Bool.false_ne_true
    simp only [chk, Bool.and_eq_true] at h
    exact src1 (s_idx ok.room h.2 (snd a _ X W sc ok hsc h.1.1).1 (snd i _ X W sc ok hsc h.1.2).1) fun _ => rfl
  | .slc a lo hi, src, X, W, sc, ok, hsc, h => by
    cases src <;> try exact absurd h Bool.false_ne_true
    rename_i e
    cases e <;> try exact absurd h Bool.false_ne_true
    rename_i ea sl pos
    cases sl <;> try exact absurd h Bool.false_ne_true
    rename_i el eh es p2
    cases es <;> try exact absurd h Bool.false_ne_true
    simp only [chk, Bool.and_eq_true] at h
    exact src1 (s_slc (snd a _ X W sc ok hsc h.1.1).1 (sndo lo _ X W sc ok hsc h.1.2) (sndo hi _ X W sc ok hsc h.2)) fun _ => rfl
  | .lc p k args ifs elt own, src, X, W, sc, ok, hsc, h => by
    cases src <;> try exact absurd h Bool.false_ne_true
    rename_i e
    cases e <;> try exact absurd h Bool.false_ne_true
    rename_i eelt gs scope pos
    match gs, h with
    | [⟨tg, it, eifs, asy⟩], h =>
      simp only [chk, Bool.and_eq_true, decide_eq_true_eq] at h
      obtain ⟨⟨⟨⟨⟨⟨⟨rfl, h1⟩, h2⟩, h3⟩, h4⟩, h5⟩, h6⟩, h7⟩ := h
      subst hsc
      refine src1 (lc_ok (p := p) (own := own) (fI := fun ρ => bnd (evs Γ args ρ) fun ds => lft (itD k ds)) (fi := evi Γ ifs) (fe := ev Γ elt) ok (sndI k args it tg X W _ ok rfl h2) (blkOk_by (by rw [ok.nN]; exact h6)) (fun s H C cl fp => ?_) (fun s H C cl fp => sndF ifs eifs _ _ _ (ok.blk s H scope C cl fp) rfl h4)
        (fun s H C cl fp => (snd elt _ _ _ _ (ok.blk s H scope C cl fp) rfl h5).1) (fun i hi => ?_) h1) fun _ => rfl
      · exact pg_ok (X := X.blk s H scope (compEnvC scope cl C X.env) fp) ok.calm ok.nd blk_loc p tg (by show chkP X.N scope p tg = true; rw [ok.nN]; exact h3)
      · exact of_decide_eq_true (List.all_eq_true.mp h7 i hi)
    | [], h => exact absurd h Bool.false_ne_true
    | ⟨_, _, _, _⟩ :: _ :: _, h => exact absurd h Bool.false_ne_true
  | .call i args, src, X, W, sc, ok, hsc, h => by
    cases src <;> try exact absurd h Bool.false_ne_true
    rename_i e
    cases e <;> try exact absurd h Bool.false_ne_true
    rename_i f es ks pos
    cases f <;> try exact absurd h Bool.false_ne_true
    rename_i x p
    match es, ks, h with
    | e :: es, [], h =>
      simp only [chk, Bool.and_eq_true, decide_eq_true_eq] at h
      cases e1 : Γ.fns[i]? with
      | none => rw [e1] at h; cases h.1.1.1.1
      | some q =>
        rw [e1] at h
        have st := chks_star h.2
        refine src1 ?_ fun _ => rfl
        have key := s_call (pos := pos) (p := p) ok e1 (Option.some.inj h.1.1.1.1).symm (by rw [← st.1]; exact (Option.some.inj h.1.1.1.2).symm) (fun ρ ds hd => by rw [evs_len Γ args ρ ds hd]; exact (Option.some.inj h.1.1.1.2).symm) (okName_of h.1.2).1 (gl_of hsc h.1.1.2) st.2 (snds args _ X W sc ok hsc h.2)
        refine PE.weak key fun σ H Q ⟨O, ρ, env, g⟩ => ⟨O, ρ, env, ?_⟩
        simp only [ev, e1] at g
        exact g
    | [], [], h =>
      cases args with
      | cons t ts => exact absurd h Bool.false_ne_true
      | nil =>
        simp only [chk, Bool.and_eq_true, decide_eq_true_eq] at h
        obtain ⟨⟨⟨h1, h2⟩, h3⟩, h4⟩ := h
        cases e1 : Γ.fns[i]? with
        | none => rw [e1] at h1; cases h1
        | some q =>
          rw [e1] at h1 h2
          refine src1 ?_ fun _ => rfl
          have key := s_call0 (pos := pos) (p := p) ok e1 (Option.some.inj h1).symm (Option.some.inj h2).symm (okName_of h4).1 (gl_of hsc h3)
          refine PE.weak key fun σ H Q ⟨O, ρ, env, g⟩ => ⟨O, ρ, env, ?_⟩
          simp only [ev, evs, e1] at g
          exact g
    | [], _ :: _, h => exact absurd h Bool.false_ne_true
    | _ :: _, _ :: _, h => exact absurd h Bool.false_ne_true
  | .inr neg a n, src, X, W, sc, ok, hsc, h => by
    cases src <;> try exact absurd h Bool.false_ne_true
    rename_i e
    cases e <;> try exact absurd h Bool.false_ne_true
    rename_i ea ops es pos
    match ops, es, h with
    | [op'], [.Call (.Name x p) [e] [] p2], h =>
      simp only [chk, Bool.and_eq_true, decide_eq_true_eq, Bool.not_eq_true'] at h
      obtain ⟨⟨⟨⟨⟨⟨h1, h2⟩, h3⟩, h4⟩, h5⟩, h6⟩, h7⟩ := h
      have q1 := (snd a _ X W sc ok hsc h4).1
      have q2 := (snd n _ X W sc ok hsc h5).1
      exact ⟨s_inr ok h1 h2 (gl_of hsc h3) h6 h7 q1 q2, fun _ => t_inr ok h1 h2 (gl_of hsc h3) h6 h7 q1 q2⟩
  | .rg1 tp b, src, X, W, sc, ok, hsc, h => by
    cases src <;> try exact absurd h Bool.false_ne_true
    rename_i e
    match e, h with
    | .Call (.Name x p) [.Call (.Name y p2) [e] [] p3] [] pos, h =>
      simp only [chk, Bool.and_eq_true, decide_eq_true_eq] at h
      obtain ⟨⟨⟨⟨⟨h1, h2⟩, h3⟩, h4⟩, h5⟩, h6⟩ := h
      exact src1 (s_rg1 ok h1 (gl_of hsc h2) h3 (gl_of hsc h4) h6 (snd b _ X W sc ok hsc h5).1) fun _ => rfl
  | .rg2 tp a b, src, X, W, sc, ok, hsc, h => by
    cases src <;> try exact absurd h Bool.false_ne_true
    rename_i e
    match e, h with
    | .Call (.Name x p) [.Call (.Name y p2) [e, e2] [] p3] [] pos, h =>
      simp only [chk, Bool.and_eq_true, decide_eq_true_eq] at h
      obtain ⟨⟨⟨⟨⟨⟨⟨h1, h2⟩, h3⟩, h4⟩, h5⟩, h6⟩, h7⟩, h8⟩ := h
      exact src1 (s_rg2 ok h1 (gl_of hsc h2) h3 (gl_of hsc h4) h6 h8 (snd a _ X W sc ok hsc h5).1 (snd b _ X W sc ok hsc h7).1) fun _ => rfl
  | .dsq k v, src, X, W, sc, ok, hsc, h => by
    cases src <;> try exact absurd h Bool.false_ne_true
    rename_i e
    match e, h with
    | .Dict [some ke] [ve] pos, h =>
      simp only [chk, Bool.and_eq_true] at h
      exact src1 (s_dsq ok.room (snd k _ X W sc ok hsc h.1).1 (snd v _ X W sc ok hsc h.2).1) fun _ => rfl
  | .blt f args, src, X, W, sc, ok, hsc, h => by
    cases src <;> try exact absurd h Bool.false_ne_true
    rename_i e
    cases e <;> try exact absurd h Bool.false_ne_true
    rename_i f' es ks pos
    cases f' <;> try exact absurd h Bool.false_ne_true
    rename_i x p
    match es, ks, h with
    | e :: es, [], h =>
      simp only [chk, Bool.and_eq_true, decide_eq_true_eq] at h
      have st := chks_star h.2
      exact src1 (s_blt ok h.1.1 (gl_of hsc h.1.2) st.2 (snds args _ X W sc ok hsc h.2)) fun _ => rfl
    | [], _, h => exact absurd h Bool.false_ne_true
    | _ :: _, _ :: _, h => exact absurd h Bool.false_ne_true
  | .isi t a, src, X, W, sc, ok, hsc, h => by
    cases src <;> try exact absurd h Bool.false_ne_true
    rename_i e
    cases e <;> try exact absurd h Bool.false_ne_true
    rename_i f' es ks pos
    cases f' <;> try exact absurd h Bool.false_ne_true
    rename_i x p
    match es, ks, h with
    | [e, .Name y p2], [], h =>
      simp only [chk, Bool.and_eq_true, decide_eq_true_eq] at h
      exact src1 (s_isi ok h.1.1.1.1.1 (gl_of hsc h.1.1.1.1.2) h.1.2 (gl_of hsc h.2) h.1.1.2 (snd a _ X W sc ok hsc h.1.1.1.2).1) fun _ => rfl
  | .fld a f, src, X, W, sc, ok, hsc, h => by
    cases src <;> try exact absurd h Bool.false_ne_true
    rename_i e
    cases e <;> try exact absurd h Bool.false_ne_true
    simp only [chk, Bool.and_eq_true, decide_eq_true_eq] at h
    obtain ⟨⟨rfl, h1⟩, h2⟩ := h
    exact src1 (s_fld ok h2 (snd a _ X W sc ok hsc h1).1) fun _ => rfl
  | .mth i a args, src, X, W, sc, ok, hsc, h => by
    cases src <;> try exact absurd h Bool.false_ne_true
    rename_i e
    cases e <;> try exact absurd h Bool.false_ne_true
    rename_i f' es ks pos
    cases f' <;> try exact absurd h Bool.false_ne_true
    rename_i o m apos
    match es, ks, h with
    | e :: es, [], h =>
      simp only [chk, Bool.and_eq_true, decide_eq_true_eq] at h
      obtain ⟨⟨⟨⟨⟨⟨h1, h2⟩, h3⟩, h4⟩, h5⟩, h6⟩, h7⟩ := h
      cases e1 : Γ.mts[i]? with
      | none => rw [e1] at h3; cases h3
      | some q =>
        rw [e1] at h3 h4
        have st := chks_star h7
        refine src1 ?_ fun _ => rfl
        have key := s_mth ok e1 (Option.some.inj h3).symm (fun ρ ds hd => by rw [evs_len Γ args ρ ds hd]; exact (Option.some.inj h4).symm) h6 h1 h2 st.2 (snd a _ X W sc ok hsc h5).1 (snds args _ X W sc ok hsc h7)
        refine PE.weak key fun σ H Q ⟨O, ρ, env, g⟩ => ⟨O, ρ, env, ?_⟩
        simp only [ev, e1] at g
        exact g
    | [], _, h => exact absurd h Bool.false_ne_true
    | _ :: _, _ :: _, h => exact absurd h Bool.false_ne_true
  | .new i args, src, X, W, sc, ok, hsc, h => by
    cases src <;> try exact absurd h Bool.false_ne_true
    rename_i e
    cases e <;> try exact absurd h Bool.false_ne_true
    rename_i f es ks pos
    cases f <;> try exact absurd h Bool.false_ne_true
    rename_i x p
    match es, ks, h with
    | e :: es, [], h =>
      simp only [chk, Bool.and_eq_true, decide_eq_true_eq] at h
      obtain ⟨⟨⟨⟨⟨h1, h2⟩, h3⟩, h4⟩, h5⟩, h6⟩ := h
      cases e1 : Γ.mks[i]? with
      | none => rw [e1] at h1; cases h1
      | some q =>
        rw [e1] at h1 h2 h3
        have st := chks_star h6
        refine src1 ?_ fun _ => rfl
        have key := s_new (pos := pos) (p := p) ok e1 (Option.some.inj h1).symm (Option.some.inj h2) (fun ρ ds hd => by rw [evs_len Γ args ρ ds hd]; exact (Option.some.inj h3).symm) (okName_of h5).1 (gl_of hsc h4) st.2 (snds args _ X W sc ok hsc h6)
        refine PE.weak key fun σ H Q ⟨O, ρ, env, g⟩ => ⟨O, ρ, env, ?_⟩
        simp only [ev, e1] at g
        exact g
    | [], _, h => exact absurd h Bool.false_ne_true
    | _ :: _, _ :: _, h => exact absurd h Bool.false_ne_true
  | .lsx es, src, X, W, sc, ok, hsc, h => by
    cases src <;> try exact absurd h Bool.false_ne_true
    rename_i e
    cases e <;> try exact absurd h Bool.false_ne_true
    rename_i xs pos
    refine src1 (PE.weak (s_lst (sndx es xs X W sc ok hsc h)) fun σ H Q ⟨O, ρ, env, g⟩ => ⟨O, ρ, env, ?_⟩) fun _ => rfl
    simp only [ev] at g
    dsimp only
    cases e1 : evs Γ es ρ with
    | none => rw [e1] at g; exact g
    | some r => cases r with
      | error c => rw [e1] at g; exact g
      | ok ds =>
        rw [e1, bnd_ok] at g
        rw [bnd_ok]
        cases e2 : starL ds with
        | none => rw [e2] at g; exact g
        | some ys => rw [e2] at g; exact g
  | .bck a, src, X, W, sc, ok, hsc, h => by
    cases src <;> try exact absurd h Bool.false_ne_true
    rename_i e
    cases e <;> try exact absurd h Bool.false_ne_true
    rename_i ea sl pos
    cases sl <;> try exact absurd h Bool.false_ne_true
    rename_i el eh es p2
    cases el <;> try exact absurd h Bool.false_ne_true
    cases eh <;> try exact absurd h Bool.false_ne_true
    cases es <;> try exact absurd h Bool.false_ne_true
    rename_i u
    cases u <;> try exact absurd h Bool.false_ne_true
    rename_i op u p4
    cases op <;> try exact absurd h Bool.false_ne_true
    cases u <;> try exact absurd h Bool.false_ne_true
    rename_i c k p5
    cases c <;> try exact absurd h Bool.false_ne_true
    simp only [chk, Bool.and_eq_true, decide_eq_true_eq] at h
    obtain ⟨rfl, h⟩ := h
    exact src1 (s_bck (snd a _ X W sc ok hsc h).1) fun _ => rfl
  | .dnew t, src, X, W, sc, ok, hsc, h => by
    cases src <;> try exact absurd h Bool.false_ne_true
    rename_i e
    cases e <;> try exact absurd h Bool.false_ne_true
    rename_i ks vs pos
    cases ks <;> try exact absurd h Bool.false_ne_true
    cases vs <;> try exact absurd h Bool.false_ne_true
    exact src1 (s_dnew t) fun _ => rfl
  | .dsp ks vs, src, X, W, sc, ok, hsc, h => by
    cases src <;> try exact absurd h Bool.false_ne_true
    rename_i e
    cases e <;> try exact absurd h Bool.false_ne_true
    rename_i kes ves pos
    simp only [chk, Bool.and_eq_true, decide_eq_true_eq] at h
    obtain ⟨⟨⟨⟨h1, h2⟩, h3⟩, h4⟩, h5⟩ := h
    exact src1 (s_dsp (chkks_all h1).1 h5 (by intro z; rw [z] at h3; cases h3) h4 (chkks_all h1).2 (sndP ks vs kes ves X W sc pos ok hsc h5 h1 h2)) fun _ => rfl
  | .bad, src, X, W, sc, ok, hsc, h => by
    cases src <;> try exact absurd h Bool.false_ne_true
    refine ⟨⟨fun pins s σ H Q I hh => ?_⟩, fun _ => ⟨fun pins s σ H Q I hh => ?_⟩⟩
    · obtain ⟨O, ρ, env, g⟩ := hh
      simp only [ev] at g
      exact g.elim
    · obtain ⟨O, ρ, env, g⟩ := hh
      simp only [ev] at g
      exact g.elim
  | .mfn i args, src, X, W, sc, ok, hsc, h => by
    cases src <;> try exact absurd h Bool.false_ne_true
    rename_i e
    cases e <;> try exact absurd h Bool.false_ne_true
    rename_i f es ks pos
    cases f <;> try exact absurd h Bool.false_ne_true
    rename_i x p
    match es, ks, h with
    | e :: es, [], h =>
      simp only [chk, Bool.and_eq_true, decide_eq_true_eq] at h
      obtain ⟨⟨⟨h1, h2⟩, h3⟩, h4⟩ := h
      cases e1 : Γ.mfs[i]? with
      | none => rw [e1] at h1; cases h1
      | some q =>
        rw [e1] at h1
        have st := chks_star h4
        refine src1 ?_ fun _ => rfl
        have key := s_mfn (pos := pos) (p := p) ok e1 (Option.some.inj h1).symm (okName_of h3).1 (gl_of hsc h2) st.2 (snds args _ X W sc ok hsc h4)
        refine PE.weak key fun σ H Q ⟨O, ρ, env, g⟩ => ⟨O, ρ, env, ?_⟩
        simp only [ev, e1] at g
        exact g
    | [], _, h => exact absurd h Bool.false_ne_true
    | _ :: _, _ :: _, h => exact absurd h Bool.false_ne_true
theorem sndP : ∀ (ks : List Key) (vs : List T) (kes : List (Option Expr)) (ves : List Expr) (X : Cx) (W : WX) (sc : Scope) (pos : Pos), OkX Γ cv lvl X W → X.env.scope = sc → kes.length = ves.length → chkks ks kes = true → chks Γ sc vs ves = true → PDs X pos kes ves cv W ks (evs Γ vs)
  | ks, [], kes, ves, X, W, sc, pos, ok, hsc, hl, h, h2 => by
    cases ves with
    | cons _ _ => simp [chks] at h2
    | nil => cases kes with
      | cons _ _ => cases hl
      | nil => cases ks with
        | nil => exact p_nil
        | cons _ _ => simp [chkks] at h
  | ks, t :: ts, kes, ves, X, W, sc, pos, ok, hsc, hl, h, h2 => by
    cases ves with
    | nil => simp [chks] at h2
    | cons e es => cases kes with
      | nil => cases hl
      | cons ke kes => cases ks with
        | nil => simp [chkks] at h
        | cons k ks =>
          simp only [chks, Bool.and_eq_true] at h2
          have h1 := (snd t (.one e) X W sc ok hsc h2.1.1).1
          cases ke <;> try (cases k <;> simp [chkks] at h; done)
          rename_i ke
          cases ke <;> try (cases k <;> simp [chkks] at h; done)
          rename_i c kk p
          cases k with
          | inl i =>
            cases c <;> try (simp [chkks] at h; done)
            simp only [chkks, Bool.and_eq_true, decide_eq_true_eq] at h
            obtain ⟨rfl, h⟩ := h
            exact p_cons pe_int h1 (sndP ks ts kes es X W sc pos ok hsc (Nat.succ.inj hl) h h2.2)
          | inr i =>
            cases c <;> try (simp [chkks] at h; done)
            simp only [chkks, Bool.and_eq_true, decide_eq_true_eq] at h
            obtain ⟨rfl, h⟩ := h
            exact p_cons pe_str h1 (sndP ks ts kes es X W sc pos ok hsc (Nat.succ.inj hl) h h2.2)
theorem sndx : ∀ (ts : List T) (es : List Expr) (X : Cx) (W : WX) (sc : Scope), OkX Γ cv lvl X W → X.env.scope = sc → chkx Γ sc ts es = true → PA X es (tA X.K cv W fun ρ => bnd (evs Γ ts ρ) fun ds => lft (starL ds))
  | [], [], X, W, sc, ok, hsc, h => by simp [chkx] at h
  | [t], [e], X, W, sc, ok, hsc, h => by
    cases e <;> try (simp [chkx] at h; done)
    exact x_one (snd t _ X W sc ok hsc h).1
  | t :: u :: ts, e :: es, X, W, sc, ok, hsc, h => by
    have h : (chk Γ sc t (.one e) && noStar e && chkx Γ sc (u :: ts) es) = true := by simpa [chkx] using h
    simp only [Bool.and_eq_true] at h
    exact x_cons h.1.2 (fun ρ ds hd => by have := evs_len Γ (u :: ts) ρ ds hd; intro z; rw [z] at this; cases this) (snd t _ X W sc ok hsc h.1.1).1 (sndx (u :: ts) es X W sc ok hsc h.2)
  | [], _ :: _, _, _, _, _, _, h => by simp [chkx] at h
  | _ :: _, [], _, _, _, _, _, h => by simp [chkx] at h
  | [_], _ :: _ :: _, _, _, _, _, _, h => by simp [chkx] at h
theorem snds : ∀ (ts : List T) (es : List Expr) (X : Cx) (W : WX) (sc : Scope), OkX Γ cv lvl X W → X.env.scope = sc → chks Γ sc ts es = true → PA X es (tA X.K cv W (evs Γ ts))
  | [], [], X, W, sc, ok, hsc, h => a_nil
  | t :: ts, e :: es, X, W, sc, ok, hsc, h => by
    simp only [chks, Bool.and_eq_true] at h
    exact a_cons h.1.2 (snd t _ X W sc ok hsc h.1.1).1 (snds ts es X W sc ok hsc h.2)
  | [], _ :: _, _, _, _, _, _, h => by simp [chks] at h
  | _ :: _, [], _, _, _, _, _, h => by simp [chks] at h
theorem sndo : ∀ (t : Option T) (e : Option Expr) (X : Cx) (W : WX) (sc : Scope), OkX Γ cv lvl X W → X.env.scope = sc → chko Γ sc t e = true → PO X e (tO X.K cv W (evo Γ t))
  | none, none, X, W, sc, ok, hsc, h => o_none
  | some t, some e, X, W, sc, ok, hsc, h => o_some (snd t (.one e) X W sc ok hsc h).1
  | none, some _, _, _, _, _, _, h => by simp [chko] at h
  | some _, none, _, _, _, _, _, h => by simp [chko] at h
theorem sndF : ∀ (ts : List T) (es : List Expr) (X : Cx) (W : WX) (sc : Scope), OkX Γ cv lvl X W → X.env.scope = sc → chkF Γ sc ts es = true → PTs X es (tB X.K cv W (evi Γ ts))
  | [], [], X, W, sc, ok, hsc, h => f_nil
  | [t], [e], X, W, sc, ok, hsc, h => by
    simp only [chkF, Bool.and_eq_true] at h
    exact pts_one ((snd t _ X W sc ok hsc h.1).2 h.2)
  | [], _ :: _, _, _, _, _, _, h => absurd h Bool.false_ne_true
  | [_], [], _, _, _, _, _, h => absurd h Bool.false_ne_true
  | _ :: _ :: _, [], _, _, _, _, _, h => absurd h Bool.false_ne_true
  | _ :: _ :: _, _ :: _, _, _, _, _, _, h => absurd h Bool.false_ne_true
  | [_], _ :: _ :: _, _, _, _, _, _, h => absurd h Bool.false_ne_true
theorem sndI : ∀ (k : IK) (ts : List T) (e tg : Expr) (X : Cx) (W : WX) (sc : Scope), OkX Γ cv lvl X W → X.env.scope = sc → chkI Γ sc k ts tg e = true → PI X tg e (tI X.K cv W fun ρ => bnd (evs Γ ts ρ) fun ds => lft (itD k ds))
  | .seq, [t], e, tg, X, W, sc, ok, hsc, h => i_seq (snd t _ X W sc ok hsc h).1
  | .rng1, [t], e, tg, X, W, sc, ok, hsc, h => by
    cases e <;> try exact absurd h Bool.false_ne_true
    rename_i f es ks pos
    cases f <;> try exact absurd h Bool.false_ne_true
    rename_i x p
    match es, ks, h with
    | [e], [], h =>
      simp only [chkI, Bool.and_eq_true, decide_eq_true_eq] at h
      obtain ⟨⟨⟨rfl, h1⟩, h2⟩, h3⟩ := h
      exact i_rng1 (gl_of hsc h1) (ok.blt _ (by decide +kernel)) h3 (a_cons h3 (snd t _ X W sc ok hsc h2).1 a_nil)
  | .rng2, [t, u], e, tg, X, W, sc, ok, hsc, h => by
    cases e <;> try exact absurd h Bool.false_ne_true
    rename_i f es ks pos
    cases f <;> try exact absurd h Bool.false_ne_true
    rename_i x p
    match es, ks, h with
    | [e, e2], [], h =>
      simp only [chkI, Bool.and_eq_true, decide_eq_true_eq] at h
      obtain ⟨⟨⟨⟨⟨rfl, h1⟩, h2⟩, h3⟩, h4⟩, h5⟩ := h
      exact i_rng2 (gl_of hsc h1) (ok.blt _ (by decide +kernel)) h3 h5 (a_cons h3 (snd t _ X W sc ok hsc h2).1 (a_cons h5 (snd u _ X W sc ok hsc h4).1 a_nil))
  | .rng3, [t, u, v], e, tg, X, W, sc, ok, hsc, h => by
    cases e <;> try exact absurd h Bool.false_ne_true
    rename_i f es ks pos
    cases f <;> try exact absurd h Bool.false_ne_true
    rename_i x p
    match es, ks, h with
    | [e, e2, e3], [], h =>
      simp only [chkI, Bool.and_eq_true, decide_eq_true_eq] at h
      obtain ⟨⟨⟨⟨⟨⟨⟨rfl, h1⟩, h2⟩, h3⟩, h4⟩, h5⟩, h6⟩, h7⟩ := h
      exact i_rng3 (gl_of hsc h1) (ok.blt _ (by decide +kernel)) h3 h5 h7 (a_cons h3 (snd t _ X W sc ok hsc h2).1 (a_cons h5 (snd u _ X W sc ok hsc h4).1 (a_cons h7 (snd v _ X W sc ok hsc h6).1 a_nil)))
  | .enum, [t], e, tg, X, W, sc, ok, hsc, h => by
    cases e <;> try exact absurd h Bool.false_ne_true
    rename_i f es ks pos
    cases f <;> try exact absurd h Bool.false_ne_true
    rename_i x p
    match es, ks, h with
    | [e], [], h =>
      simp only [chkI, Bool.and_eq_true, decide_eq_true_eq] at h
      obtain ⟨⟨⟨⟨rfl, h1⟩, h2⟩, h3⟩, h4⟩ := h
      cases tg <;> try (exact absurd h4 Bool.false_ne_true)
      exact i_enum (gl_of hsc h1) (ok.blt _ (by decide +kernel)) h3 (a_cons h3 (snd t _ X W sc ok hsc h2).1 a_nil)
  | .zip, [t, u], e, tg, X, W, sc, ok, hsc, h => by
    cases e <;> try exact absurd h Bool.false_ne_true
    rename_i f es ks pos
    cases f <;> try exact absurd h Bool.false_ne_true
    rename_i x p
    match es, ks, h with
    | [e, e2], [], h =>
      simp only [chkI, Bool.and_eq_true, decide_eq_true_eq] at h
      obtain ⟨⟨⟨⟨⟨⟨rfl, h1⟩, h2⟩, h3⟩, h4⟩, h5⟩, h6⟩ := h
      cases tg <;> try (exact absurd h6 Bool.false_ne_true)
      exact i_zip (gl_of hsc h1) (ok.blt _ (by decide +kernel)) h3 h5 (a_cons h3 (snd t _ X W sc ok hsc h2).1 (a_cons h5 (snd u _ X W sc ok hsc h4).1 a_nil))
  | .rev, [t], e, tg, X, W, sc, ok, hsc, h => by
    cases e <;> try exact absurd h Bool.false_ne_true
    rename_i f es ks pos
    cases f <;> try exact absurd h Bool.false_ne_true
    rename_i x p
    match es, ks, h with
    | [e], [], h =>
      simp only [chkI, Bool.and_eq_true, decide_eq_true_eq] at h
      obtain ⟨⟨⟨rfl, h1⟩, h2⟩, h3⟩ := h
      exact i_rev (gl_of hsc h1) (ok.blt _ (by decide +kernel)) h3 (snd t _ X W sc ok hsc h2).1
  | .rng3, [], _, _, _, _, _, _, _, h => absurd h Bool.false_ne_true
  | .rng3, [_], _, _, _, _, _, _, _, h => absurd h Bool.false_ne_true
  | .rng3, [_, _], _, _, _, _, _, _, _, h => absurd h Bool.false_ne_true
  | .rng3, _ :: _ :: _ :: _ :: _, _, _, _, _, _, _, _, h => absurd h Bool.false_ne_true
  | .enum, [], _, _, _, _, _, _, _, h => absurd h Bool.false_ne_true
  | .enum, _ :: _ :: _, _, _, _, _, _, _, _, h => absurd h Bool.false_ne_true
  | .rev, [], _, _, _, _, _, _, _, h => absurd h Bool.false_ne_true
  | .rev, _ :: _ :: _, _, _, _, _, _, _, _, h => absurd h Bool.false_ne_true
  | .zip, [], _, _, _, _, _, _, _, h => absurd h Bool.false_ne_true
  | .zip, [_], _, _, _, _, _, _, _, h => absurd h Bool.false_ne_true
  | .zip, _ :: _ :: _ :: _, _, _, _, _, _, _, _, h => absurd h Bool.false_ne_true
  | .seq, [], _, _, _, _, _, _, _, h => absurd h Bool.false_ne_true
  | .seq, _ :: _ :: _, _, _, _, _, _, _, _, h => absurd h Bool.false_ne_true
  | .rng1, [], _, _, _, _, _, _, _, h => absurd h Bool.false_ne_true
  | .rng1, _ :: _ :: _, _, _, _, _, _, _, _, h => absurd h Bool.false_ne_true
  | .rng2, [], _, _, _, _, _, _, _, h => absurd h Bool.false_ne_true
  | .rng2, [_], _, _, _, _, _, _, _, h => absurd h Bool.false_ne_true
  | .rng2, _ :: _ :: _ :: _, _, _, _, _, _, _, _, h => absurd h Bool.false_ne_true
end
end
end DE
set_option linter.all false
set_option maxRecDepth 100000
set_option maxHeartbeats 4000000
namespace DE
open PySem PySem.Spec PyProof.Rows L2

/-! ### expressions that make lists to be owned -/
def FreshP (H H' : Hp) (P : Addr → Prop) : Prop := ∀ a, P a → H a = none ∧ Mok H' a
def GoF (K : PySem.W.Frag) (cv : Str → Value) (W : WX) (O : Addr → Prop) (σ : L2.St) (n : Nat) (H : Hp) (Q : VK) (m : M D) : Prop := match m with
  | some (.ok d) => ∀ H' v P fp, Same H H' → FreshP H H' P → Ow K (fun a => O a ∨ P a) P H' n v d fp → fp.Nodup → Q v H'
  | some (.error c) => ∀ H', Same H H' → W (cv c) none σ H'
  | none => False
def GoFs (K : PySem.W.Frag) (cv : Str → Value) (W : WX) (O : Addr → Prop) (σ : L2.St) (n : Nat) (H : Hp) (Q : List V → Hp → Prop) (m : M (List D)) : Prop := match m with
  | some (.ok d) => ∀ H' v P fp, Same H H' → FreshP H H' P → Ows K (fun a => O a ∨ P a) P H' n v d fp → fp.Nodup → Q v H'
  | some (.error c) => ∀ H', Same H H' → W (cv c) none σ H'
  | none => False
def tF (K : PySem.W.Frag) (cv : Str → Value) (W : WX) (n : Nat) (f : Env → M D) : TE := fun σ H Q => ∃ O ρ, EnvR K O H σ ρ ∧ GoF K cv W O σ n H Q (f ρ)
def tAF (K : PySem.W.Frag) (cv : Str → Value) (W : WX) (n : Nat) (f : Env → M (List D)) : TA := fun σ H Q => ∃ O ρ, EnvR K O H σ ρ ∧ GoFs K cv W O σ n H Q (f ρ)
theorem freshP_none {H H' : Hp} : FreshP H H' (fun _ => False) := fun _ h => h.elim
section
variable {X : Cx} {cv : Str → Value} {W : WX} {Γ : G} {lvl : Nat}
theorem f0 {e : Expr} {f : Env → M D} (h : PE X e (tD X.K cv W f)) : PE X e (tF X.K cv W 0 f) := by
  refine PE.weak h fun σ H Q ⟨O, ρ, env, g⟩ => tD.of env ?_
  cases e1 : f ρ with
  | none => rw [e1] at g; exact g
  | some r => cases r with
    | error c => rw [e1] at g; exact g
    | ok d =>
      rw [e1] at g
      exact fun H' v s r => g H' v (fun _ => False) [] s freshP_none (.fz (r.less fun a z => z.elim id False.elim)) .nil
theorem a_nilF {n : Nat} : PA X [] (tAF X.K cv W n fun _ => some (.ok [])) := PA.weak pa_nil fun σ H Q ⟨O, ρ, env, g⟩ => g H [] (fun _ => False) [] (Same.refl _) freshP_none .nil .nil
theorem a_consF {n : Nat} {a : Expr} {es : List Expr} {fa : Env → M D} {f : Env → M (List D)} (hs : noStar a = true) (ha : PE X a (tF X.K cv W n fa)) (hr : PA X es (tAF X.K cv W n f)) : PA X (a :: es) (tAF X.K cv W n fun ρ => bnd (fa ρ) fun d => bnd (f ρ) fun ds => some (.ok (d :: ds))) := by
  refine PA.weak (pa_cons ha hr (stE hs es X.env)) fun σ H Q ⟨O, ρ, env, g⟩ => ?_
  dsimp only at g
  refine ⟨O, ρ, env, ?_⟩
  cases e1 : fa ρ with
  | none => rw [e1] at g; exact g
  | some r => cases r with
    | error c => rw [e1] at g; exact g
    | ok d =>
      rw [e1, bnd_ok] at g
      intro H1 v P1 fp1 s1 fr1 o1 n1
      refine ⟨fun a => O a ∨ P1 a, ρ, env.more (fun a z => z.elim .inl fun z => .inr (fr1 a z).1) s1 (fun a z => z.elim (fun z => let ⟨o, e⟩ := env.dom a z; ⟨o, s1 _ _ e⟩) fun z => let ⟨o, e, _⟩ := (fr1 a z).2; ⟨o, e⟩), ?_⟩
      cases e2 : f ρ with
      | none => rw [e2] at g; exact g
      | some r => cases r with
        | error c => rw [e2] at g; exact fun H' s => g H' (s1.trans s)
        | ok ds =>
          rw [e2] at g
          intro H2 vs P2 fp2 s2 fr2 o2 n2
          refine g H2 (v :: vs) (fun a => P1 a ∨ P2 a) (fp1 ++ fp2) (s1.trans s2) (fun a z => ?_) (.cons ?_ ?_) ?_
          · rcases z with z | z
            · exact ⟨(fr1 a z).1, (fr1 a z).2.same s2⟩
            · exact ⟨s1.free (fr2 a z).1, (fr2 a z).2⟩
          · refine o1.tr (fun v d r => (r.more fun a z => ?_).mono s2) fun a ha => ⟨.inl, fun xs e => s2 _ _ e⟩
            rcases z with z | z | z
            · exact .inl (.inl z)
            · exact .inl (.inr z)
            · exact .inr (fr2 a z).1
          · refine o2.tr (fun v d r => r.less fun a z => ?_) fun a ha => ⟨.inr, fun xs e => e⟩
            rcases z with z | z | z
            · exact .inl (.inl z)
            · exact .inl (.inr z)
            · exact .inr z
          · refine List.nodup_append.mpr ⟨n1, n2, fun a ha b hb e => ?_⟩
            subst e
            obtain ⟨o, e, _⟩ := (o1.inP a ha).2
            rw [(fr2 a (o2.inP a hb).1).1] at e
            cases e
theorem s_lstF {n : Nat} {es : List Expr} {pos : Pos} {f : Env → M (List D)} (h : PA X es (tAF X.K cv W n f)) : PE X (.List es pos) (tF X.K cv W (n + 1) fun ρ => bnd (f ρ) fun ds => if ds.length ≤ sizeLine then some (.ok (.lst ds)) else none) := by
  refine PE.weak (pe_lst h) fun σ H Q ⟨O, ρ, env, g⟩ => ⟨O, ρ, env, ?_⟩
  dsimp only at g
  cases e1 : f ρ with
  | none => rw [e1] at g; exact g
  | some r => cases r with
    | error c => rw [e1] at g; exact g
    | ok ds =>
      rw [e1, bnd_ok] at g
      intro H1 vs P1 fp1 s1 fr1 o1 n1
      by_cases hz : ds.length ≤ sizeLine
      case neg => rw [if_neg hz] at g; exact g.elim
      rw [if_pos hz] at g
      have hl : vs.length = ds.length := (o1.rps (O := fun _ => False) (fun a z => z.elim) fun a ha z => z).length
      refine ⟨by rw [hl]; exact hz, fun p hp => ?_⟩
      have sp := same_new hp (.lst vs)
      refine g (upd H1 p (.lst vs)) (.ref p) (fun a => P1 a ∨ a = p) (p :: fp1) (s1.trans sp) (fun a z => ?_) (.ls upd_same (.inr rfl) ?_) ?_
      · rcases z with z | z
        · exact ⟨(fr1 a z).1, (fr1 a z).2.same sp⟩
        · subst z; exact ⟨s1.free hp, _, upd_same, trivial⟩
      · refine o1.tr (fun v d r => (r.more fun a z => ?_).mono sp) fun a ha => ⟨.inl, fun xs e => sp _ _ e⟩
        rcases z with z | z | z
        · exact .inl (.inl z)
        · exact .inl (.inr z)
        · exact .inr (z ▸ hp)
      · refine List.nodup_cons.mpr ⟨fun ha => ?_, n1⟩
        obtain ⟨o, e, _⟩ := (o1.inP p ha).2
        rw [hp] at e; cases e
theorem s_listF (ok : OkX Γ cv lvl X W) {x : Str} {e : Expr} {p pos : Pos} {f : Env → M (List D)} (hx : x = Blt.list.name) (hg : Gl X x) (hs : noStar e = true) (ha : PA X [e] (tA X.K cv W f)) :
    PE X (.Call (.Name x p) [e] [] pos) (tF X.K cv W 1 fun ρ => bnd (f ρ) fun ds => lft (bltD .list ds)) := by
  subst hx
  have key : PE X (.Call (.Name Blt.list.name p) [e] [] pos) (tCB (fun xs H Q => ∃ p ys, xs = [.ref p] ∧ (SqL X.K H p ys ∨ SqT X.K H p ys) ∧ ∀ l, H l = none → Q (.ref l) (upd H l (.lst ys))) (tA X.K cv W f)) :=
    pe_callTy call_list_of hg (ok.blt _ (by decide +kernel)) (by decide +kernel) ha (by decide) (by decide) (stE hs [] X.env) rfl
  have key2 : PE X (.Call (.Name Blt.list.name p) [e] [] pos) (tCB (fun xs H Q => ∃ x, xs = [.str x] ∧ x.length ≤ sizeLine ∧ ∀ l, H l = none → Q (.ref l) (upd H l (.lst (sgV x)))) (tA X.K cv W f)) :=
    pe_callTy (call_list_txt ok.calm) hg (ok.blt _ (by decide +kernel)) (by decide +kernel) ha (by decide) (by decide) (stE hs [] X.env) rfl
  refine PE.of fun σ H Q ⟨O, ρ, env, g⟩ => ?_
  by_cases hx : ∃ x, f ρ = some (.ok [.str x])
  · obtain ⟨x, e1⟩ := hx
    refine ⟨_, key2, tA.of env ?_⟩
    dsimp only at g
    rw [e1, bnd_ok] at g
    rw [e1]
    intro H1 vs s1 rs
    cases rs with | cons r1 rn => cases rn; cases r1 with | str x =>
      by_cases hz : x.length ≤ sizeLine
      case neg => simp only [bltD, hz, if_false] at g; exact g.elim
      simp only [bltD, hz, if_true] at g
      refine ⟨x, rfl, hz, fun l hl => ?_⟩
      have sl := same_new hl (.lst (sgV x))
      exact g (upd H1 l (.lst (sgV x))) (.ref l) (fun a => a = l) [l] (s1.trans sl) (fun a z => by subst z; exact ⟨s1.free hl, _, upd_same, trivial⟩) (.ls upd_same rfl (.of0 (Rps.of_signs x))) (List.nodup_cons.mpr ⟨by simp, .nil⟩)
  refine ⟨_, key, tA.of env ?_⟩
  dsimp only at g
  cases e1 : f ρ with
  | none => rw [e1] at g; exact g
  | some r => cases r with
    | error c => rw [e1] at g; exact g
    | ok ds =>
      rw [e1, bnd_ok] at g
      intro H1 vs s1 rs
      have fin : ∀ {a : Addr} {ys : List V} {es : List D}, bltD .list ds = some (.lst es) → Rps X.K O H1 ys es → ∀ l, H1 l = none → Q (.ref l) (upd H1 l (.lst ys)) := fun {a ys es} e r l hl => by
        rw [e] at g
        have sl := same_new hl (.lst ys)
        refine g (upd H1 l (.lst ys)) (.ref l) (fun a => a = l) [l] (s1.trans sl) (fun a z => by subst z; exact ⟨s1.free hl, _, upd_same, trivial⟩) (.ls upd_same rfl (.of0 ((r.more fun a z => ?_).mono sl))) (List.nodup_cons.mpr ⟨by simp, .nil⟩)
        rcases z with z | z
        · exact .inl z
        · exact .inr (z ▸ hl)
      cases rs with
      | nil => exact g.elim
      | cons r1 rn => cases rn with
        | cons _ _ => exfalso; cases r1 <;> exact g
        | nil => cases r1 with
          | tup h1 r1 => exact ⟨_, _, rfl, .inr h1, fin (a := 0) rfl r1⟩
          | lst h1 n1 r1 => exact ⟨_, _, rfl, .inl (SqL.of h1), fin (a := 0) rfl r1⟩
          | scr h1 => exact ⟨_, _, rfl, .inl h1.seq, fin (a := 0) rfl (Rps.of_ints _)⟩
          | non => exact g.elim
          | bl _ => exact g.elim
          | int _ => exact g.elim
          | str x => exact absurd ⟨x, e1⟩ hx
          | obj _ _ _ _ _ => exact g.elim
          | dK _ _ _ _ => exact g.elim
          | dT _ _ _ _ _ _ => exact g.elim
theorem lcO_w {K : PySem.W.Frag} {n : Nat} {own : List (Str × Nat)} {p : Pt} {fI : Env → M (List D)} {fi : Env → M Bool} {fe : Env → M D} (hsl : ∀ i ∈ p.slots, i ∈ own.map (·.2)) {σ : L2.St} {H : Hp} {Q : VK}
    (h : tF K cv W (n + 1) (lcF p own fI fi fe) σ H Q) : tLc (tI K cv W fI) (gP K p) (tB K cv Wf fi) (tF K cv Wf n fe) (own.map (·.2)) σ H Q := by
  obtain ⟨O, ρ, env, g⟩ := h
  refine ⟨O, ρ, env, ?_⟩
  unfold lcF at g
  cases eI : fI ρ with
  | none => rw [eI] at g; exact g
  | some r => cases r with
    | error c => rw [eI] at g; exact g
    | ok items =>
      rw [eI, bnd_ok] at g
      intro H1 J s1 en D hD
      by_cases hz : items.length ≤ sizeLine
      case neg => rw [if_neg hz] at g; exact g.elim
      rw [if_pos hz] at g
      cases hy : turns (turnF p own fi fe ρ) items with
      | none => rw [hy] at g; exact g.elim
      | some ys =>
        rw [hy] at g
        let O' : (Addr → Prop) → Addr → Prop := fun P a => (O a ∨ a = D) ∨ P a
        let Pv : Nat → Hp → Prop := fun i H3 => ∃ acc zs rest P1 fp, H3 D = some (.lst acc) ∧ Same H1 H3 ∧ (∀ a, P1 a → H1 a = none ∧ a ≠ D ∧ Mok H3 a) ∧ Ows K (O' P1) P1 H3 n acc zs fp ∧ fp.Nodup ∧ turns (turnF p own fi fe ρ) (items.drop i) = some rest ∧ zs ++ rest = ys ∧ acc.length ≤ i
        refine ⟨fun i m H3 => m = items.length - i ∧ i ≤ items.length ∧ Pv i H3, ⟨items.length, by simp, Nat.zero_le _, [], [], ys, fun _ => False, [], upd_same, same_new hD _, fun a z => z.elim, .nil, .nil, hy, rfl, Nat.le_refl _⟩, ?_⟩
        rintro i m H3 ⟨rfl, hi, acc, zs, rest, P1, fp, hacc, s3, fr, rz, nd, hr, hys, hl⟩
        by_cases hlt : i < items.length
        · refine .inr ⟨en.go O (fun _ z => .inl z) H3 i (.of s3) hlt, Pv (i + 1), fun H' p' => ⟨items.length - (i + 1), by omega, rfl, hlt, p'⟩, fun x H' y => ?_⟩
          have oO : ∀ a, O' P1 a → O a ∨ H1 a = none := fun a z => z.elim (fun z => z.elim .inl fun z => .inr (z ▸ hD)) fun z => .inr (fr a z).1
          obtain ⟨sy, rx⟩ := en.yld (O' P1) oO H3 i items[i] x H' (.of s3) (List.getElem?_eq_getElem hlt) y
          replace s3 := s3.trans sy
          replace hacc := sy _ _ hacc
          replace rz : Ows K (O' P1) P1 H' n acc zs fp := rz.tr (fun v d r => r.mono sy) fun a _ => ⟨id, fun o e => sy _ _ e⟩
          replace fr : ∀ a, P1 a → H1 a = none ∧ a ≠ D ∧ Mok H' a := fun a z => ⟨(fr a z).1, (fr a z).2.1, (fr a z).2.2.same sy⟩
          replace oO : ∀ a, O' P1 a → O a ∨ H1 a = none := oO
          rw [List.drop_eq_getElem_cons hlt] at hr
          unfold turns at hr
          cases hp : pat p items[i] with
          | none => simp only [turnF, hp] at hr; cases hr
          | some l =>
            have dom' : ∀ a, O' P1 a → ∃ o, H' a = some o := fun a z => z.elim (fun z => z.elim (fun z => let ⟨o, e⟩ := env.dom a z; ⟨o, s3 _ _ (s1 _ _ e)⟩) fun z => ⟨_, z ▸ hacc⟩) fun z => let ⟨xs, e, _⟩ := (fr a z).2.2; ⟨_, e⟩
            have env' : EnvR K (O' P1) H' σ ρ := (env.mono s1).more oO s3 dom'
            simp only [turnF, hp] at hr
            refine ⟨O' P1, items[i], l, rx, hp, fun vl bd => ⟨(wipe_setV fun q hq => hsl _ ?_).trans (wipe_wipe σ _), ?_⟩⟩
            · rw [← pat_slots p _ l hp, ← bd.fst]
              exact List.mem_map.mpr ⟨q, hq, rfl⟩
            have env2 := EnvR.setB bd (env'.wipe (own.map (·.2)))
            cases hv : val? (fi (setE (wipeE ρ (own.map (·.2))) l)) with
            | none => rw [hv] at hr; cases hr
            | some b =>
              rw [hv] at hr
              refine tB.of env2 ?_
              rw [val_of hv]
              intro H4 b' s4 eb
              subst eb
              cases b' with
              | false =>
                exact ⟨acc, zs, rest, P1, fp, s4 _ _ hacc, s3.trans s4, fun a z => ⟨(fr a z).1, (fr a z).2.1, (fr a z).2.2.same s4⟩, rz.tr (fun v d r => r.mono s4) (fun a ha => ⟨id, fun xs e => s4 _ _ e⟩), nd, hr, hys, Nat.le_succ_of_le hl⟩
              | true =>
                cases hw : val? (fe (setE (wipeE ρ (own.map (·.2))) l)) with
                | none => rw [hw] at hr; cases hr
                | some y =>
                  rw [hw] at hr
                  simp only [Option.map_some] at hr
                  refine ⟨O' P1, _, env2.mono s4, ?_⟩
                  rw [val_of hw]
                  intro H5 v P2 fp2 s5 fr2 o2 n2
                  have h5 : H5 D = some (.lst acc) := s5 _ _ (s4 _ _ hacc)
                  refine ⟨acc, h5, by omega, acc ++ [v], zs ++ [y], ?_⟩
                  cases hq : turns (turnF p own fi fe ρ) (items.drop (i + 1)) with
                  | none => rw [hq] at hr; cases hr
                  | some r2 =>
                    rw [hq] at hr
                    cases hr
                    have neD : ∀ a, P2 a → a ≠ D := fun a z e => by
                      have := (fr2 a z).1
                      rw [e, s4 _ _ hacc] at this; cases this
                    have hup : ∀ a, a ≠ D → ∀ xs, H5 a = some xs → upd H5 D (.lst (acc ++ [v])) a = some xs := fun a na xs e => by rw [upd_ne na]; exact e
                    refine ⟨r2, fun a => P1 a ∨ P2 a, fp ++ fp2, upd_same, fun b o e => ?_, fun a z => ?_, ?_, ?_, rfl, by rw [← hys]; simp, by rw [List.length_append]; exact Nat.succ_le_succ hl⟩
                    · rw [upd_ne (ne_of_none e hD)]
                      exact s5 _ _ (s4 _ _ (s3 _ _ e))
                    · rcases z with z | z
                      · obtain ⟨h1, h2, xs, h3, hm⟩ := fr a z
                        exact ⟨h1, h2, xs, hup a h2 xs (s5 _ _ (s4 _ _ h3)), hm⟩
                      · obtain ⟨h1, xs, h3, hm⟩ := fr2 a z
                        exact ⟨(s3.trans s4).free h1, neD a z, xs, hup a (neD a z) xs h3, hm⟩
                    · refine Ows.append (rz.tr (fun v d r => ?_) fun a ha => ⟨.inl, fun xs e => hup a (fr a (rz.inP a ha).1).2.1 xs (s5 _ _ (s4 _ _ e))⟩) ?_
                      · refine Rp.wr h5 (.inl (.inr rfl)) ((r.more fun a z => ?_).mono (s4.trans s5))
                        rcases z with z | z | z
                        · exact .inl (.inl z)
                        · exact .inl (.inr z)
                        · exact .inr (s4.free (fr2 a z).1)
                      · have key : Ow K (O' fun a => P1 a ∨ P2 a) (fun a => P1 a ∨ P2 a) (upd H5 D (.lst (acc ++ [v]))) n v y fp2 := o2.tr (fun v d r => Rp.wr h5 (.inl (.inr rfl)) (r.less fun a z => by
                            rcases z with z | z | z
                            · exact .inl (.inl z)
                            · exact .inl (.inr z)
                            · exact .inr z)) fun a ha => ⟨.inr, fun xs e => hup a (neD a (o2.inP a ha).1) xs e⟩
                        have := Ows.cons key (.nil (n := n))
                        rw [List.append_nil] at this
                        exact this
                    · refine List.nodup_append.mpr ⟨nd, n2, fun a ha b hb e => ?_⟩
                      subst e
                      obtain ⟨o, e, _⟩ := (rz.inP a ha).2
                      have := (fr2 a (o2.inP a hb).1).1
                      rw [s4 _ _ e] at this; cases this
        · have e : i = items.length := by omega
          subst e
          rw [List.drop_length] at hr
          cases hr
          rw [List.append_nil] at hys
          subst hys
          refine .inl ⟨en.stop O (fun _ z => .inl z) H3 (.of s3), g H3 (.ref D) (fun a => a = D ∨ P1 a) (D :: fp) (s1.trans s3) (fun a z => ?_) (.ls hacc (.inl rfl) (rz.tr (fun v d r => r.less fun a z => ?_) fun a ha => ⟨.inr, fun xs e => e⟩)) (List.nodup_cons.mpr ⟨fun ha => (fr D (rz.inP D ha).1).2.1 rfl, nd⟩)⟩
          · rcases z with z | z
            · subst z; exact ⟨s1.free hD, _, hacc, trivial⟩
            · exact ⟨s1.free (fr a z).1, (fr a z).2.2⟩
          · rcases z with z | z | z
            · exact .inl (.inl z)
            · exact .inl (.inr z)
            · exact .inr z
def ownb : Nat → T → Bool
  | 0, _ => true
  | n + 1, .lst es => es.all (ownb n)
  | n + 1, .lc _ _ _ _ elt _ => ownb n elt
  | n + 1, .blt .list [_] => n == 0
  | _ + 1, _ => false
theorem sndW : ∀ (n : Nat) (t : T) (e : Expr) (X : Cx) (W : WX) (sc : Scope), OkX Γ cv lvl X W → X.env.scope = sc → chk Γ sc t (.one e) = true → ownb n t = true → PE X e (tF X.K cv W n (ev Γ t)) := by
  intro n
  induction n with
  | zero => exact fun t e X W sc ok hsc h _ => f0 (snd t (.one e) X W sc ok hsc h).1
  | succ n ih =>
    intro t e X W sc ok hsc h ho
    cases t <;> try exact absurd ho Bool.false_ne_true
    case lst es =>
      cases e <;> try exact absurd h Bool.false_ne_true
      rename_i xs pos
      replace h : chks Γ sc es xs = true := h
      replace ho : es.all (ownb n) = true := ho
      refine s_lstF ?_
      induction es generalizing xs with
      | nil =>
        cases xs with
        | nil => exact a_nilF
        | cons _ _ => exact absurd h Bool.false_ne_true
      | cons t ts ih2 =>
        cases xs with
        | nil => exact absurd h Bool.false_ne_true
        | cons x xs =>
          simp only [chks, Bool.and_eq_true] at h
          rw [List.all_cons, Bool.and_eq_true] at ho
          exact a_consF h.1.2 (ih t x X W sc ok hsc h.1.1 ho.1) (ih2 xs h.2 ho.2)
    case lc p k args ifs elt own =>
      cases e <;> try exact absurd h Bool.false_ne_true
      rename_i eelt gs scope pos
      match gs, h with
      | [⟨tg, it, eifs, asy⟩], h =>
        simp only [chk, Bool.and_eq_true, decide_eq_true_eq] at h
        obtain ⟨⟨⟨⟨⟨⟨⟨rfl, h1⟩, h2⟩, h3⟩, h4⟩, h5⟩, h6⟩, h7⟩ := h
        subst hsc
        have hsl : ∀ i ∈ p.slots, i ∈ own.map (·.2) := fun i hi => of_decide_eq_true (List.all_eq_true.mp h7 i hi)
        exact PE.weak (pe_lc ok.calm ok.nd (sndI k args it tg X W _ ok rfl h2) (blkOk_by (by rw [ok.nN]; exact h6)) (fun s H C cl fp => pg_ok (X := X.blk s H scope (compEnvC scope cl C X.env) fp) ok.calm ok.nd blk_loc p tg (by show chkP X.N scope p tg = true; rw [ok.nN]; exact h3))
          (fun s H C cl fp => sndF ifs eifs _ _ _ (ok.blk s H scope C cl fp) rfl h4) (fun s H C cl fp => ih elt eelt _ _ _ (ok.blk s H scope C cl fp) rfl h5 ho) (noSet_ok h1 X.env)) fun σ H Q q => lcO_w hsl q
      | [], h => exact absurd h Bool.false_ne_true
      | ⟨_, _, _, _⟩ :: _ :: _, h => exact absurd h Bool.false_ne_true
    case blt f args =>
      match f, args, ho with
      | .list, [t], ho =>
        have e0 : n = 0 := by simpa [ownb] using ho
        subst e0
        cases e <;> try exact absurd h Bool.false_ne_true
        rename_i f' es ks pos
        cases f' <;> try exact absurd h Bool.false_ne_true
        rename_i x p
        match es, ks, h with
        | [e], [], h =>
          simp only [chk, Bool.and_eq_true, decide_eq_true_eq] at h
          exact s_listF ok h.1.1 (gl_of hsc h.1.2) ((chks_star h.2).2 e List.mem_cons_self) (snds [t] [e] X W sc ok hsc h.2)
        | [], _, h => exact absurd h Bool.false_ne_true
        | _ :: _, _ :: _, h => exact absurd h Bool.false_ne_true
        | e :: e2 :: es, [], h =>
          simp only [chk, Bool.and_eq_true, decide_eq_true_eq] at h
          have := (chks_star h.2).1
          simp at this
end
end DE
set_option linter.all false
set_option maxRecDepth 100000
set_option maxHeartbeats 4000000
namespace DE
open PySem PySem.Spec PyProof.Rows L2

/-! ### what an except clause hands back -/
inductive HT where
  | cst (d : D)
  | isE (h : Str)
  | lst (hs : List HT)
  | tup (hs : List HT)
  | and (a b : HT)
  | and3 (a b c : HT)
  | nt (a : HT)
def subG (Γ : G) (c h : Str) : Option Bool := (Γ.sub.find? fun t => decide (t.1 = c) && decide (t.2.1 = h)).map (·.2.2)
mutual
def evH (Γ : G) (c : Str) : HT → Option D
  | .cst d => some d
  | .isE h => (subG Γ c h).map D.bl
  | .lst hs => match evHs Γ c hs with
    | some ds => if ds.length ≤ sizeLine then some (.lst ds) else none
    | none => none
  | .tup hs => match evHs Γ c hs with
    | some ds => if ds.length ≤ sizeLine then some (.tup ds) else none
    | none => none
  | .and3 a b e => match evH Γ c a with
    | some (.bl true) => match evH Γ c b with
      | some (.bl true) => evH Γ c e
      | some (.bl false) => some (.bl false)
      | _ => none
    | some (.bl false) => some (.bl false)
    | _ => none
  | .and a b => match evH Γ c a with
    | some (.bl true) => evH Γ c b
    | some (.bl false) => some (.bl false)
    | _ => none
  | .nt a => match evH Γ c a with
    | some (.bl k) => some (.bl (!k))
    | _ => none
def evHs (Γ : G) (c : Str) : List HT → Option (List D)
  | [] => some []
  | h :: hs => match evH Γ c h, evHs Γ c hs with
    | some d, some ds => some (d :: ds)
    | _, _ => none
end
/-! ### statements -/
/-- what is written: a slot's object, or an attribute's -/
inductive OT where
  | sl (i : Nat) | fl (i : Nat) (f : Str)
def getO : OT → List Sl → Option (Nat × D)
  | .sl i, ρ => match ρ[i]? with
    | some (some p) => some p
    | _ => none
  | .fl i f, ρ => match ρ[i]? with
    | some (some (_ + 1, .obj _ fs ds)) => match fldIx fs f with
      | some j => match fs[j]?, ds[j]? with
        | some p, some d => some (p.2, d)
        | _, _ => none
      | none => none
    | _ => none
def putO : OT → List Sl → Nat → D → List Sl
  | .sl i, ρ, n, d => ρ.set i (some (n, d))
  | .fl i f, ρ, n, d => match ρ[i]? with
    | some (some (m, .obj c fs ds)) => match fldIx fs f with
      | some j => ρ.set i (some (m, .obj c (fs.set j (f, n)) (ds.set j d)))
      | none => ρ
    | _ => ρ
/-- the class has the attribute -/
def okT (Γ : G) : OT → List Sl → Bool
  | .sl _, _ => true
  | .fl i f, ρ => match ρ[i]? with
    | some (some (_, .obj c fs ds)) => Γ.cls.any (fun p => decide (p.1 = c) && p.2.any fun g => decide (g = f)) && decide (fs.length = ds.length)
    | _ => false
/-- may be owned -/
def ownG (n : Nat) (d : D) : M D := if n = 0 then some (.ok d) else match d with
  | .lst _ => some (.ok d)
  | .obj _ _ _ => some (.ok d)
  | .dK _ _ => some (.ok d)
  | .dT _ _ => some (.ok d)
  | _ => none
/-- an attribute of an owned instance is stored -/
def setaD (c : Str) (fs : List (Str × Nat)) (ds : List D) (f : Str) (n : Nat) (d : D) : D := match fldIx fs f with
  | some j => .obj c (fs.set j (f, n)) (ds.set j d)
  | none => .obj c (fs ++ [(f, n)]) (ds ++ [d])
def ipD (op : Operator) (a c : D) : Option D := match a, c, op with
  | .int a, .int c, .Add => some (.int (a + c))
  | .int a, .int c, .Sub => some (.int (a - c))
  | _, _, _ => none
def bolsD : List D → Option (List Bool)
  | [] => some []
  | .bl b :: r => (bolsD r).map (b :: ·)
  | _ => none
/-- the place of the one that is true -/
def trkD (o : Option (List D)) : Option D := match o with
  | some ds => match bolsD ds with
    | some bs => if bs.filter id = [true] ∧ bs.length < sizeLine then some (.int (bs.idxOf true : Nat)) else none
    | none => none
  | none => none
inductive S where
  | tr (body : List S) (h : Str) (i : Option Nat) (t : HT)
  | tri (body : List S) (h : Str) (i : Option Nat) (c t : HT)
  /-- the handler tells the place of the one kind that fits -/
  | trk (body : List S) (h : Str) (i : Option Nat) (k j : Nat) (hs : List HT)
  | asg (i : Nat) (b : Bool) (e : T)
  | own (i n : Nat) (e : T)
  | owr (i : Nat) (e : T)
  | pat (p : Pt) (b : Bool) (e : T)
  | par (i j : Nat) (b : Bool) (e1 e2 : T)
  | app (o : OT) (n : Nat) (b : Bool) (e : T)
  | set (o : OT) (b : Bool) (ix e : T)
  /-- d[k] = v, d an owned dict -/
  | dset (o : OT) (b : Bool) (ix e : T)
  /-- x, y = e1, e2, both owned -/
  | own2 (i n j m : Nat) (e1 e2 : T)
  | ext (o : OT) (b : Bool) (e : T)
  /-- a fresh list, made with what is owned, is appended -/
  | apr (o : OT) (e : T)
  | pop (i : Nat) (o : OT)
  /-- i = k + o.pop()[c] -/
  | popA (i k c : Nat) (o : OT)
  | augL (o : OT) (op : Operator) (ix e : T)
  | aug2 (i : Nat) (op : Operator) (ix jx e : T)
  | mcl (i o : Nat) (b : Bool) (args : List T)
  | seta (o : Nat) (f : Str) (n : Nat) (b : Bool) (e : T)
  | rtm
  | par3 (i j l : Nat) (b : Bool) (e1 e2 e3 : T)
  | set2 (i : Nat) (b : Bool) (ix jx e : T)
  | aug (i : Nat) (op : Operator) (e : T)
  | frz (i : Nat)
  | exp (e : T)
  | ite (c : T) (a b : List S)
  | for (p : Pt) (k : IK) (b : Bool) (args : List T) (body : List S)
  | whl (c : T) (body : List S)
  | ret (e : T)
  | retN
  | rai (c : Str)
  | forr (i v : Nat) (ix e : T)
  | setL (i : Nat) (ix e : T)
  | pss
  | brk
  | cnt
  /-- never reached -/
  | bad
inductive Out where
  | nx (ρ : List Sl) | ret (d : D) | exc (c : Str) | bk (ρ : List Sl) | ct (ρ : List Sl) | rtm (ρ : List Sl)
/-- the value of a key is changed -/
def upd2 {κ α : Type} [DecidableEq κ] : List κ → List α → κ → α → List α
  | j :: ks, x :: xs, k, y => (if j = k then y else x) :: upd2 ks xs k y
  | _, _, _, _ => []
def dputK (ks : List Key) (ds : List D) (k : Key) (d : D) : D := if (getK ks ds k).isSome = true then .dK ks (upd2 ks ds k d) else .dK (ks ++ [k]) (ds ++ [d])
def dputN (ks : List NestedKey) (ds : List D) (k : NestedKey) (d : D) : D := if (getN ks ds k).isSome = true then .dT ks (upd2 ks ds k d) else .dT (ks ++ [k]) (ds ++ [d])
/-- a dict with one more, or another, value -/
def dsetD : D → D → D → Option D
  | .dK ks ds, j, d => match keyD j with
    | some k => if ks.length < sizeLine then some (dputK ks ds k d) else none
    | none => none
  | .dT ks ds, j, d => match keyN j with
    | some k => if ks.length < sizeLine then some (dputN ks ds k d) else none
    | none => none
  | _, _, _ => none
def envB (b : Bool) (ρ : List Sl) : Env := if b = true then bor ρ else stc ρ
def exE {α : Type} (m : M α) (k : α → Option Out) : Option Out := match m with
  | some (.ok d) => k d
  | some (.error c) => some (.exc c)
  | none => none
def keepB (b : Bool) (d : D) : Bool := !b || d.noL
def lnoL : D → Bool
  | .lst ds => D.noLs ds
  | _ => false
def seqO (o : Option Out) (k : List Sl → Option Out) : Option Out := match o with
  | some (.nx ρ) => k ρ
  | o => o
def setS : List Sl → List (Nat × D) → List Sl
  | ρ, [] => ρ
  | ρ, (i, d) :: l => setS (ρ.set i (some (0, d))) l
def forO (f : D → List Sl → Option Out) : List D → List Sl → Option Out
  | [], ρ => some (.nx ρ)
  | d :: ds, ρ => match f d ρ with
    | some (.nx ρ') => forO f ds ρ'
    | some (.ct ρ') => forO f ds ρ'
    | some (.bk ρ') => some (.nx ρ')
    | o => o
def whlO (c : List Sl → M Bool) (f : List Sl → Option Out) : Nat → List Sl → Option Out
  | 0, _ => none
  | n + 1, ρ => exE (c ρ) fun k => if k = true then match f ρ with
      | some (.nx ρ') => whlO c f n ρ'
      | some (.ct ρ') => whlO c f n ρ'
      | some (.bk ρ') => some (.nx ρ')
      | o => o
    else some (.nx ρ)
/-- for row in rows: row[ix] = e, rows an owned list of owned lists -/
def rrO (fe fx : Env → M D) (i v : Nat) : Nat → Nat → List Sl → Option Out
  | 0, _, ρ => some (.nx ρ)
  | n + 1, k, ρ => match ρ[i]? with
    | some (some (2, .lst ds)) => match ds[k]? with
      | some (.lst es) => exE (fe ((bor ρ).set v (some (.lst es)))) fun d => exE (fx ((bor ρ).set v (some (.lst es)))) fun j => match j with
        | .int q => match ixN es.length q with
          | some j3 => if d.noL = true then rrO fe fx i v n (k + 1) (ρ.set i (some (2, .lst (ds.set k (.lst (es.set j3 d)))))) else none
          | none => none
        | _ => none
      | _ => none
    | _ => none
def rrS (fe fx : Env → M D) (i v : Nat) : List Sl → Option Out := fun ρ => match ρ[i]? with
  | some (some (2, .lst ds)) => if i ≠ v ∧ v < ρ.length then rrO fe fx i v ds.length 0 (ρ.set v none) else none
  | _ => none
/-- the target is no part of what is written -/
def notAt (i : Nat) : OT → Bool
  | .sl j => decide (i ≠ j)
  | .fl j _ => decide (i ≠ j)
mutual
def IK.rg : IK → Bool
  | .rng1 => true
  | .rng2 => true
  | .rng3 => true
  | _ => false
def evS (Γ : G) (fu : Nat) : S → List Sl → Option Out
  | .tri body h _ ct t, ρ => match evB Γ fu body ρ with
    | some (.exc c) => match subG Γ c h with
      | some true => match evH Γ c ct with
        | some (.bl true) => (evH Γ c t).map Out.ret
        | some (.bl false) => some (.nx (List.replicate Γ.N.length none))
        | _ => none
      | some false => some (.exc c)
      | none => none
    | o => o
  | .trk body h _ _ _ hs, ρ => match evB Γ fu body ρ with
    | some (.exc c) => match subG Γ c h with
      | some true => (trkD (evHs Γ c hs)).map Out.ret
      | some false => some (.exc c)
      | none => none
    | o => o
  | .tr body h _ t, ρ => match evB Γ fu body ρ with
    | some (.exc c) => match subG Γ c h with
      | some true => (evH Γ c t).map Out.ret
      | some false => some (.exc c)
      | none => none
    | o => o
  | .asg i b e, ρ => exE (ev Γ e (envB b ρ)) fun d => if keepB b d = true then some (.nx (ρ.set i (some (0, d)))) else none
  | .owr i e, ρ => exE (bnd (ev Γ e (bor ρ)) (ownG 1)) fun d => if lnoL d = true then some (.nx (ρ.set i (some (1, d)))) else none
  | .own i n e, ρ => exE (bnd (ev Γ e (stc ρ)) (ownG n)) fun d => some (.nx (ρ.set i (some (n, d))))
  | .pat p b e, ρ => exE (ev Γ e (envB b ρ)) fun d => if keepB b d = true then match pat p d with
      | some l => some (.nx (setS ρ l))
      | none => none
    else none
  | .par i j b e1 e2, ρ => exE (ev Γ e1 (envB b ρ)) fun d => exE (ev Γ e2 (envB b ρ)) fun d2 => if keepB b d = true ∧ keepB b d2 = true then some (.nx ((ρ.set i (some (0, d))).set j (some (0, d2)))) else none
  | .app o n b e, ρ => match getO o ρ with
    | some (m, .lst ds) => if m = n + 1 ∧ ds.length < sizeLine ∧ okT Γ o ρ = true then exE (ev Γ e (envB b ρ)) fun d => if keepB b d = true then some (.nx (putO o ρ (n + 1) (.lst (ds ++ [d])))) else none
      else none
    | _ => none
  | .apr o e, ρ => match getO o ρ with
    | some (1, .lst ds) => if ds.length < sizeLine ∧ okT Γ o ρ = true then exE (bnd (ev Γ e (bor ρ)) (ownG 1)) fun d => if lnoL d = true then some (.nx (putO o ρ 1 (.lst (ds ++ [d])))) else none
      else none
    | _ => none
  | .dset o b ix e, ρ => match getO o ρ with
    | some (1, c) => if okT Γ o ρ = true then exE (ev Γ e (envB b ρ)) fun d => exE (ev Γ ix (bor ρ)) fun j => if keepB b d = true then match dsetD c j d with
        | some c' => some (.nx (putO o ρ 1 c'))
        | none => none
      else none
      else none
    | _ => none
  | .own2 i n j m e1 e2, ρ => exE (bnd (ev Γ e1 (stc ρ)) (ownG n)) fun d => exE (bnd (ev Γ e2 (stc ρ)) (ownG m)) fun d2 => some (.nx ((ρ.set i (some (n, d))).set j (some (m, d2))))
  | .set o b ix e, ρ => match getO o ρ with
    | some (1, .lst ds) => if okT Γ o ρ = true then exE (ev Γ e (envB b ρ)) fun d => exE (ev Γ ix (bor ρ)) fun j => match j with
      | .int k => match ixN ds.length k with
        | some jj => if keepB b d = true then some (.nx (putO o ρ 1 (.lst (ds.set jj d)))) else none
        | none => none
      | _ => none
      else none
    | _ => none
  | .ext o b e, ρ => match getO o ρ with
    | some (1, .lst ds) => if okT Γ o ρ = true then exE (ev Γ e (envB b ρ)) fun d => match d with
      | .lst es => if ds.length + es.length ≤ sizeLine ∧ (b = false ∨ D.noLs es = true) then some (.nx (putO o ρ 1 (.lst (ds ++ es)))) else none
      | _ => none
      else none
    | _ => none
  | .pop i o, ρ => match getO o ρ with
    | some (1, .lst ds) => if okT Γ o ρ = true ∧ notAt i o = true then match ds[ds.length - 1]? with
      | some d => some (.nx ((putO o ρ 1 (.lst ds.dropLast)).set i (some (0, d))))
      | none => none
      else none
    | _ => none
  | .popA i k c o, ρ => match getO o ρ with
    | some (1, .lst ds) => if okT Γ o ρ = true ∧ notAt i o = true then match ρ[k]? with
      | some (some (0, .int a)) => match ds[ds.length - 1]? with
        | some (.tup es) => match es[c]? with
          | some (.int b) => some (.nx ((putO o ρ 1 (.lst ds.dropLast)).set i (some (0, .int (a + b)))))
          | _ => none
        | _ => none
      | _ => none
      else none
    | _ => none
  | .augL o op ix e, ρ => match getO o ρ with
    | some (1, .lst ds) => if okT Γ o ρ = true then exE (ev Γ ix (bor ρ)) fun j => match j with
      | .int k => match ixN ds.length k with
        | some jj => match ds[jj]? with
          | some a => exE (ev Γ e (bor ρ)) fun d => match ipD op a d with
            | some z => some (.nx (putO o ρ 1 (.lst (ds.set jj z))))
            | none => none
          | none => none
        | none => none
      | _ => none
      else none
    | _ => none
  | .aug2 i op ix jx e, ρ => match ρ[i]? with
    | some (some (2, .lst ds)) => exE (ev Γ ix (bor ρ)) fun j => match j with
      | .int k => match ixN ds.length k with
        | some jj => match ds[jj]? with
          | some (.lst es) => exE (ev Γ jx (bor ρ)) fun j2 => match j2 with
            | .int k2 => match ixN es.length k2 with
              | some j3 => match es[j3]? with
                | some a => exE (ev Γ e (bor ρ)) fun d => match ipD op a d with
                  | some z => some (.nx (ρ.set i (some (2, .lst (ds.set jj (.lst (es.set j3 z)))))))
                  | none => none
                | none => none
              | none => none
            | _ => none
          | _ => none
        | none => none
      | _ => none
    | _ => none
  | .mcl i o b args, ρ => match Γ.mks[i]? with
    | some p => match ρ[o]? with
      | some (some (m + 1, dob)) => if isObj p.c p.m dob = true then exE (evs Γ args (envB b ρ)) fun ds => if b = false ∨ D.noLs ds = true then exE (p.f dob ds) fun r => match r.1, r.2 with
          | .non, .obj c fs es => some (.nx (ρ.set o (some (m + 1, .obj c fs es))))
          | _, _ => none
        else none
        else none
      | _ => none
    | none => none
  | .seta o f n b e, ρ => match ρ[o]? with
    | some (some (m + 1, .obj c fs ds)) => if (Γ.cls.any (fun p => decide (p.1 = c) && p.2.any fun g => decide (g = f)) = true ∧ fs.length = ds.length ∧ fs.length < 1000) ∧ (n = 0 ∨ b = false) then
        exE (if n = 0 then ev Γ e (envB b ρ) else bnd (ev Γ e (stc ρ)) (ownG n)) fun d => if keepB b d = true then some (.nx (ρ.set o (some (m + 1, setaD c fs ds f n d)))) else none
      else none
    | _ => none
  | .rtm, ρ => some (.rtm ρ)
  | .par3 i j l b e1 e2 e3, ρ => exE (ev Γ e1 (envB b ρ)) fun d => exE (ev Γ e2 (envB b ρ)) fun d2 => exE (ev Γ e3 (envB b ρ)) fun d3 => if keepB b d = true ∧ keepB b d2 = true ∧ keepB b d3 = true then some (.nx (((ρ.set i (some (0, d))).set j (some (0, d2))).set l (some (0, d3)))) else none
  | .set2 i b ix jx e, ρ => match ρ[i]? with
    | some (some (2, .lst ds)) => exE (ev Γ e (envB b ρ)) fun d => exE (ev Γ ix (bor ρ)) fun j => match j with
      | .int k => match ixN ds.length k with
        | some jj => match ds[jj]? with
          | some (.lst es) => exE (ev Γ jx (bor ρ)) fun j2 => match j2 with
            | .int k2 => match ixN es.length k2 with
              | some j3 => if keepB b d = true then some (.nx (ρ.set i (some (2, .lst (ds.set jj (.lst (es.set j3 d))))))) else none
              | none => none
            | _ => none
          | _ => none
        | none => none
      | _ => none
    | _ => none
  | .aug i op e, ρ => match ρ[i]? with
    | some (some (0, .int a)) => exE (ev Γ e (bor ρ)) fun d => match d, op with
      | .int c, .Add => some (.nx (ρ.set i (some (0, .int (a + c)))))
      | .int c, .Sub => some (.nx (ρ.set i (some (0, .int (a - c)))))
      | _, _ => none
    | _ => none
  | .frz i, ρ => match ρ[i]? with
    | some (some (_, d)) => some (.nx (ρ.set i (some (0, d))))
    | _ => none
  | .exp e, ρ => exE (ev Γ e (bor ρ)) fun _ => some (.nx ρ)
  | .ite c a b, ρ => exE (tru (ev Γ c (bor ρ))) fun k => if k = true then evB Γ fu a ρ else evB Γ fu b ρ
  | .for p k b args body, ρ => exE (bnd (evs Γ args (envB b ρ)) fun ds => lft (itD k ds)) fun items => if b = true ∧ k.rg = false then none else forO (fun d ρ => match pat p d with
      | none => none
      | some l => evB Γ fu body (setS ρ l)) items ρ
  | .whl c body, ρ => whlO (fun ρ => tru (ev Γ c (bor ρ))) (fun ρ => evB Γ fu body ρ) fu ρ
  | .ret e, ρ => exE (ev Γ e (bor ρ)) fun d => some (.ret d)
  | .retN, _ => some (.ret .non)
  | .rai c, _ => some (.exc c)
  | .setL i ix e, ρ => match ρ[i]? with
    | some (some (1, .lst ds)) => exE (ev Γ e (bor ρ)) fun d => exE (ev Γ ix (bor ρ)) fun j => match j with
      | .int k => match ixN ds.length k with
        | some jj => if lnoL d = true then some (.nx (ρ.set i (some (1, .lst (ds.set jj d))))) else none
        | none => none
      | _ => none
    | _ => none
  | .forr i v ix e, ρ => rrS (ev Γ e) (ev Γ ix) i v ρ
  | .pss, ρ => some (.nx ρ)
  | .brk, ρ => some (.bk ρ)
  | .cnt, ρ => some (.ct ρ)
  | .bad, _ => none
def evB (Γ : G) (fu : Nat) : List S → List Sl → Option Out
  | [], ρ => some (.nx ρ)
  | s :: ss, ρ => seqO (evS Γ fu s ρ) fun ρ' => evB Γ fu ss ρ'
end

/-! ### the check -/
def lcName (sc : Scope) (N : List Str) (i : Nat) (x : Str) : Bool := decide (N[i]? = some x) && locB sc x
def isLc : Expr → Bool
  | .ListComp _ _ _ _ => true
  | .SetComp _ _ _ _ => true
  | .DictComp _ _ _ _ _ => true
  | _ => false
def isTup : Expr → Bool
  | .Tuple _ _ _ => true
  | _ => false
def isNm : Expr → Option (Str × Nat)
  | .Name x p => some (x, p.line)
  | _ => none
/-- the targets are not stored the other way round -/
def swOff (sc : Scope) (ts : List Expr) (v : Expr) : Bool := match v with
  | .Tuple vs _ _ => decide (3 < ts.length) || vs.all (foldedForSure 8) || ts.any fun e => match e with
    | .Name x _ => !decide (sc.names.lookup x = some .local)
    | _ => true
  | _ => true
mutual
/-- n: the caught error's name; its place is told by the try -/
def chkH (sc : Scope) (n : Option Str) : HT → Expr → Bool
  | .cst (.int i), .Constant (.int j) _ _ => decide (i = j)
  | .cst (.bl i), .Constant (.bool j) _ _ => decide (i = j)
  | .cst .non, .Constant .none _ _ => true
  | .cst (.str i), .Constant (.str j) _ _ => decide (i = j)
  | .isE h, .Call (.Name x _) [.Name e _, .Name y _] [] _ => decide (x = ("isinstance" : Str)) && glB sc x && decide (n = some e) && okName e && visB sc e && decide (y = h) && glB sc y && okName y
  | .lst hs, .List es _ => chkHs sc n hs es
  | .tup hs, .Tuple es _ _ => chkHs sc n hs es
  | .and3 a b c, .BoolOp .And [ea, eb, ec] _ => chkH sc n a ea && chkH sc n b eb && chkH sc n c ec
  | .and a b, .BoolOp .And [ea, eb] _ => chkH sc n a ea && chkH sc n b eb
  | .nt a, .UnaryOp .Not e _ => chkH sc n a e
  | _, _ => false
def chkHs (sc : Scope) (n : Option Str) : List HT → List Expr → Bool
  | [], [] => true
  | h :: hs, e :: es => chkH sc n h e && noStar e && chkHs sc n hs es
  | _, _ => false
end
def ioOk (Γ : G) (sc : Scope) (io : Option Nat) (no : Option Str) : Bool := match io, no with
  | none, none => true
  | some i, some n => decide (Γ.N[i]? = some n) && decide (sc.names.lookup n = some .local)
  | _, _ => false
def chkHd (Γ : G) (sc : Scope) (h : Str) (io : Option Nat) (t : HT) : List ExceptHandler → Bool
  | [.ExceptHandler (some (.Name x _)) no [.Return (some v) _] _] => decide (x = h) && glB sc x && okName x && chkH sc no t v && (Γ.sub.any fun t => decide (t.2.1 = h)) && ioOk Γ sc io no
  | _ => false
def isIsE : HT → Bool
  | .isE _ => true
  | _ => false
def chkHi (Γ : G) (sc : Scope) (h : Str) (io : Option Nat) (c t : HT) : List ExceptHandler → Bool
  | [.ExceptHandler (some (.Name x _)) no [.If ec [.Return (some v) _] [] _] _] => decide (x = h) && glB sc x && okName x && isIsE c && chkH sc no c ec && chkH sc no t v && (Γ.sub.any fun t => decide (t.2.1 = h)) && ioOk Γ sc io no
  | _ => false
def chkHk (Γ : G) (sc : Scope) (h : Str) (io : Option Nat) (k j : Nat) (hs : List HT) : List ExceptHandler → Bool
  | [.ExceptHandler (some (.Name x _)) no [.Assign [.Name kn _] (.List es _) _, .If (.Compare (.Call (.Name ln _) [.ListComp (.Name y1 _) [⟨.Name y2 _, .Name kn2 _, [.Name y3 _], asy⟩] scope _] [] _) [op] [.Constant (.int one) _ _] _) [.Return (some (.Call (.Attribute (.Name kn3 _) m apos) [.Constant (.bool b) _ _] [] cpos)) _] [] _] _] =>
    decide (x = h) && glB sc x && okName x && (Γ.sub.any fun t => decide (t.2.1 = h)) && ioOk Γ sc io no && chkHs sc no hs es && decide (Γ.N[k]? = some kn) && locB sc kn && okName kn && decide (kn2 = kn) && decide (kn3 = kn) && decide (io ≠ some k) &&
    decide (ln = ("len" : Str)) && glB sc ln && decide (y2 = y1) && decide (y3 = y1) && decide (Γ.N[j]? = some y1) && okName y1 && locB scope y1 && blkC Γ.N sc scope [(y1, j)] && decide (asy = 0) && decide (op = .Eq) && decide (one = 1) && decide (m = ("index" : Str)) && decide (b = true) && (apos.endLine == cpos.line)
  | _ => false
/-- the expression of what is written -/
def chkO (Γ : G) (sc : Scope) : OT → Expr → Bool
  | .sl i, .Name x _ => decide (Γ.N[i]? = some x) && visB sc x && okName x
  | .fl i f, .Attribute (.Name x _) g _ => decide (Γ.N[i]? = some x) && visB sc x && okName x && decide (f = g)
  | _, _ => false
def own1 : T → Bool
  | .bin .Add _ _ => true
  | .bin .Mult _ _ => true
  | .slc _ _ _ => true
  | .lsx _ => true
  | .new _ _ => true
  | .dnew _ => true
  | .dsp _ _ => true
  | .bck _ => true
  | .dsq _ _ => true
  | .rg1 false _ => true
  | _ => false
def ownB (n : Nat) (t : T) : Bool := ownb n t || (n == 1 && own1 t)
def chkRR (Γ : G) (sc : Scope) (i v : Nat) (ix e : T) : Stmt → Bool
  | .For (.Name y _) (.Name x _) [.Assign [.Subscript (.Name y2 _) j _] ve _] [] _ => decide (Γ.N[i]? = some x) && visB sc x && okName x && decide (Γ.N[v]? = some y) && visB sc y && okName y && locB sc y && decide (y2 = y) && chk Γ sc ix (.one j) && chk Γ sc e (.one ve) && noSlice j && !(isLc ve)
  | _ => false
def chkP3 (Γ : G) (sc : Scope) (i j l : Nat) (e1 e2 e3 : T) : List Expr → Expr → Bool
  | [.Tuple [.Name x px, .Name y py, .Name z pz] _ _], .Tuple [u, v, w] _ _ => decide (Γ.N[i]? = some x) && decide (Γ.N[j]? = some y) && decide (Γ.N[l]? = some z) && decide (i ≠ j) && decide (i ≠ l) && decide (j ≠ l) && decide (sc.names.lookup x = some .local) && decide (sc.names.lookup y = some .local) && decide (sc.names.lookup z = some .local) && decide (x ≠ y) && decide (x ≠ z) && decide (y ≠ z) && (py.line == px.line) && (pz.line == px.line) &&
      chk Γ sc e1 (.one u) && chk Γ sc e2 (.one v) && chk Γ sc e3 (.one w) && noStar u && noStar v && noStar w && !(foldedForSure 8 u && (foldedForSure 8 v && foldedForSure 8 w)) && !(constantsAlone 8 u && (constantsAlone 8 v && constantsAlone 8 w)) && decide (sc.kind = .function)
  | _, _ => false
mutual
def chkS (Γ : G) (sc : Scope) : S → Stmt → Bool
  | .tri body h io c t, .Try sb hs [] [] _ => chkHi Γ sc h io c t hs && chkB Γ sc body sb
  | .trk body h io k j ht, .Try sb hs [] [] _ => chkHk Γ sc h io k j ht hs && chkB Γ sc body sb
  | .tr body h io t, .Try sb hs [] [] _ => chkHd Γ sc h io t hs && chkB Γ sc body sb
  | .asg i _ e, .Assign [.Name x _] v _ => lcName sc Γ.N i x && chk Γ sc e (.one v)
  | .owr i e, .Assign [.Name x _] v _ => lcName sc Γ.N i x && chk Γ sc e (.one v) && ownB 1 e
  | .own i n e, .Assign [.Name x _] v _ => lcName sc Γ.N i x && chk Γ sc e (.one v) && ownB n e && decide (n < 3)
  | .pat p _ e, .Assign [.Tuple ts k p2] v _ => chkP Γ.N sc p (.Tuple ts k p2) && chk Γ sc e (.one v) && !(isLc v) && swOff sc ts v
  | .par i j _ e1 e2, .Assign [.Tuple [.Name x px, .Name y py] _ _] (.Tuple [v, w] _ _) _ => decide (Γ.N[i]? = some x) && decide (Γ.N[j]? = some y) && decide (i ≠ j) && decide (sc.names.lookup x = some .local) && decide (sc.names.lookup y = some .local) && decide (x ≠ y) && (py.line == px.line) &&
      chk Γ sc e1 (.one v) && chk Γ sc e2 (.one w) && noStar v && noStar w && !(foldedForSure 8 v && foldedForSure 8 w) && !(constantsAlone 8 v && constantsAlone 8 w) && decide (sc.kind = .function)
  | .app o n b e, .Expr (.Call (.Attribute x m apos) [v] [] cpos) _ => chkO Γ sc o x && decide (m = ("append" : Str)) && chk Γ sc e (.one v) && ownb n e && noStar v && (n == 0 || !b) && (apos.endLine == cpos.line)
  | .apr o e, .Expr (.Call (.Attribute x m apos) [v] [] cpos) _ => chkO Γ sc o x && decide (m = ("append" : Str)) && chk Γ sc e (.one v) && ownB 1 e && noStar v && (apos.endLine == cpos.line)
  | .ext o b e, .Expr (.Call (.Attribute x m apos) [v] [] cpos) _ => chkO Γ sc o x && decide (m = ("extend" : Str)) && chk Γ sc e (.one v) && noStar v && (apos.endLine == cpos.line)
  | .pop i o, .Assign [.Name y _] (.Call (.Attribute x m apos) [] [] cpos) _ => lcName sc Γ.N i y && chkO Γ sc o x && decide (m = ("pop" : Str)) && (apos.endLine == cpos.line)
  | .popA i k c o, .Assign [.Name y _] (.BinOp (.Name z _) .Add (.Subscript (.Call (.Attribute x m apos) [] [] cpos) (.Constant (.int c') _ _) _) _) _ => lcName sc Γ.N i y && decide (Γ.N[k]? = some z) && visB sc z && okName z && chkO Γ sc o x && decide (m = ("pop" : Str)) && (apos.endLine == cpos.line) && decide (c' = (c : Int))
  | .dset o _ ix e, .Assign [.Subscript x j _] v _ => chkO Γ sc o x && chk Γ sc ix (.one j) && chk Γ sc e (.one v) && noSlice j && !(isLc v)
  | .own2 i n j m e1 e2, .Assign [.Tuple [.Name x px, .Name y py] _ _] (.Tuple [v, w] _ _) _ => decide (Γ.N[i]? = some x) && decide (Γ.N[j]? = some y) && decide (i ≠ j) && decide (sc.names.lookup x = some .local) && decide (sc.names.lookup y = some .local) && decide (x ≠ y) && (py.line == px.line) &&
      chk Γ sc e1 (.one v) && chk Γ sc e2 (.one w) && noStar v && noStar w && !(foldedForSure 8 v && foldedForSure 8 w) && !(constantsAlone 8 v && constantsAlone 8 w) && decide (sc.kind = .function) && ownB n e1 && ownB m e2 && decide (n < 3) && decide (m < 3)
  | .set o _ ix e, .Assign [.Subscript x j _] v _ => chkO Γ sc o x && chk Γ sc ix (.one j) && chk Γ sc e (.one v) && noSlice j && !(isLc v)
  | .augL o op ix e, .AugAssign (.Subscript x j _) op' v _ => decide (op = op') && (decide (op = .Add) || decide (op = .Sub)) && chkO Γ sc o x && chk Γ sc ix (.one j) && chk Γ sc e (.one v) && noSlice j
  | .aug2 i op ix jx e, .AugAssign (.Subscript (.Subscript (.Name x _) j _) j2 _) op' v _ => decide (op = op') && (decide (op = .Add) || decide (op = .Sub)) && decide (Γ.N[i]? = some x) && visB sc x && okName x && chk Γ sc ix (.one j) && chk Γ sc jx (.one j2) && chk Γ sc e (.one v) && noSlice j && noSlice j2
  | .mcl i o _ args, .Expr (.Call (.Attribute (.Name x _) m apos) (e1 :: es) [] cpos) _ => decide (Γ.N[o]? = some x) && visB sc x && okName x && (apos.endLine == cpos.line) && decide (es.length < 28) && decide ((Γ.mks[i]?).map (·.m) = some m) && decide (m ≠ "__init__") && decide ((Γ.mks[i]?).map (·.np) = some args.length) && chks Γ sc args (e1 :: es)
  | .seta o f n b e, .Assign [.Attribute (.Name x _) g _] v _ => decide (Γ.N[o]? = some x) && visB sc x && okName x && decide (f = g) && chk Γ sc e (.one v) && ownB n e && !(isLc v)
  | .rtm, .Return none _ => true
  | .par3 i j l _ e1 e2 e3, .Assign tgs v _ => chkP3 Γ sc i j l e1 e2 e3 tgs v
  | .set2 i _ ix jx e, .Assign [.Subscript (.Subscript (.Name x _) j _) j2 _] v _ => decide (Γ.N[i]? = some x) && visB sc x && okName x && chk Γ sc ix (.one j) && chk Γ sc jx (.one j2) && chk Γ sc e (.one v) && noSlice j && noSlice j2 && !(isLc v)
  | .aug i op e, .AugAssign (.Name x _) op' v _ => decide (op = op') && (decide (op = .Add) || decide (op = .Sub)) && lcName sc Γ.N i x && chk Γ sc e (.one v)
  | .exp e, .Expr v _ => chk Γ sc e (.one v) && !(isLc v)
  | .ite c a b, .If ec ea eb _ => chk Γ sc c (.one ec) && noIf ec && chkB Γ sc a ea && chkB Γ sc b eb
  | .for p k _ args body, .For tg it eb [] _ => noSet it && chkI Γ sc k args tg it && chkP Γ.N sc p tg && chkB Γ sc body eb
  | .whl c body, .While ec eb [] _ => chk Γ sc c (.one ec) && noIf ec && chkB Γ sc body eb
  | .ret e, .Return (some v) _ => chk Γ sc e (.one v)
  | .retN, .Return none _ => true
  | .rai c, .Raise (some (.Call (.Name x _) [.Constant (.str _) _ _] [] _)) none _ => decide (x = c) && glB sc x && okName x && decide (c ∈ Γ.exs)
  | .setL i ix e, .Assign [.Subscript (.Name x _) j _] v _ => decide (Γ.N[i]? = some x) && visB sc x && okName x && chk Γ sc ix (.one j) && chk Γ sc e (.one v) && noSlice j && ownb 1 e
  | .forr i v ix e, st => chkRR Γ sc i v ix e st
  | .pss, .Pass _ => true
  | .brk, .Break _ => true
  | .cnt, .Continue _ => true
  | .bad, _ => true
  | _, _ => false
def chkB (Γ : G) (sc : Scope) : List S → List Stmt → Bool
  | [], [] => true
  | .frz _ :: ss, sts => chkB Γ sc ss sts
  | s :: ss, st :: sts => chkS Γ sc s st && chkB Γ sc ss sts
  | _, _ => false
end
end DE
set_option linter.all false
set_option maxRecDepth 100000
set_option maxHeartbeats 4000000
namespace DE
open PySem PySem.Spec PyProof.Rows L2

/-- what changed from one state of a body to a later one -/
structure Rel (K : PySem.W.Frag) (O P : Addr → Prop) (H : Hp) (P' : Addr → Prop) (H' : Hp) : Prop where
  st : Stay K (fun a => O a ∨ P a) H H'
  own : ∀ a, P' a → P a ∨ H a = none
theorem Rel.refl {K : PySem.W.Frag} {O P : Addr → Prop} {H : Hp} : Rel K O P H P H := ⟨.refl, fun _ => .inl⟩
theorem Rel.trans {K : PySem.W.Frag} {O P P' P2 : Addr → Prop} {H H' H2 : Hp} (hn : ∀ a, H' a = none → H a = none) (x : Rel K O P H P' H') (y : Rel K O P' H' P2 H2) : Rel K O P H P2 H2 :=
  ⟨⟨fun a xs h => y.st.t a xs (x.st.t a xs h), fun a xs h m n => y.st.l a xs (x.st.l a xs h m n) m fun z => z.elim (fun z => n (.inl z)) fun z => (x.own a z).elim (fun z => n (.inr z)) fun z => (by rw [h] at z; cases z), fun a ns h => y.st.s a ns (x.st.s a ns h)⟩, fun a z => (y.own a z).elim (x.own a) fun z => .inr (hn a z)⟩
theorem Rel.same {K : PySem.W.Frag} {O P : Addr → Prop} {H H' : Hp} (s : Same H H') : Rel K O P H P H' := ⟨.of s, fun _ => .inl⟩
def Post (K : PySem.W.Frag) (cv : Str → Value) (W : WX) (O : Addr → Prop) (H0 : Ent) (P : Addr → Prop) (H : Hp) (D : Ends) : Out → Prop
  | .nx ρ => ∀ H' σ P', (∀ a, H' a = none → H a = none) → Rel K O P H P' H' → SE K O H0 P' H' σ ρ → D.nx σ H'
  | .bk ρ => ∀ H' σ P', (∀ a, H' a = none → H a = none) → Rel K O P H P' H' → SE K O H0 P' H' σ ρ → D.bk σ H'
  | .ct ρ => ∀ H' σ P', (∀ a, H' a = none → H a = none) → Rel K O P H P' H' → SE K O H0 P' H' σ ρ → D.ct σ H'
  | .ret d => ∀ H v, SameB H0 H → Rp K O H v d → D.rt v H
  | .exc c => ∀ H σ, SameB H0 H → W (cv c) none σ H
  | .rtm ρ => ∀ H' σ P', (∀ a, H' a = none → H a = none) → Rel K O P H P' H' → SE K O H0 P' H' σ ρ → D.rt .non H'
def tS (K : PySem.W.Frag) (cv : Str → Value) (W : WX) (f : List Sl → Option Out) : TS := fun D σ H => ∃ O H0 P ρ out, SE K O H0 P H σ ρ ∧ f ρ = some out ∧ Post K cv W O H0 P H D out
structure ExcF (K : PySem.W.Frag) (mg : Str → Option Value) (cv : Str → Value) (c : Str) : Prop where
  ex : ∃ C, cv c = .ref C ∧ mg c = some (.ref C) ∧ PySem.W.keepIn K (.ref C) = true ∧ PySem.W.excIn K C [.type "ValueError", .type "Exception", .type "BaseException", .type "object"] "ValueError.__new__" = true ∧ PySem.W.subIn K (.ref C) (.type "BaseException") = some true ∧ PySem.W.typeIn K (.ref C) = some (.type "type")
/-- a class that an except clause or isinstance names -/
def HasV (mg : Str → Option Value) (h : Str) (v : V) (u : Value) : Prop := RelV v u ∧ (∀ w, RelV v w → w = u) ∧ (mg h = some u ∨ (mg h = none ∧ bootBuiltins h = some u ∧ h ≠ "__name__"))
structure SubF (K : PySem.W.Frag) (mg : Str → Option Value) (cv : Str → Value) (t : Str × Str × Bool) : Prop where
  ex : ∃ v u C, HasV mg t.2.1 v u ∧ cv t.1 = .ref C ∧ ExcC K C ∧ PySem.W.kitOne K (.ref C) u = some t.2.2 ∧ PySem.W.exmOne K (.ref C) u = some t.2.2
structure OkS (Γ : G) (cv : Str → Value) (lvl : Nat) (X : Cx) (W : WX) : Prop extends OkX Γ cv lvl X W where
  hp : PassesOwn (model X.prog X.w) X.A X.env X.xe
  fnA : ∀ x, X.fn x = true
  exc : ∀ c ∈ Γ.exs, ExcF X.K X.mg cv c
  kind : X.env.scope.kind = .function
  subs : ∀ t ∈ Γ.sub, SubF X.K X.mg cv t
  stk : X.stack = X.env :: X.outer
  frm : X.env.frame = some X.env.locals
section
variable {X : Cx} {Γ : G} {cv : Str → Value} {lvl : Nat} {W : WX}
theorem PS.weak {st : Stmt} {t t' : TS} (h : PS X st t) (w : ∀ D σ H, t' D σ H → t D σ H) : PS X st t' := ⟨fun pins s σ H D I q => h.run pins s σ H D I (w _ _ _ q)⟩
theorem PSs.weak {st : List Stmt} {t t' : TS} (h : PSs X st t) (w : ∀ D σ H, t' D σ H → t D σ H) : PSs X st t' := ⟨fun pins s σ H D I q => h.run pins s σ H D I (w _ _ _ q)⟩
/-- an expression evaluated in a body -/
theorem exE_go {α β : Type} {R : Hp → β → α → Prop} {K : PySem.W.Frag} {O P Pq : Addr → Prop} {H0 : Ent} {H Hq : Hp} {σ : L2.St} {ρ : List Sl} {m : M α} {k : α → Option Out} {out : Out} {D : Ends} (s : SE K O H0 P H σ ρ) (e : exE m k = some out) (po : Post K cv W O H0 Pq Hq D out) :
    GoG R (Wc cv W σ) H (fun v H' => ∃ d, m = some (.ok d) ∧ k d = some out ∧ Same H H' ∧ SE K O H0 P H' σ ρ ∧ R H' v d) m := by
  cases m with
  | none => cases e
  | some r => cases r with
    | error c =>
      cases e
      exact fun H' s' => po H' σ (s.same.trans s')
    | ok d => exact fun H' v s' r => ⟨d, rfl, e, s', s.mono s', r⟩
theorem env_b {K : PySem.W.Frag} {O P : Addr → Prop} {H0 : Ent} {H : Hp} {σ : L2.St} {ρ : List Sl} (s : SE K O H0 P H σ ρ) (b : Bool) : EnvR K (fun a => O a ∨ (b = false ∧ P a)) H σ (envB b ρ) := by
  cases b with
  | true =>
    have := s.bor
    refine ⟨this.len, fun a z => s.dom a (z.elim .inl fun z => .inr z.2), fun i d h => ?_⟩
    obtain ⟨v, h1, h2⟩ := this.at' i d h
    exact ⟨v, h1, h2.less fun a z => z.elim id fun z => by cases z.1⟩
  | false =>
    have := s.stc
    refine ⟨this.len, fun a z => s.dom a (z.elim .inl fun z => .inr z.2), fun i d h => ?_⟩
    obtain ⟨v, h1, h2⟩ := this.at' i d h
    exact ⟨v, h1, h2.less fun a z => z.elim .inl fun z => .inr z.2⟩
theorem keep_b {K : PySem.W.Frag} {O P : Addr → Prop} {H : Hp} {b : Bool} {v : V} {d : D} (h : keepB b d = true) (r : Rp K (fun a => O a ∨ (b = false ∧ P a)) H v d) : Rp K (fun a => O a ∨ P a) H v d := by
  cases b with
  | true => exact Rp.noL (d := d) (by simpa [keepB] using h) r
  | false => exact r.less fun a z => z.elim .inl fun z => .inr ⟨rfl, z⟩
/-- x = e, whatever e is -/
theorem as_ok (ok : OkS Γ cv lvl X W) {sc : Scope} (hsc : X.env.scope = sc) {n i : Nat} {t : T} {x : Str} {v : Expr} {p' pos : Pos} (hn : lcName sc Γ.N i x = true) (hc : chk Γ sc t (.one v) = true) (ho : ownb n t = true) :
    PS X (.Assign [.Name x p'] v pos) (tAsg (tF X.K cv W n (ev Γ t)) (gName i)) := by
  simp only [lcName, Bool.and_eq_true, decide_eq_true_eq] at hn
  have hi : X.N[i]? = some x := by rw [ok.nN]; exact hn.1
  have hx : Loc X.env.scope x := by rw [hsc]; exact loc_of hn.2
  have he := sndW n t v X W sc ok.toOkX hsc hc ho
  by_cases hl : isLc v = true
  case neg =>
    refine ps_set ok.nd hi hx he ?_ (.inl (ok.fnA x))
    cases v <;> first | rfl | exact absurd rfl hl
  cases v <;> try exact absurd hl Bool.false_ne_true
  · rename_i elt gs scope pos2
    by_cases hs : (X.env.blockKind == .function && X.env.kindOf x == some .local && p'.line == pos2.line && !scope.names.any fun (n, k) => n == x && (k == .local || k == .cell)) = true
    case neg =>
      refine ps_set ok.nd hi hx he ?_ (.inl (ok.fnA x))
      exact congrArg (fun b : Bool => (pure b : Sem Bool)) (Bool.eq_false_iff.mpr hs)
    cases t <;> try exact absurd hc Bool.false_ne_true
    · rename_i d; cases d <;> exact absurd hc Bool.false_ne_true
    rename_i p k args ifs et own
    match gs, hc, he with
    | [⟨tg, it, eifs, asy⟩], hc, he =>
      simp only [chk, Bool.and_eq_true, decide_eq_true_eq] at hc
      obtain ⟨⟨⟨⟨⟨⟨⟨rfl, h1⟩, h2⟩, h3⟩, h4⟩, h5⟩, h6⟩, h7⟩ := hc
      subst hsc
      have hsl : ∀ i ∈ p.slots, i ∈ own.map (·.2) := fun i hi => of_decide_eq_true (List.all_eq_true.mp h7 i hi)
      have hyl : X.env.scope.names.lookup x = some .local := by
        simp only [Bool.and_eq_true] at hs
        exact eq_of_beq hs.1.1.2
      have hsw : swapsWith (.ListComp elt [⟨tg, it, eifs, 0⟩] scope pos2) (some (.Name x p')) pos.line X.env = pure true :=
        congrArg (fun b : Bool => (pure b : Sem Bool)) hs
      have A := sndI k args it tg X W _ ok.toOkX rfl h2
      have B := blkOk_by (N := X.N) (by rw [ok.nN]; exact h6)
      have C := fun (s : Shared) (H : Hp) (C : Addr) (cl : List (Str × Addr)) (fp : List Addr) => pg_ok (X := X.blk s H scope (compEnvC scope cl C X.env) fp) ok.calm ok.nd blk_loc p tg (by show chkP X.N scope p tg = true; rw [ok.nN]; exact h3)
      have E := fun (s : Shared) (H : Hp) (C : Addr) (cl : List (Str × Addr)) (fp : List Addr) => sndF ifs eifs _ _ _ (ok.toOkX.blk s H scope C cl fp) rfl h4
      cases n with
      | zero =>
        refine PS.weak (ps_setLc (g := gP X.K p) (tt := tB X.K cv Wf (evi Γ ifs)) (te := tD X.K cv Wf (ev Γ et)) ok.calm ok.nd hi hyl hsw A B C E (fun s H C cl fp => (snd et (.one elt) _ _ _ (ok.toOkX.blk s H scope C cl fp) rfl h5).1) (noSet_ok h1 X.env)) fun D σ H q => ?_
        obtain ⟨O, ρ, env, g⟩ := q
        refine lc_w hsl (tD.of (f := lcF p own _ _ _) env ?_)
        have g : GoF X.K cv W O σ 0 H (fun x H1 => gName i x σ H1 D.nx) (lcF p own (fun ρ => bnd (evs Γ args ρ) fun ds => lft (itD k ds)) (fun ρ => evi Γ ifs ρ) (fun ρ => ev Γ et ρ) ρ) := g
        show Go X.K cv W O σ H _ (lcF p own (fun ρ => bnd (evs Γ args ρ) fun ds => lft (itD k ds)) (fun ρ => evi Γ ifs ρ) (fun ρ => ev Γ et ρ) ρ)
        cases e1 : lcF p own (fun ρ => bnd (evs Γ args ρ) fun ds => lft (itD k ds)) (fun ρ => evi Γ ifs ρ) (fun ρ => ev Γ et ρ) ρ with
        | none => rw [e1] at g; exact g
        | some r => cases r with
          | error c => rw [e1] at g; exact g
          | ok d => rw [e1] at g; exact fun H' v s r => g H' v (fun _ => False) [] s freshP_none (.fz (r.less fun a z => z.elim id False.elim)) .nil
      | succ n =>
        exact PS.weak (ps_setLc (g := gP X.K p) (tt := tB X.K cv Wf (evi Γ ifs)) (te := tF X.K cv Wf n (ev Γ et)) ok.calm ok.nd hi hyl hsw A B C E (fun s H C cl fp => sndW n et elt _ _ _ (ok.toOkX.blk s H scope C cl fp) rfl h5 ho) (noSet_ok h1 X.env)) fun D σ H q => lcO_w hsl q
    | [], hc, he => exact absurd hc Bool.false_ne_true
    | ⟨_, _, _, _⟩ :: _ :: _, hc, he => exact absurd hc Bool.false_ne_true
  all_goals (cases t <;> first | exact absurd hc Bool.false_ne_true | (rename_i d; cases d <;> exact absurd hc Bool.false_ne_true))
end
end DE
set_option linter.all false
set_option maxRecDepth 100000
set_option maxHeartbeats 4000000
namespace DE
open PySem PySem.Spec PyProof.Rows L2
/-! ### more that may be owned -/
section
variable {K : PySem.W.Frag} {O : Addr → Prop} {H H1 : Hp} {Q : VK}
abbrev Fre (K : PySem.W.Frag) (O : Addr → Prop) (H : Hp) (Q : VK) (d : D) : Prop := ∀ H' v P fp, Same H H' → FreshP H H' P → Ow K (fun a => O a ∨ P a) P H' 1 v d fp → fp.Nodup → Q v H'
theorem fresh_lst {ds : List D} {xs : List V} {p : Addr} (g : Fre K O H Q (.lst ds)) (s1 : Same H H1) (r : Rps K O H1 xs ds) (hp : H1 p = none) : Q (.ref p) (upd H1 p (.lst xs)) := by
  have sl := same_new hp (.lst xs)
  refine g (upd H1 p (.lst xs)) (.ref p) (fun a => a = p) [p] (s1.trans sl) (fun a z => by subst z; exact ⟨s1.free hp, _, upd_same, trivial⟩) (.ls upd_same rfl (.of0 ((r.more fun a z => ?_).mono sl))) (List.nodup_cons.mpr ⟨by simp, .nil⟩)
  rcases z with z | z
  · exact .inl z
  · exact .inr (z ▸ hp)
theorem fresh_dK {ks : List Key} {ds : List D} {xs : List V} {p : Addr} (g : Fre K O H Q (.dK ks ds)) (s1 : Same H H1) (r : Rps K O H1 xs ds) (l : ks.length = xs.length) (hp : H1 p = none) : Q (.ref p) (upd H1 p (.dK (ks.zip xs))) := by
  have sl := same_new hp (.dK (ks.zip xs))
  refine g (upd H1 p (.dK (ks.zip xs))) (.ref p) (fun a => a = p) [p] (s1.trans sl) (fun a z => by subst z; exact ⟨s1.free hp, _, upd_same, trivial⟩) (.dk upd_same l rfl (.of0 ((r.more fun a z => ?_).mono sl))) (List.nodup_cons.mpr ⟨by simp, .nil⟩)
  rcases z with z | z
  · exact .inl z
  · exact .inr (z ▸ hp)
theorem fresh_dT {es : List NE} {ks : List NestedKey} {ds : List D} {p : Addr} (g : Fre K O H Q (.dT ks ds)) (s1 : Same H H1) (e : ks = es.map (·.1)) (l : ks.all kOk = true) (q : Rps K O H1 (es.map fun e => V.ref e.2.1) (kDs ks)) (r : Rps K O H1 (es.map (·.2.2)) ds) (hp : H1 p = none) : Q (.ref p) (upd H1 p (.ext (DNp p es))) := by
  have sl := same_new hp (.ext (DNp p es))
  have w : ∀ a, O a ∨ a = p → O a ∨ H1 a = none := fun a z => z.elim .inl fun z => .inr (z ▸ hp)
  exact g (upd H1 p (.ext (DNp p es))) (.ref p) (fun a => a = p) [p] (s1.trans sl) (fun a z => by subst z; exact ⟨s1.free hp, _, upd_same, trivial⟩) (.dt upd_same e l rfl ((q.more w).mono sl) (.of0 ((r.more w).mono sl))) (List.nodup_cons.mpr ⟨by simp, .nil⟩)
end
section
variable {X : Cx} {Γ : G} {cv : Str → Value} {lvl : Nat} {W : WX} {a b : Expr} {pos : Pos} {fa fb : Env → M D}
abbrev gd (f : Env → M D) : Env → M D := fun ρ => bnd (f ρ) (ownG 1)
theorem own_lst {K : PySem.W.Frag} {σ : L2.St} {O : Addr → Prop} {H : Hp} {Q : VK} {ds : List D} (g : GoF K cv W O σ 1 H Q (ownG 1 (.lst ds))) : Fre K O H Q (.lst ds) := g
theorem s_binF (op : Operator) (h : op = .Add ∨ op = .Mult) (ha : PE X a (tD X.K cv W fa)) (hb : PE X b (tD X.K cv W fb)) : PE X (.BinOp a op b pos) (tF X.K cv W 1 (gd fun ρ => bnd (fa ρ) fun x => bnd (fb ρ) fun y => lft (binD op x y))) := by
  rcases h with rfl | rfl
  · refine PE.weak (pe_op op_cat ha hb) fun σ H Q ⟨O, ρ, env, g⟩ => tD.of env ?_
    dsimp only [gd] at g
    cases e1 : fa ρ with
    | none => rw [e1] at g; exact g
    | some r => cases r with
      | error c => rw [e1] at g; exact g
      | ok x =>
        rw [e1, bnd_ok] at g
        intro H1 v s1 rx
        refine tD.of (env.mono s1) ?_
        cases e2 : fb ρ with
        | none => rw [e2] at g; exact g
        | some r => cases r with
          | error c => rw [e2] at g; exact fun H' s => g H' (s1.trans s)
          | ok y =>
            rw [e2, bnd_ok] at g
            intro H2 w s2 ry
            cases e3 : binD .Add x y with
            | none => rw [e3] at g; exact g.elim
            | some d =>
              rw [e3] at g
              replace g : GoF X.K cv W O σ 1 H Q (ownG 1 d) := g
              unfold binD at e3
              split at e3 <;> (try contradiction)
              · cases e3; exact g.elim
              · split at e3
                · rename_i hz
                  cases e3
                  cases rx with | lst h1 n1 r1 => cases ry with | lst h2 n2 r2 =>
                    exact ⟨_, _, _, _, rfl, rfl, s2 _ _ h1, h2, by rw [r1.length, r2.length]; exact hz, fun p hp => fresh_lst g (s1.trans s2) ((r1.mono s2).append r2) hp⟩
                · cases e3
              · split at e3
                · cases e3; exact g.elim
                · cases e3
              · split at e3
                · cases e3; exact g.elim
                · cases e3
  · refine PE.weak (pe_op op_rep ha hb) fun σ H Q ⟨O, ρ, env, g⟩ => tD.of env ?_
    dsimp only [gd] at g
    cases e1 : fa ρ with
    | none => rw [e1] at g; exact g
    | some r => cases r with
      | error c => rw [e1] at g; exact g
      | ok x =>
        rw [e1, bnd_ok] at g
        intro H1 v s1 rx
        refine tD.of (env.mono s1) ?_
        cases e2 : fb ρ with
        | none => rw [e2] at g; exact g
        | some r => cases r with
          | error c => rw [e2] at g; exact fun H' s => g H' (s1.trans s)
          | ok y =>
            rw [e2, bnd_ok] at g
            intro H2 w s2 ry
            cases e3 : binD .Mult x y with
            | none => rw [e3] at g; exact g.elim
            | some d =>
              rw [e3] at g
              replace g : GoF X.K cv W O σ 1 H Q (ownG 1 d) := g
              unfold binD at e3
              split at e3 <;> (try contradiction)
              · split at e3
                · cases e3; exact g.elim
                · cases e3
              · split at e3
                · rename_i hz
                  cases e3
                  cases rx with | lst h1 n1 r1 =>
                    cases ry
                    exact ⟨_, _, _, rfl, rfl, s2 _ _ h1, hz.1, hz.2.1, by rw [r1.length]; exact hz.2.2, fun p hp => fresh_lst g (s1.trans s2) ((r1.mono s2).rep _) hp⟩
                · cases e3
              · split at e3
                · cases e3; exact g.elim
                · cases e3
theorem s_slcF {lo hi : Option Expr} {p2 : Pos} {fl fh : Env → M (Option Int)} (ha : PE X a (tD X.K cv W fa)) (hl : PO X lo (tO X.K cv W fl)) (hh : PO X hi (tO X.K cv W fh)) :
    PE X (.Subscript a (.Slice lo hi none p2) pos) (tF X.K cv W 1 (gd fun ρ => bnd (fa ρ) fun x => bnd (fl ρ) fun l => bnd (fh ρ) fun h => lft (slcD x l h))) := by
  refine PE.weak (pe_slice sl_list ha hl hh) fun σ H Q ⟨O, ρ, env, g⟩ => tD.of env ?_
  dsimp only [gd] at g
  cases e1 : fa ρ with
  | none => rw [e1] at g; exact g
  | some r => cases r with
    | error c => rw [e1] at g; exact g
    | ok x =>
      rw [e1, bnd_ok] at g
      intro H1 v s1 rx
      refine ⟨O, ρ, env.mono s1, ?_⟩
      cases e2 : fl ρ with
      | none => rw [e2] at g; exact g
      | some r => cases r with
        | error c => rw [e2] at g; exact fun H' s => g H' (s1.trans s)
        | ok l =>
          rw [e2, bnd_ok] at g
          intro H2 l' s2 el
          subst el
          refine ⟨O, ρ, env.mono (s1.trans s2), ?_⟩
          cases e3 : fh ρ with
          | none => rw [e3] at g; exact g
          | some r => cases r with
            | error c => rw [e3] at g; exact fun H' s => g H' (s1.trans (s2.trans s))
            | ok h =>
              rw [e3, bnd_ok] at g
              intro H3 h' s3 eh
              subst eh
              cases e4 : slcD x l' h' with
              | none => rw [e4] at g; exact g.elim
              | some d =>
                rw [e4] at g
                replace g : GoF X.K cv W O σ 1 H Q (ownG 1 d) := g
                have s23 := s2.trans s3
                unfold slcD at e4
                split at e4
                · cases e4; exact g.elim
                · cases e4
                  cases rx with | lst h1 n1 r1 =>
                    exact ⟨_, _, rfl, SqL.of (s23 _ _ h1), fun p hp => fresh_lst g (s1.trans s23) (cut_rps (r1.mono s23) _ _) hp⟩
                · rename_i ns
                  cases e4
                  cases rx with | scr h1 =>
                    have z := cut_rps (Rps.of_ints (K := X.K) (O := O) (H := H3) ns) l' h'
                    rw [cut_map] at z
                    exact ⟨_, _, rfl, (scr_same s23 h1).seq, fun p hp => fresh_lst g (s1.trans s23) z hp⟩
                · cases e4
theorem s_lsxF {es : List Expr} {f : Env → M (List D)} (h : PA X es (tA X.K cv W fun ρ => bnd (f ρ) fun ds => lft (starL ds))) : PE X (.List es pos) (tF X.K cv W 1 (gd fun ρ => bnd (f ρ) fun ds => match starL ds with
    | some xs => if xs.length ≤ sizeLine then some (.ok (.lst xs)) else none
    | none => none)) := by
  refine PE.weak (pe_lst h) fun σ H Q ⟨O, ρ, env, g⟩ => tA.of env ?_
  dsimp only [gd] at g
  cases e1 : f ρ with
  | none => rw [e1] at g; exact g
  | some r => cases r with
    | error c => rw [e1] at g; exact g
    | ok ds =>
      rw [e1, bnd_ok] at g
      rw [bnd_ok]
      cases e2 : starL ds with
      | none => rw [e2] at g; exact g.elim
      | some ys =>
        rw [e2] at g
        intro H1 vs s1 rs
        dsimp only at g
        by_cases hz : ys.length ≤ sizeLine
        · rw [if_pos hz] at g
          exact ⟨by rw [rs.length]; exact hz, fun p hp => fresh_lst g s1 rs hp⟩
        · rw [if_neg hz] at g; exact g.elim
theorem s_bckF {k : Nat} {p1 p2 p3 : Pos} (ha : PE X a (tD X.K cv W fa)) : PE X (.Subscript a (.Slice none none (some (.UnaryOp .USub (.Constant (.int 1) k p1) p2)) p3) pos) (tF X.K cv W 1 (gd fun ρ => bnd (fa ρ) fun x => lft (bckD x))) := by
  refine PE.weak (pe_revA ha) fun σ H Q ⟨O, ρ, env, g⟩ => tD.of env ?_
  dsimp only [gd] at g
  cases e1 : fa ρ with
  | none => rw [e1] at g; exact g
  | some r => cases r with
    | error c => rw [e1] at g; exact g
    | ok x =>
      rw [e1, bnd_ok] at g
      intro H1 v s1 rx
      cases rx with
      | lst h n r => exact ⟨_, _, rfl, .inl ⟨SqL.of h, fun p hp => fresh_lst g s1 r.rev hp⟩⟩
      | non => exact g.elim
      | bl _ => exact g.elim
      | int _ => exact g.elim
      | str _ => exact g.elim
      | tup _ _ => exact g.elim
      | scr _ => exact g.elim
      | obj _ _ _ _ _ => exact g.elim
      | dK _ _ _ _ => exact g.elim
      | dT _ _ _ _ _ _ => exact g.elim
theorem s_dnewF (t : Bool) : PE X (.Dict [] [] pos) (tF X.K cv W 1 (gd fun _ => some (.ok (if t = true then .dT [] [] else .dK [] [])))) := by
  cases t with
  | false => exact PE.weak pe_dnewK fun σ H Q ⟨O, ρ, env, g⟩ => fun p hp => fresh_dK (ks := []) (xs := []) (ds := []) g (Same.refl _) .nil rfl hp
  | true => exact PE.weak pe_dnewN fun σ H Q ⟨O, ρ, env, g⟩ => fun p hp => fresh_dT (es := []) (ks := []) (ds := []) g (Same.refl _) rfl rfl (by simp only [kDs]; exact .nil) .nil hp
theorem s_dsqF (hr : Room lvl X.A) (ha : PE X a (tD X.K cv W fa)) (hb : PE X b (tD X.K cv W fb)) : PE X (.Dict [some a] [b] pos) (tF X.K cv W 1 (gd fun ρ => bnd (fa ρ) fun x => bnd (fb ρ) fun y => lft (dsqD x y))) := by
  refine PE.weak (pe_disp1 (by have := hr.un; omega) ha hb) fun σ H Q ⟨O, ρ, env, g⟩ => fun p hp => ?_
  have sp := same_new hp (.ext (DNp p []))
  have env' : EnvR X.K (fun a => O a ∨ a = p) (upd H p (.ext (DNp p []))) σ ρ := env.more (fun a z => z.elim .inl fun z => .inr (z ▸ hp)) sp fun a z => z.elim (fun z => let ⟨o, e⟩ := env.dom a z; ⟨o, sp _ _ e⟩) fun z => by subst z; exact ⟨_, upd_same⟩
  dsimp only [gd] at g
  refine tD.of env' ?_
  cases e1 : fa ρ with
  | none => rw [e1] at g; exact g
  | some r => cases r with
    | error c => rw [e1] at g; exact fun H' s => g H' (sp.trans s)
    | ok d =>
      rw [e1, bnd_ok] at g
      intro H1 x s1 rx
      refine tD.of (env'.mono s1) ?_
      cases e2 : fb ρ with
      | none => rw [e2] at g; exact g
      | some r => cases r with
        | error c => rw [e2] at g; exact fun H' s => g H' (sp.trans (s1.trans s))
        | ok d2 =>
          rw [e2, bnd_ok] at g
          intro H2 y s2 ry
          cases er : dsqD d d2 with
          | none => rw [er] at g; exact g.elim
          | some r =>
            rw [er] at g
            unfold dsqD at er
            split at er
            case h_2 => cases er
            rename_i k ek
            cases er
            obtain ⟨bb, rfl, ok, nk⟩ := keyN_rp (rx.mono s2) ek
            obtain ⟨_, ed⟩ := keyN_of ek
            subst ed
            have s12 := s1.trans s2
            have hp2 : H2 p = some (.ext (DNp p [])) := s12 _ _ upd_same
            refine ⟨hp2, k, bb, rfl, ok, nk, ?_⟩
            have w : ∀ {v : V} {d : D}, Rp X.K (fun a => O a ∨ a = p) H2 v d → Rp X.K (fun a => O a ∨ a = p) (upd H2 p (.ext (DNp p [(k, bb, y)]))) v d := fun r => r.wrM hp2 trivial (.inr rfl)
            have sH : Same H (upd H2 p (.ext (DNp p [(k, bb, y)]))) := fun b o e => by
              rw [upd_ne (ne_of_none e hp)]
              exact s12 _ _ (sp _ _ e)
            refine g _ _ (fun a => a = p) [p] sH (fun a z => by subst z; exact ⟨hp, _, upd_same, trivial⟩) (.dt upd_same rfl (by simp [ok]) rfl ?_ (.of0 (.cons (w ry) .nil))) (List.nodup_cons.mpr ⟨by simp, .nil⟩)
            simp only [kDs]
            exact .cons (w (rx.mono s2)) .nil
/-- list(range(..)) owned -/
theorem s_rgF (ok : OkX Γ cv lvl X W) {te : L2.St → Hp → (Int → Int → Hp → Prop) → Prop} {f : Env → M D} {x : Str} {p : Pos} {e : Expr} (hx : x = ("list" : Str)) (hg : Gl X x) (h : PRg X e te) (hn : noStar e = true)
    (w : ∀ σ H Q, tF X.K cv W 1 (gd f) σ H Q → te σ H fun i j H1 => RgOk i j ∧ ∀ q, H1 q = none → Q (.ref q) (upd H1 q (.lst (rgV i j)))) :
    PE X (.Call (.Name x p) [e] [] pos) (tF X.K cv W 1 (gd f)) := by
  subst hx
  exact PE.weak (pe_listRg ok.calm hg (ok.blt _ (by decide +kernel)) h (stE hn [] X.env)) fun σ H Q q => w σ H Q q
theorem rgF_go {K : PySem.W.Frag} {O : Addr → Prop} {σ : L2.St} {H H1 : Hp} {Q : VK} {i j : Int} {d : D} (s1 : Same H H1) (e : rgsD false (.int i) (.int j) = some d) (h : GoF K cv W O σ 1 H Q (ownG 1 d)) :
    RgOk i j ∧ ∀ q, H1 q = none → Q (.ref q) (upd H1 q (.lst (rgV i j))) := by
  unfold rgsD at e
  dsimp only at e
  by_cases ok : RgOk i j
  · rw [if_pos ok] at e
    cases e
    exact ⟨ok, fun q hq => fresh_lst h s1 (rgV_rngL i j) hq⟩
  · rw [if_neg ok] at e; cases e
theorem s_rg1F (ok : OkX Γ cv lvl X W) {x y : Str} {p p2 p3 : Pos} (hx : x = ("list" : Str)) (hg : Gl X x) (hy : y = ("range" : Str)) (hg2 : Gl X y) (hs : noStar b = true) (hb : PE X b (tD X.K cv W fb)) :
    PE X (.Call (.Name x p) [.Call (.Name y p2) [b] [] p3] [] pos) (tF X.K cv W 1 (gd fun ρ => bnd (fb ρ) fun y => lft (rgsD false (.int 0) y))) := by
  subst hy
  refine s_rgF ok hx hg (prg_1 hg2 (ok.blt _ (by decide +kernel)) hb (stE hs [] X.env)) rfl fun σ H Q ⟨O, ρ, env, g⟩ => tD.of env ?_
  dsimp only [gd] at g
  cases e1 : fb ρ with
  | none => rw [e1] at g; exact g
  | some r => cases r with
    | error c => rw [e1] at g; exact g
    | ok d =>
      rw [e1, bnd_ok] at g
      intro H1 v s1 rd
      cases er : rgsD false (.int 0) d with
      | none => rw [er] at g; exact g.elim
      | some r =>
        rw [er] at g
        cases rd with
        | int j => exact ⟨j, rfl, rgF_go s1 er g⟩
        | _ => cases er
theorem s_dspF {ks : List Key} {kes : List (Option Expr)} {ves : List Expr} {f : Env → M (List D)} (hall : kes.all (·.isSome) = true) (hl : kes.length = ves.length) (h0 : ves ≠ []) (h15 : ves.length ≤ 15) (hks : ks.length = kes.length) (h : PDs X pos kes ves cv W ks f) :
    PE X (.Dict kes ves pos) (tF X.K cv W 1 (gd fun ρ => bnd (f ρ) fun ds => if ks.length = ds.length ∧ ks.Nodup then some (.ok (.dK ks ds)) else none)) := by
  obtain ⟨trs, h1, h2⟩ := h
  refine PE.weak (pe_disp h1 hall hl (fun e => h0 (List.eq_nil_of_length_eq_zero (by rw [← hl, e]; rfl))) (by rw [hl]; exact h15)) fun σ H Q ⟨O, ρ, env, g⟩ => fun p hp => ?_
  have sp := same_new hp (.dK [])
  have nO : ¬ O p := fun z => by obtain ⟨o, e⟩ := env.dom p z; rw [hp] at e; cases e
  have env' : EnvR X.K (fun a => O a ∨ a = p) (upd H p (.dK [])) σ ρ := env.more (fun a z => z.elim .inl fun z => .inr (z ▸ hp)) sp fun a z => z.elim (fun z => let ⟨o, e⟩ := env.dom a z; ⟨o, sp _ _ e⟩) fun z => by subst z; exact ⟨_, upd_same⟩
  refine h2 _ ρ σ _ _ env' ?_
  dsimp only [gd] at g
  cases e1 : f ρ with
  | none => rw [e1] at g; exact g
  | some r => cases r with
    | error c => rw [e1] at g; exact fun H' s => g H' (sp.trans s)
    | ok ds =>
      rw [e1, bnd_ok] at g
      intro H2 vs s2 rs
      by_cases hz : ks.length = ds.length ∧ ks.Nodup
      case neg => rw [if_neg hz] at g; exact g.elim
      rw [if_pos hz] at g
      have hv : ks.length = vs.length := by rw [rs.length]; exact hz.1
      have hp2 : H2 p = some (.dK []) := s2 _ _ upd_same
      refine ⟨hp2, ks.zip vs, rfl, by rw [List.length_zip, ← hv, hks, hl]; omega, ?_⟩
      rw [merge_new (ks.zip vs) [] (by rw [zip_fst hv]; exact hz.2) fun _ _ => rfl, List.nil_append]
      have sH : Same H (upd H2 p (.dK (ks.zip vs))) := fun b o e => by
        rw [upd_ne (ne_of_none e hp)]
        exact s2 _ _ (sp _ _ e)
      exact g _ _ (fun a => a = p) [p] sH (fun a z => by subst z; exact ⟨hp, _, upd_same, trivial⟩) (.dk upd_same hv rfl (.of0 (rs.wrM (u := .dK (ks.zip vs)) hp2 trivial (.inr rfl)))) (List.nodup_cons.mpr ⟨by simp, .nil⟩)
theorem s_newF (ok : OkX Γ cv lvl X W) {i : Nat} {q : MkI} {x : Str} {p : Pos} {e : Expr} {es : List Expr} {g : Env → M (List D)} (hi : Γ.mks[i]? = some q) (hx : x = q.c) (hmi : q.m = "__init__") (hlen : ∀ ρ ds, g ρ = some (.ok ds) → ds.length = q.np)
    (hdb : (x == ("__debug__" : Str)) = false) (hg : Gl X x) (hs : ∀ e' ∈ e :: es, noStar e' = true) (ha : PA X (e :: es) (tA X.K cv W g)) :
    PE X (.Call (.Name x p) (e :: es) [] pos) (tF X.K cv W 1 (gd fun ρ => bnd (g ρ) fun ds => bnd (q.f (.obj q.c [] []) ds) fun r => match r.1 with
      | .non => some (.ok r.2)
      | _ => none)) := by
  subst hx
  obtain ⟨C, f, fd, ps, j, hps, hC, hj, F, B, hcl, hm⟩ := (ok.mks i q hi).ex
  obtain ⟨hmg, M⟩ := hm.1 hmi
  have key : PE X (.Call (.Name q.c p) (e :: es) [] pos) (tMakeS C (spM X.K cv q.np q.f) (WE W) (tA X.K cv W g)) :=
    pe_makeS M F (ok.room.mono hj) hg hmg B (fun σ => L2N.passAt ok.tk σ) ha hdb (stE (hs e List.mem_cons_self) es X.env) (stAny fun e he => hs e (List.mem_cons_of_mem _ he))
  refine PE.weak key fun σ H Q ⟨O, ρ, env, g'⟩ => ?_
  refine tA.of env ?_
  dsimp only [gd] at g'
  cases e1 : g ρ with
  | none => rw [e1] at g'; exact g'
  | some r => cases r with
    | error c => rw [e1] at g'; exact g'
    | ok ds =>
      rw [e1, bnd_ok] at g'
      intro H1 vs s1 rs x dx hx hdx ne
      have sm : Same H1 (upd (upd H1 dx (.own x)) x (.ins C dx [])) := same_mk hx hdx
      have nO : ∀ b, O b → b ≠ x := fun b z e => by
        obtain ⟨o, q⟩ := env.dom b z
        have := s1 _ _ q
        rw [e, hx] at this; cases this
      refine ⟨O, fun b => b = x, x, vs, .obj q.c [] [], ds, [x], rfl, by rw [rs.length, hlen ρ ds e1], fun b z => let ⟨o, q⟩ := env.dom b z; ⟨o, sm _ _ (s1 _ _ q)⟩, nO, fun b z => z ▸ ⟨_, upd_same, trivial⟩, ?_, .ob (n := 0) (xs := []) (fs := []) (by exact upd_same) rfl hC rfl .nil, List.nodup_cons.mpr ⟨by simp, .nil⟩, ?_⟩
      · exact (rs.more fun b z => z.elim .inl fun z => .inr (z ▸ hx)).mono sm
      cases e2 : q.f (.obj q.c [] []) ds with
      | none => rw [e2] at g'; exact g'
      | some r => cases r with
        | error c =>
          rw [e2] at g'
          exact fun H' sb => g' H' (s1.trans fun b o q => (sb b o (sm _ _ q)).1 fun z => by subst z; rw [hx] at q; cases q)
        | ok r =>
          rw [e2, bnd_ok] at g'
          intro H2 v Pn fp' sb hP ow nd rv
          have s2 : Same H1 H2 := fun b o q => (sb b o (sm _ _ q)).1 fun z => by subst z; rw [hx] at q; cases q
          obtain ⟨r1, r2⟩ := r
          cases r1 <;> try exact g'.elim
          cases rv
          have hfr : ∀ b, Pn b → H1 b = none := fun b z => by
            rcases (hP b z).1 with h | h
            · exact h ▸ hx
            · exact sm.free h
          refine ⟨rfl, ?_⟩
          have gg : Fre X.K O H Q r2 := by
            cases ow <;> exact g'
          exact gg H2 (.ref x) Pn fp' (s1.trans s2) (fun b z => ⟨s1.free (hfr b z), (hP b z).2⟩) ow nd
/-- all that ownB names -/
theorem sndO (n : Nat) (t : T) (e : Expr) (sc : Scope) (ok : OkX Γ cv lvl X W) (hsc : X.env.scope = sc) (h : chk Γ sc t (.one e) = true) (ho : ownB n t = true) : PE X e (tF X.K cv W n fun ρ => bnd (ev Γ t ρ) (ownG n)) := by
  unfold ownB at ho
  rw [Bool.or_eq_true] at ho
  rcases ho with ho | ho
  · refine PE.weak (sndW n t e X W sc ok hsc h ho) fun σ H Q ⟨O, ρ, env, g⟩ => ⟨O, ρ, env, ?_⟩
    dsimp only at g
    cases e1 : ev Γ t ρ with
    | none => rw [e1] at g; exact g
    | some r => cases r with
      | error c => rw [e1] at g; exact g
      | ok d =>
        rw [e1, bnd_ok] at g
        cases n with
        | zero => exact g
        | succ n => cases d <;> first | exact g | exact g.elim
  · rw [Bool.and_eq_true] at ho
    obtain ⟨hn, ho⟩ := ho
    obtain rfl : n = 1 := eq_of_beq hn
    cases t <;> try exact absurd ho Bool.false_ne_true
    case bin op a b =>
      cases e <;> try exact absurd h Bool.false_ne_true
      simp only [chk, Bool.and_eq_true, decide_eq_true_eq] at h
      obtain ⟨⟨rfl, h1⟩, h2⟩ := h
      refine s_binF op ?_ (snd a _ X W sc ok hsc h1).1 (snd b _ X W sc ok hsc h2).1
      cases op <;> first | exact .inl rfl | exact .inr rfl | exact absurd ho Bool.false_ne_true
    case slc a lo hi =>
      cases e <;> try exact absurd h Bool.false_ne_true
      rename_i ea sl pos
      cases sl <;> try exact absurd h Bool.false_ne_true
      rename_i el eh es p2
      cases es <;> try exact absurd h Bool.false_ne_true
      simp only [chk, Bool.and_eq_true, decide_eq_true_eq] at h
      exact s_slcF (snd a _ X W sc ok hsc h.1.1).1 (sndo lo _ X W sc ok hsc h.1.2) (sndo hi _ X W sc ok hsc h.2)
    case lsx es =>
      cases e <;> try exact absurd h Bool.false_ne_true
      exact s_lsxF (sndx es _ X W sc ok hsc h)
    case new i args =>
      cases e <;> try exact absurd h Bool.false_ne_true
      rename_i f es ks pos
      cases f <;> try exact absurd h Bool.false_ne_true
      rename_i x p
      match es, ks, h with
      | e :: es, [], h =>
        simp only [chk, Bool.and_eq_true, decide_eq_true_eq] at h
        obtain ⟨⟨⟨⟨⟨h1, h2⟩, h3⟩, h4⟩, h5⟩, h6⟩ := h
        cases e1 : Γ.mks[i]? with
        | none => rw [e1] at h1; cases h1
        | some q =>
          rw [e1] at h1 h2 h3
          have st := chks_star h6
          have key := s_newF (pos := pos) (p := p) ok e1 (Option.some.inj h1).symm (Option.some.inj h2) (fun ρ ds hd => by rw [evs_len Γ args ρ ds hd]; exact (Option.some.inj h3).symm) (okName_of h5).1 (gl_of hsc h4) st.2 (snds args _ X W sc ok hsc h6)
          refine PE.weak key fun σ H Q ⟨O, ρ, env, g⟩ => ⟨O, ρ, env, ?_⟩
          simp only [ev, e1] at g
          exact g
      | [], _, h => exact absurd h Bool.false_ne_true
      | _ :: _, _ :: _, h => exact absurd h Bool.false_ne_true
    case dsp ks vs =>
      cases e <;> try exact absurd h Bool.false_ne_true
      rename_i kes ves pos
      simp only [chk, Bool.and_eq_true, decide_eq_true_eq] at h
      obtain ⟨⟨⟨⟨h1, h2⟩, h3⟩, h4⟩, h5⟩ := h
      exact s_dspF (chkks_all h1).1 h5 (by intro z; rw [z] at h3; cases h3) h4 (chkks_all h1).2 (sndP ks vs kes ves X W sc pos ok hsc h5 h1 h2)
    case dsq k v =>
      match e, h with
      | .Dict [some ke] [ve] pos, h =>
        simp only [chk, Bool.and_eq_true] at h
        exact s_dsqF ok.room (snd k _ X W sc ok hsc h.1).1 (snd v _ X W sc ok hsc h.2).1
    case rg1 tp b =>
      cases tp with
      | true => exact absurd ho Bool.false_ne_true
      | false =>
        match e, h with
        | .Call (.Name x p) [.Call (.Name y p2) [e] [] p3] [] pos, h =>
          simp only [chk, Bool.and_eq_true, decide_eq_true_eq] at h
          obtain ⟨⟨⟨⟨⟨h1, h2⟩, h3⟩, h4⟩, h5⟩, h6⟩ := h
          exact s_rg1F ok (by simpa using h1) (gl_of hsc h2) h3 (gl_of hsc h4) h6 (snd b _ X W sc ok hsc h5).1
    case dnew t =>
      cases e <;> try exact absurd h Bool.false_ne_true
      rename_i ks vs pos
      cases ks <;> try exact absurd h Bool.false_ne_true
      cases vs <;> try exact absurd h Bool.false_ne_true
      exact s_dnewF t
    case bck a =>
      cases e <;> try exact absurd h Bool.false_ne_true
      rename_i ea sl pos
      cases sl <;> try exact absurd h Bool.false_ne_true
      rename_i el eh es p2
      cases el <;> try exact absurd h Bool.false_ne_true
      cases eh <;> try exact absurd h Bool.false_ne_true
      cases es <;> try exact absurd h Bool.false_ne_true
      rename_i u
      cases u <;> try exact absurd h Bool.false_ne_true
      rename_i op u p4
      cases op <;> try exact absurd h Bool.false_ne_true
      cases u <;> try exact absurd h Bool.false_ne_true
      rename_i c k p5
      cases c <;> try exact absurd h Bool.false_ne_true
      simp only [chk, Bool.and_eq_true, decide_eq_true_eq] at h
      obtain ⟨rfl, h⟩ := h
      exact s_bckF (snd a _ X W sc ok hsc h).1
/-- x = e, as as_ok, for all that ownB names -/
theorem as_okG (ok : OkS Γ cv lvl X W) {sc : Scope} (hsc : X.env.scope = sc) {n i : Nat} {t : T} {x : Str} {v : Expr} {p' pos : Pos} (hn : lcName sc Γ.N i x = true) (hc : chk Γ sc t (.one v) = true) (ho : ownB n t = true) :
    PS X (.Assign [.Name x p'] v pos) (tAsg (tF X.K cv W n fun ρ => bnd (ev Γ t ρ) (ownG n)) (gName i)) := by
  by_cases h : ownb n t = true
  · refine PS.weak (as_ok ok hsc hn hc h) fun D σ H ⟨O, ρ, env, g⟩ => ⟨O, ρ, env, ?_⟩
    dsimp only at g
    cases e1 : ev Γ t ρ with
    | none => rw [e1] at g; exact g
    | some r => cases r with
      | error c => rw [e1] at g; exact g
      | ok d =>
        rw [e1, bnd_ok] at g
        cases n with
        | zero => exact g
        | succ n => cases d <;> first | exact g | exact g.elim
  · have h1 : own1 t = true := by
      unfold ownB at ho
      rw [Bool.or_eq_true] at ho
      exact ho.elim (fun z => absurd z h) fun z => by rw [Bool.and_eq_true] at z; exact z.2
    have he := sndO n t v sc ok.toOkX hsc hc ho
    simp only [lcName, Bool.and_eq_true, decide_eq_true_eq] at hn
    refine ps_set ok.nd (by rw [ok.nN]; exact hn.1) (by rw [hsc]; exact loc_of hn.2) he ?_ (.inl (ok.fnA x))
    cases v <;> first | rfl | skip
    all_goals (cases t <;> first | exact absurd hc Bool.false_ne_true | exact absurd h1 Bool.false_ne_true | skip)
end
end DE
set_option linter.all false
set_option maxRecDepth 100000
set_option maxHeartbeats 4000000
namespace DE
open PySem PySem.Spec PyProof.Rows L2
section
variable {K : PySem.W.Frag} {cv : Str → Value} {W : WX} {O P Pq : Addr → Prop} {H0 : Ent} {H Hq : Hp} {σ : L2.St} {ρ : List Sl} {D : Ends} {out : Out}
theorem SE.setB (s : SE K O H0 P H σ ρ) : ∀ {l : List (Nat × V)} {m : List (Nat × DE.D)}, Bd K (fun a => O a ∨ P a) H l m → SE K O H0 P H (setV σ l) (setS ρ m) := by
  intro l
  induction l generalizing σ ρ with
  | nil => intro m b; cases b; exact s
  | cons p l ih => intro m b; cases b with | cons r b => exact ih (s.put0 r _) b
/-- the reading of an expression in a body, for any mode -/
theorem go_tD {b : Bool} {f : Env → M DE.D} {k : DE.D → Option Out} {Q : VK} (s : SE K O H0 P H σ ρ) (e : exE (f (envB b ρ)) k = some out) (po : Post K cv W O H0 Pq Hq D out)
    (h : ∀ H' v d, f (envB b ρ) = some (.ok d) → k d = some out → Same H H' → SE K O H0 P H' σ ρ → Rp K (fun a => O a ∨ (b = false ∧ P a)) H' v d → Q v H') : tD K cv W f σ H Q :=
  tD.of (env_b s b) (GoG.wk (exE_go (R := Rp K (fun a => O a ∨ (b = false ∧ P a))) s e po) fun v H' ⟨d, e1, e2, s1, s2, r⟩ => h H' v d e1 e2 s1 s2 r)
theorem go_tF {n : Nat} {f : Env → M DE.D} {k : DE.D → Option Out} {Q : VK} (s : SE K O H0 P H σ ρ) (e : exE (f (stc ρ)) k = some out) (po : Post K cv W O H0 Pq Hq D out)
    (h : ∀ H' v d P' fp, f (stc ρ) = some (.ok d) → k d = some out → Same H H' → SE K O H0 P' H' σ ρ → (∀ a, P a → P' a) → (∀ a ∈ fp, H a = none) → Ow K (fun a => O a ∨ P' a) P' H' n v d fp → fp.Nodup → Q v H') : tF K cv W n f σ H Q := by
  refine ⟨_, _, s.stc, ?_⟩
  cases e1 : f (stc ρ) with
  | none => rw [e1] at e; cases e
  | some r => cases r with
    | error c =>
      rw [e1] at e
      cases e
      exact fun H' s' => po H' σ (s.same.trans s')
    | ok d =>
      rw [e1] at e
      intro H' v P1 fp s1 fr o n
      refine h H' v d (fun a => P a ∨ P1 a) fp e1 e s1 (s.more s1 (fun a z => z.elim .inl fun z => .inr (fr a z)) fun _ => .inl) (fun _ => .inl) (fun a ha => (fr a (o.inP a ha).1).1) (o.tr (fun v d r => r.less fun a z => ?_) fun a _ => ⟨.inr, fun xs e => e⟩) n
      rcases z with z | z | z
      · exact .inl (.inl z)
      · exact .inl (.inr z)
      · exact .inr z
theorem bor_true (ρ : List Sl) : envB true ρ = bor ρ := rfl
theorem fresh_apart {n : Nat} {v : V} {d : DE.D} {fp : List Addr} {H' : Hp} {P' : Addr → Prop} (s : SE K O H0 P H σ ρ) (s' : SE K O H0 P' H' σ ρ) (t : Same H H') (h : ∀ a ∈ fp, H a = none) :
    ∃ fp', SlR K (fun a => O a ∨ P' a) P' H' σ ρ fp' ∧ fp'.Nodup ∧ True := let ⟨fp, r, n⟩ := s'.rep; ⟨fp, r, n, trivial⟩
/-- a slot takes what was newly made -/
theorem SE.putN {n : Nat} {v : V} {d : DE.D} {fq : List Addr} {H' : Hp} {P' : Addr → Prop} (s : SE K O H0 P H σ ρ) (s1 : Same H H') (fr : ∀ a, P' a → H a = none ∧ Mok H' a) (h : Ow K (fun a => (O a ∨ P a) ∨ P' a) P' H' n v d fq) (nq : fq.Nodup) (i : Nat) (hn : n ≠ 3) :
    SE K O H0 (fun a => P a ∨ P' a) H' (σ.set i (some v)) (ρ.set i (some (n, d))) := by
  obtain ⟨fp, r, nd⟩ := s.rep
  have s2 := s.more (P' := fun a => P a ∨ P' a) s1 (fun a z => z.elim .inl fun z => .inr (fr a z)) fun _ => .inl
  have r2 : SlR K (fun a => O a ∨ (P a ∨ P' a)) (fun a => P a ∨ P' a) H' σ ρ fp := r.tr (fun v d r => (r.more fun a z => ?_).mono s1) fun a _ => ⟨.inl, fun xs e => s1 _ _ e⟩
  · obtain ⟨fp', h1, h2, _⟩ := SlR.put (h.tr (OO' := fun a => O a ∨ (P a ∨ P' a)) (P' := fun a => P a ∨ P' a) (H' := H') (fun v d r => r.less fun a z => by
      rcases z with z | z | z
      · exact .inl (.inl z)
      · exact .inl (.inr z)
      · exact .inr z) fun a _ => ⟨.inr, fun xs e => e⟩) nq i r2 nd fun a ha z => by
        obtain ⟨xs, e, _⟩ := (r.inP a z).2
        rw [(fr a (h.inP a ha).1).1] at e
        cases e
    exact ⟨s2.same, s2.odom, s2.oB, s2.pnew, ⟨fp', h1, h2⟩, s.pin.put hn d v i⟩
  · rcases z with z | z | z
    · exact .inl (.inl z)
    · exact .inl (.inr z)
    · exact .inr (fr a z).1
theorem go_tFi {n : Nat} {f : Env → M DE.D} {k : DE.D → Option Out} {Q : VK} (s : SE K O H0 P H σ ρ) (e : exE (f (stc ρ)) k = some out) (po : Post K cv W O H0 Pq Hq D out)
    (h : ∀ H' v d P1 fp, f (stc ρ) = some (.ok d) → k d = some out → Same H H' → FreshP H H' P1 → Ow K (fun a => (O a ∨ P a) ∨ P1 a) P1 H' n v d fp → fp.Nodup → Q v H') : tF K cv W n f σ H Q := by
  refine ⟨_, _, s.stc, ?_⟩
  cases e1 : f (stc ρ) with
  | none => rw [e1] at e; cases e
  | some r => cases r with
    | error c =>
      rw [e1] at e
      cases e
      exact fun H' s' => po H' σ (s.same.trans s')
    | ok d =>
      rw [e1] at e
      exact fun H' v P1 fp s1 fr o n => h H' v d P1 fp e1 e s1 fr o n
/-- the one object of a slot that holds a list of depth one or more -/
theorem SE.lst {i m : Nat} {ds : List DE.D} (s : SE K O H0 P H σ ρ) (e : ρ[i]? = some (some (m + 1, .lst ds))) :
    ∃ a xs, σ[i]? = some (some (.ref a)) ∧ H a = some (.lst xs) ∧ P a ∧ xs.length = ds.length := by
  obtain ⟨fp, r, nd⟩ := s.rep
  obtain ⟨v, fp1, h1, h2, _⟩ := r.get e
  cases h2 with | @ls n a xs ds fp h p r2 => exact ⟨a, xs, h1, h, p, (r2.rps (O := fun _ => False) (fun _ z => z.elim) fun _ _ z => z).length⟩
/-! ### what is written -/
def TgV (K : PySem.W.Frag) (σ : L2.St) (H : Hp) : OT → V → Prop
  | .sl i, v => σ[i]? = some (some v)
  | .fl i f, v => ∃ a C dx fs, σ[i]? = some (some (.ref a)) ∧ H a = some (.ins C dx fs) ∧ Cls K C ∧ NoAttr K C f ∧ fs.lookup f = some v
theorem TgV.same {H' : Hp} (t : Same H H') : ∀ {o : OT} {v : V}, TgV K σ H o v → TgV K σ H' o v
  | .sl _, _, h => h
  | .fl _ _, _, ⟨a, C, dx, fs, h1, h2, h3⟩ => ⟨a, C, dx, fs, h1, t _ _ h2, h3⟩
theorem TgV.inj : ∀ {o : OT} {v w : V}, TgV K σ H o v → TgV K σ H o w → v = w
  | .sl _, _, _, h, h' => by
    have h : σ[_]? = _ := h
    have h' : σ[_]? = _ := h'
    rw [h] at h'; cases h'; rfl
  | .fl _ _, _, _, ⟨a, C, dx, fs, h1, h2, _, _, h3⟩, ⟨a', C', dx', fs', h1', h2', _, _, h3'⟩ => by
    rw [h1] at h1'; cases h1'
    rw [h2] at h2'; cases h2'
    rw [h3] at h3'; cases h3'; rfl
theorem set_self {α : Type} : ∀ {l : List α} {i : Nat} {x : α}, l[i]? = some x → l.set i x = l
  | [], _, _, h => by simp at h
  | y :: l, 0, x, h => by simp at h; subst h; rfl
  | y :: l, i + 1, x, h => by simp at h; simp [set_self h]
theorem fldIx_at {fs : List (Str × Nat)} {f : Str} {j : Nat} (h : fldIx fs f = some j) : ∃ p, fs[j]? = some p ∧ p.1 = f := by
  unfold fldIx at h
  rw [List.findIdx?_eq_some_iff_getElem] at h
  obtain ⟨h1, h2, _⟩ := h
  exact ⟨fs[j], List.getElem?_eq_getElem h1, of_decide_eq_true h2⟩
theorem PinR.putO {E : Ent} (p : PinR E σ ρ) : ∀ {o : OT} {n : Nat} {d0 : DE.D}, getO o ρ = some (n, d0) → ∀ d, PinR E σ (putO o ρ n d)
  | .sl i, n, d0, e, d => by
    simp only [getO] at e
    split at e
    · rename_i x q
      cases e
      exact p.keep q d
    · cases e
  | .fl i f, n, d0, e, d => by
    simp only [DE.putO]
    split
    · rename_i m c fs ds q
      split
      · exact p.keep q _
      · exact p
    · exact p
/-- the owned thing of a target, and another in its place -/
theorem SE.focus {Γ : G} (ok : ∀ p ∈ Γ.cls, ClOk K p) {o : OT} {n : Nat} {d : DE.D} (s : SE K O H0 P H σ ρ) (e : getO o ρ = some (n, d)) (ht : okT Γ o ρ = true) :
    ∃ (fp : List Addr) (v : V) (fp1 : List Addr), fp.Nodup ∧ (∀ a ∈ fp, P a ∧ Mok H a) ∧ TgV K σ H o v ∧ Ow K (fun a => O a ∨ P a) P H n v d fp1 ∧ fp1.Nodup ∧ (∀ a ∈ fp1, a ∈ fp) ∧ ∀ (OO' P' : Addr → Prop) (H' : Hp) (m : Nat) (e : DE.D) (fq : List Addr), (∀ v d, Rp K (fun a => O a ∨ P a) H v d → Rp K OO' H' v d) → (∀ a ∈ fp, a ∉ fp1 → (P a → P' a) ∧ ∀ o, H a = some o → H' a = some o) → Ow K OO' P' H' m v e fq → fq.Nodup → (∀ a ∈ fq, a ∈ fp1 ∨ a ∉ fp) →
      ∃ fp', SlR K OO' P' H' σ (putO o ρ m e) fp' ∧ fp'.Nodup := by
  obtain ⟨fp, r, nd⟩ := s.rep
  cases o with
  | sl i =>
    simp only [getO] at e
    cases q : ρ[i]? with
    | none => rw [q] at e; cases e
    | some x => cases x with
      | none => rw [q] at e; cases e
      | some p =>
        rw [q] at e
        cases e
        obtain ⟨v, fp1, h1, h2, h3, h4, h5⟩ := SlR.mod r nd q
        exact ⟨fp, v, fp1, nd, r.inP, h1, h2, h3, h4, fun OO' P' H' m e fq hr k ho nq ap => let ⟨fp', g1, g2, _⟩ := h5 OO' P' H' m e fq hr k ho nq ap; ⟨fp', g1, g2⟩⟩
  | fl i f =>
    simp only [getO] at e
    split at e
    case h_2 => cases e
    rename_i n0 c fs ds q
    cases q2 : fldIx fs f with
    | none => rw [q2] at e; cases e
    | some j =>
      rw [q2] at e
      dsimp only at e
      obtain ⟨p, hp, hpf⟩ := fldIx_at q2
      rw [hp] at e
      cases q3 : ds[j]? with
      | none => rw [q3] at e; cases e
      | some d0 =>
        rw [q3] at e
        cases e
        obtain ⟨v, fpo, h1, h2, h3, h4, h5⟩ := SlR.mod r nd q
        simp only [okT, q, Bool.and_eq_true, decide_eq_true_eq] at ht
        cases h2 with | @ob _ a dx C _ _ xs _ fpf hH hl hC hPa hf =>
          obtain ⟨hcl, hna⟩ := cls_of ok ht.1 hC
          have n3 := List.nodup_cons.mp h3
          have hk : (fs.map (·.2))[j]? = some p.2 := by rw [List.getElem?_map, hp]; rfl
          obtain ⟨w, fp1, g1, g2, g3, g4, g5⟩ := Owf.at j hf n3.2 hk q3
          have hlk : ((fs.map (·.1)).zip xs).lookup f = some w := by
            have q2' := q2
            rw [fldIx_map] at q2'
            obtain ⟨w', l1, l2⟩ := lookup_zip (by rw [List.length_map]; exact hl) q2'
            rw [g1] at l2
            cases l2
            exact l1
          refine ⟨fp, w, fp1, nd, r.inP, ⟨a, C, dx, _, h1, hH, hcl, hna, hlk⟩, g2, g3, fun b hb => h4 b (List.mem_cons_of_mem _ (g4 b hb)), fun OO' P' H' m e fq hr k ho nq ap => ?_⟩
          have ha : a ∈ fp := h4 a List.mem_cons_self
          have ha1 : a ∉ fp1 := fun z => n3.1 (g4 a z)
          obtain ⟨fpn, f1, f2, f3, f4⟩ := g5 OO' P' H' w m e fq hr (fun b hb nb => k b (h4 b (List.mem_cons_of_mem _ hb)) nb) ho nq fun b hb => (ap b hb).elim .inl fun z => .inr fun y => z (h4 b (List.mem_cons_of_mem _ y))
          rw [set_self g1] at f1
          have hnm : (fs.set j (f, m)).map (·.1) = fs.map (·.1) := by
            rw [List.map_set]
            exact set_self (by rw [List.getElem?_map, hp]; exact congrArg some hpf)
          have hkd : (fs.set j (f, m)).map (·.2) = (fs.map (·.2)).set j m := List.map_set
          have hob : Ow K OO' P' H' (n0 + 1) (.ref a) (.obj c (fs.set j (f, m)) (ds.set j e)) (a :: fpn) :=
            .ob (by rw [hnm]; exact (k a ha ha1).2 _ hH) (by rw [List.length_set]; exact hl) hC ((k a ha ha1).1 hPa) (by rw [hkd]; exact f1)
          have hna2 : a ∉ fpn := fun z => (f3 a z).elim n3.1 fun y => (ap a y).elim ha1 fun x => x ha
          obtain ⟨fp', z1, z2, _⟩ := h5 OO' P' H' (n0 + 1) (.obj c (fs.set j (f, m)) (ds.set j e)) (a :: fpn) hr (fun b hb nb => k b hb fun z => nb (List.mem_cons_of_mem _ (g4 b z))) hob (List.nodup_cons.mpr ⟨hna2, f2⟩)
            (fun b hb => (List.mem_cons.mp hb).elim (fun z => .inl (z ▸ List.mem_cons_self)) fun z => (f3 b z).elim (fun y => .inl (List.mem_cons_of_mem _ y)) fun y => (ap b y).elim (fun x => .inl (List.mem_cons_of_mem _ (g4 b x))) .inr)
          refine ⟨fp', ?_, z2⟩
          simp only [putO, q, q2]
          exact z1
/-- the one list of a target -/
theorem SE.lstT {Γ : G} (ok : ∀ p ∈ Γ.cls, ClOk K p) {o : OT} {m : Nat} {ds : List DE.D} (s : SE K O H0 P H σ ρ) (e : getO o ρ = some (m + 1, .lst ds)) (ht : okT Γ o ρ = true) :
    ∃ a xs, TgV K σ H o (.ref a) ∧ H a = some (.lst xs) ∧ P a ∧ xs.length = ds.length := by
  obtain ⟨fp, v, fp1, _, _, h1, h2, _⟩ := s.focus ok e ht
  cases h2 with | @ls n a xs ds fp h p r2 => exact ⟨a, xs, h1, h, p, (r2.rps (O := fun _ => False) (fun _ z => z.elim) fun _ _ z => z).length⟩
end
end DE
set_option linter.all false
set_option maxRecDepth 100000
set_option maxHeartbeats 4000000
namespace DE
open PySem PySem.Spec PyProof.Rows L2
section
variable {K : PySem.W.Frag} {cv : Str → Value} {W : WX} {O P Pq : Addr → Prop} {H0 : Ent} {H Hq : Hp} {σ : L2.St} {ρ : List Sl} {E : Ends} {out : Out}
theorem go_tF0 {b : Bool} {f : Env → M D} {k : D → Option Out} {Q : VK} (s : SE K O H0 P H σ ρ) (e : exE (f (envB b ρ)) k = some out) (po : Post K cv W O H0 Pq Hq E out)
    (h : ∀ H' v d, f (envB b ρ) = some (.ok d) → k d = some out → Same H H' → SE K O H0 P H' σ ρ → Rp K (fun a => O a ∨ (b = false ∧ P a)) H' v d → Q v H') : tF K cv W 0 f σ H Q := by
  refine ⟨_, _, env_b s b, ?_⟩
  cases e1 : f (envB b ρ) with
  | none => rw [e1] at e; cases e
  | some r => cases r with
    | error c =>
      rw [e1] at e
      cases e
      exact fun H' s' => po H' σ (s.same.trans s')
    | ok d =>
      rw [e1] at e
      intro H' v P1 fp s1 fr o n
      cases o with | fz r => exact h H' v d e1 e s1 (s.mono s1) (r.less fun a z => .inl z)
theorem if_some {p : Prop} [Decidable p] {α : Type} {a b : α} (h : (if p then some a else none) = some b) : p ∧ a = b := by
  by_cases hp : p
  · rw [if_pos hp] at h; exact ⟨hp, Option.some.inj h⟩
  · rw [if_neg hp] at h; cases h
theorem if_some' {p : Prop} [Decidable p] {α : Type} {a : Option α} {b : α} (h : (if p then a else none) = some b) : p ∧ a = some b := by
  by_cases hp : p
  · rw [if_pos hp] at h; exact ⟨hp, h⟩
  · rw [if_neg hp] at h; cases h
theorem Ows.set {OO P' : Addr → Prop} {H' : Hp} : ∀ {vs : List V} {ds : List D} {fp : List Addr} (j : Nat) {v : V} {d : D}, Ows K OO P' H' 0 vs ds fp → Rp K OO H' v d → Ows K OO P' H' 0 (vs.set j v) (ds.set j d) []
  | _, _, _, j, _, _, r, h => .of0 (r.to0.set j h)
/-- one of the inner lists of a slot of depth two -/
theorem Ows.inner {OO P' : Addr → Prop} {H' : Hp} : ∀ {vs : List V} {ds : List D} {fp : List Addr} {j : Nat} {es : List D}, Ows K OO P' H' 1 vs ds fp → fp.Nodup → ds[j]? = some (.lst es) →
    ∃ a xs, vs[j]? = some (.ref a) ∧ H' a = some (.lst xs) ∧ P' a ∧ a ∈ fp ∧ Rps K OO H' xs es ∧ ∀ (ys : List V) (gs : List D), (∀ v d, Rp K OO H' v d → Rp K OO (upd H' a (.lst ys)) v d) → Rps K OO (upd H' a (.lst ys)) ys gs → Ows K OO P' (upd H' a (.lst ys)) 1 vs (ds.set j (.lst gs)) fp
  | _, _, _, _, _, .nil, _, e => by simp at e
  | _, _, _, 0, es, @Ows.cons _ _ _ _ _ v vs d ds fp1 fps h r, nd, e => by
    simp only [List.getElem?_cons_zero, Option.some.injEq] at e
    subst e
    cases h with | @ls n a xs ds2 fp2 h p r2 =>
      have n2 := List.nodup_append.mp nd
      refine ⟨a, xs, rfl, h, p, List.mem_append_left _ List.mem_cons_self, r2.to0, fun ys gs hr rg => ?_⟩
      have e2 : fp2 = [] := Ows.fp0 r2
      subst e2
      refine .cons (.ls upd_same p (.of0 rg)) (r.tr hr fun b hb => ⟨id, fun zs e => by rw [upd_ne]; exact e; exact fun z => n2.2.2 a List.mem_cons_self b hb z.symm⟩)
  | _, _, _, j + 1, es, @Ows.cons _ _ _ _ _ v vs d ds fp1 fps h r, nd, e => by
    have n2 := List.nodup_append.mp nd
    obtain ⟨a, xs, h1, h2, h3, h4, h5, h6⟩ := Ows.inner (j := j) r n2.2.1 (by simpa using e)
    refine ⟨a, xs, by simpa using h1, h2, h3, List.mem_append_right _ h4, h5, fun ys gs hr rg => ?_⟩
    exact .cons (h.tr hr fun b hb => ⟨id, fun zs e => by rw [upd_ne]; exact e; exact fun z => n2.2.2 b hb a h4 z⟩) (h6 ys gs hr rg)
theorem SameB.wr {E : Ent} {H : Hp} {a : Addr} {u : HO} (s : SameB E H) (h : E.B a ∨ E.H a = none) (m : Mo u) : SameB E (upd H a u) := fun b o e => by
  obtain ⟨h1, h2⟩ := s b o e
  by_cases hb : b = a
  · subst hb
    refine ⟨fun n => ?_, fun _ => ⟨u, upd_same, m⟩⟩
    rcases h with h | h
    · exact absurd h n
    · rw [h] at e; cases e
  · exact ⟨fun n => by rw [upd_ne hb]; exact h1 n, fun z => let ⟨u', q, m'⟩ := h2 z; ⟨u', by rw [upd_ne hb]; exact q, m'⟩⟩
theorem Mok.wr {H : Hp} {a b : Addr} {u : HO} (m : Mo u) (h : Mok H b) : Mok (upd H a u) b := by
  by_cases hb : b = a
  · subst hb; exact ⟨u, upd_same, m⟩
  · obtain ⟨o, q, m'⟩ := h; exact ⟨o, by rw [upd_ne hb]; exact q, m'⟩
/-- the list of a target grows -/
theorem SE.wrl {Γ : G} (ok : ∀ p ∈ Γ.cls, ClOk K p) {o : OT} {m : Nat} {ds : List D} (s : SE K O H0 P H σ ρ) (e : getO o ρ = some (m + 1, .lst ds)) (ht : okT Γ o ρ = true) {a : Addr} {xs : List V} (ea : TgV K σ H o (.ref a)) (ha : H a = some (.lst xs)) {v : V} {d : D} {fq : List Addr}
    {P' : Addr → Prop} {Hn : Hp} (t : Same H Hn) (fr : FreshP H Hn P') (ow : Ow K (fun a => (O a ∨ P a) ∨ P' a) P' Hn m v d fq) (nq : fq.Nodup) :
    SE K O H0 (fun a => P a ∨ P' a) (upd Hn a (.lst (xs ++ [v]))) σ (putO o ρ (m + 1) (.lst (ds ++ [d]))) := by
  obtain ⟨fp, w, fp1, nd, inP, h1, h2, h3, h4, h5⟩ := s.focus ok e ht
  have ew := h1.inj ea
  subst ew
  cases h2 with | @ls n a' xs' ds' fp2 h p r2 =>
    rw [h] at ha
    cases ha
    have hn : Hn a = some (.lst xs) := t _ _ h
    have n3 := List.nodup_cons.mp h3
    have ne' : ∀ b, P' b → b ≠ a := fun b z e => by
      have := (fr b z).1
      rw [e, h] at this; cases this
    have hr : ∀ w e, Rp K (fun a => O a ∨ P a) H w e → Rp K (fun b => O b ∨ (P b ∨ P' b)) (upd Hn a (.lst (xs ++ [v]))) w e := fun w e r => by
      refine Rp.wr hn (.inr (.inl p)) ((r.more fun b z => ?_).mono t)
      rcases z with z | z | z
      · exact .inl (.inl z)
      · exact .inl (.inr z)
      · exact .inr (fr b z).1
    have hup : ∀ b, b ≠ a → ∀ zs, Hn b = some zs → upd Hn a (.lst (xs ++ [v])) b = some zs := fun b nb zs e => by rw [upd_ne nb]; exact e
    have ho : Ow K (fun b => O b ∨ (P b ∨ P' b)) (fun b => P b ∨ P' b) (upd Hn a (.lst (xs ++ [v]))) m v d fq := ow.tr (fun w e r => Rp.wr hn (.inr (.inl p)) (r.less fun b z => by
      rcases z with z | z | z
      · exact .inl (.inl z)
      · exact .inl (.inr z)
      · exact .inr z)) fun b hb => ⟨.inr, fun zs e => hup b (ne' b (ow.inP b hb).1) zs e⟩
    have hrow := Ows.append (r2.tr (OO' := fun b => O b ∨ (P b ∨ P' b)) (P' := fun b => P b ∨ P' b) hr fun b hb => ⟨.inl, fun zs e => hup b (fun z => n3.1 (z ▸ hb)) zs (t _ _ e)⟩) (Ows.cons ho (.nil (n := m)))
    rw [List.append_nil] at hrow
    have disj : ∀ b ∈ fq, b ∉ fp := fun b hb z => by
      obtain ⟨zs, e, _⟩ := (inP b z).2
      rw [(fr b (ow.inP b hb).1).1] at e; cases e
    obtain ⟨fp', g1, g2⟩ := h5 (fun b => O b ∨ (P b ∨ P' b)) (fun b => P b ∨ P' b) (upd Hn a (.lst (xs ++ [v]))) (m + 1) (.lst (ds ++ [d])) (a :: (fp2 ++ fq)) hr
      (fun b hb nb => ⟨.inl, fun zs e => hup b (fun z => nb (z ▸ List.mem_cons_self)) zs (t _ _ e)⟩) (.ls upd_same (.inl p) hrow)
      (List.nodup_cons.mpr ⟨fun z => (List.mem_append.mp z).elim n3.1 fun z => disj a z (h4 a List.mem_cons_self), List.nodup_append.mpr ⟨n3.2, nq, fun b hb c hc e => disj c hc (e ▸ h4 b (List.mem_cons_of_mem _ hb))⟩⟩)
      (fun b hb => (List.mem_cons.mp hb).elim (fun z => .inl (z ▸ List.mem_cons_self)) fun z => (List.mem_append.mp z).elim (fun z => .inl (List.mem_cons_of_mem _ z)) fun z => .inr (disj b z))
    refine ⟨(s.same.trans t).wr (s.pnew a p).1 trivial, s.odom, s.oB, fun b z => ?_, ⟨fp', g1, g2⟩, s.pin.putO e _⟩
    rcases z with z | z
    · obtain ⟨q1, q2⟩ := s.pnew b z
      exact ⟨q1, Mok.wr trivial (q2.same t)⟩
    · obtain ⟨q1, q2⟩ := fr b z
      exact ⟨.inr (s.same.free q1), Mok.wr trivial q2⟩
/-- the list of a target, its items frozen, gets other items -/
theorem SE.wrc {Γ : G} (ok : ∀ p ∈ Γ.cls, ClOk K p) {o : OT} {ds : List D} (s : SE K O H0 P H σ ρ) (e : getO o ρ = some (1, .lst ds)) (ht : okT Γ o ρ = true) {a : Addr} {xs : List V} (ea : TgV K σ H o (.ref a)) (ha : H a = some (.lst xs)) :
    Rps K (fun a => O a ∨ P a) H xs ds ∧ ∀ {ys : List V} {es : List D}, Rps K (fun a => O a ∨ P a) H ys es → SE K O H0 P (upd H a (.lst ys)) σ (putO o ρ 1 (.lst es)) := by
  obtain ⟨fp, w, fp1, nd, inP, h1, h2, h3, h4, h5⟩ := s.focus ok e ht
  have ew := h1.inj ea
  subst ew
  cases h2 with | @ls n a' xs' ds' fp2 h p r2 =>
    rw [h] at ha
    cases ha
    refine ⟨r2.to0, fun {ys es} ro => ?_⟩
    have hr : ∀ w e, Rp K (fun a => O a ∨ P a) H w e → Rp K (fun a => O a ∨ P a) (upd H a (.lst ys)) w e := fun w e r => Rp.wr h (.inr p) r
    have hup : ∀ b, b ≠ a → ∀ zs, H b = some zs → upd H a (.lst ys) b = some zs := fun b nb zs e => by rw [upd_ne nb]; exact e
    obtain ⟨fp', g1, g2⟩ := h5 (fun b => O b ∨ P b) P (upd H a (.lst ys)) 1 (.lst es) [a] hr
      (fun b hb nb => ⟨id, fun zs e => hup b (fun z => nb (z ▸ List.mem_cons_self)) zs e⟩) (.ls upd_same p (.of0 (ro.wr h (.inr p)))) (List.nodup_cons.mpr ⟨by simp, .nil⟩)
      (fun b hb => .inl ((List.mem_singleton.mp hb) ▸ List.mem_cons_self))
    exact ⟨s.same.wr (s.pnew a p).1 trivial, s.odom, s.oB, fun b z => ⟨(s.pnew b z).1, Mok.wr trivial (s.pnew b z).2⟩, ⟨fp', g1, g2⟩, s.pin.putO e _⟩
/-- .. an item of an inner list -/
theorem SE.wr2 {i : Nat} {ds es : List D} {j : Nat} (s : SE K O H0 P H σ ρ) (e : ρ[i]? = some (some (2, .lst ds))) (ej : ds[j]? = some (.lst es)) :
    ∃ a xs b ys, σ[i]? = some (some (.ref a)) ∧ H a = some (.lst xs) ∧ xs.length = ds.length ∧ xs[j]? = some (.ref b) ∧ H b = some (.lst ys) ∧ ys.length = es.length ∧ P b ∧ ∀ (l : Nat) (v : V) (d : D), Rp K (fun a => O a ∨ P a) H v d →
      SE K O H0 P (upd H b (.lst (ys.set l v))) σ (ρ.set i (some (2, .lst (ds.set j (.lst (es.set l d)))))) := by
  obtain ⟨fp, r, nd⟩ := s.rep
  obtain ⟨w, fp1, h1, h2, h3, h4, h5⟩ := SlR.mod r nd e
  cases h2 with | @ls n a xs ds' fp2 h p r2 =>
    have n3 := List.nodup_cons.mp h3
    obtain ⟨b, ys, q1, q2, q3, q4, q5, q6⟩ := r2.inner n3.2 ej
    refine ⟨a, xs, b, ys, h1, h, (r2.rps (O := fun _ => False) (fun _ z => z.elim) fun _ _ z => z).length, q1, q2, q5.length, q3, fun l v d o => ?_⟩
    have hr : ∀ w e, Rp K (fun a => O a ∨ P a) H w e → Rp K (fun a => O a ∨ P a) (upd H b (.lst (ys.set l v))) w e := fun w e r => Rp.wr q2 (.inr q3) r
    have hup : ∀ c, c ≠ b → ∀ zs, H c = some zs → upd H b (.lst (ys.set l v)) c = some zs := fun c nb zs e => by rw [upd_ne nb]; exact e
    have nab : a ≠ b := fun z => n3.1 (z ▸ q4)
    obtain ⟨fp', g1, g2, _⟩ := h5 (fun b => O b ∨ P b) P (upd H b (.lst (ys.set l v))) 2 (.lst (ds.set j (.lst (es.set l d)))) (a :: fp2) hr
      (fun c hc nc => ⟨id, fun zs e => hup c (fun z => nc (z ▸ List.mem_cons_of_mem _ q4)) zs e⟩) (.ls (hup a nab _ h) p (q6 _ _ hr ((q5.set l o).wr q2 (.inr q3)))) h3
      (fun c hc => .inl hc)
    exact ⟨s.same.wr (s.pnew b q3).1 trivial, s.odom, s.oB, fun c z => ⟨(s.pnew c z).1, Mok.wr trivial (s.pnew c z).2⟩, ⟨fp', g1, g2⟩, s.pin.setN (by decide) _ i⟩
end
end DE
set_option linter.all false
set_option maxRecDepth 100000
set_option maxHeartbeats 4000000
namespace DE
open PySem PySem.Spec PyProof.Rows L2
section
variable {X : Cx} {Γ : G} {cv : Str → Value} {lvl : Nat} {W : WX}
theorem sub_off {sc : Scope} {env : PySem.Env} (he : env.scope = sc) {ts : List Expr} {v : Expr} {k : Nat} {p2 : Pos} (h : swOff sc ts v = true) : swappedStores [.Tuple ts k p2] v env = pure none := by
  cases v <;> first | rfl | skip
  rename_i vs k2 p3
  unfold swOff at h
  unfold swappedStores
  dsimp only
  rw [Bool.or_eq_true] at h
  by_cases hall : vs.all (foldedForSure 8) = true
  · rw [hall]
    simp only [if_true]
    split
    · rfl
    · split
      · rfl
      · split <;> rfl
  have h : decide (3 < ts.length) = true ∨ _ := h.imp_left fun z => by
    rw [Bool.or_eq_true] at z
    exact z.resolve_right hall
  rcases h with h | h
  · have h3 : 3 < ts.length := of_decide_eq_true h
    rw [if_pos]
    have e2 : (ts.length == 2) = false := beq_eq_false_iff_ne.mpr (by omega)
    have e3 : (ts.length == 3) = false := beq_eq_false_iff_ne.mpr (by omega)
    rw [e2, e3]
    rfl
  have hlt : (ts.filterMap fun e => match e with
      | .Name id pos => if (env.kindOf id == some .local && pos.line == (ts.head?.map (·.pos.line)).getD 0) = true then some id else none
      | _ => none).length < ts.length := by
    obtain ⟨e, he1, he2⟩ := List.any_eq_true.mp h
    have key : ∀ (f : Expr → Option Str) (l : List Expr), e ∈ l → f e = none → (l.filterMap f).length < l.length := by
      intro f l
      induction l with
      | nil => intro h; cases h
      | cons x l ih =>
        intro hm hf
        have hle := List.length_filterMap_le f l
        rcases List.mem_cons.mp hm with rfl | hm
        · rw [List.filterMap_cons_none hf]
          exact Nat.lt_succ_of_le hle
        · cases hx : f x with
          | none => rw [List.filterMap_cons_none hx]; exact Nat.lt_succ_of_le hle
          | some y => rw [List.filterMap_cons_some hx]; exact Nat.succ_lt_succ (ih hm hf)
    refine key _ ts he1 ?_
    cases e <;> first | rfl | skip
    rename_i x pos
    have he2 : (!decide (sc.names.lookup x = some .local)) = true := he2
    have hk : (env.kindOf x == some .local) = false := by
      rw [Bool.not_eq_true', decide_eq_false_iff_not] at he2
      cases hq : (env.kindOf x == some NameKind.local) with
      | false => rfl
      | true => exact absurd (by rw [← he]; exact eq_of_beq hq) he2
    dsimp only
    rw [hk]
    rfl
  split
  · rfl
  · split
    · rfl
    · split
      · rfl
      · rename_i hc
        exfalso
        apply hc
        rw [Bool.or_eq_true]
        left
        exact bne_iff_ne.mpr (Nat.ne_of_lt hlt)
theorem sw_tup {ts : List Expr} {v : Expr} {k : Nat} {p2 : Pos} {l : Nat} {env : PySem.Env} (h : isLc v = false) : swapsWithSole [.Tuple ts k p2] v l env = pure false := by
  cases v <;> first | rfl | cases h
theorem sw_sub {a b : Expr} {v : Expr} {p2 : Pos} {l : Nat} {env : PySem.Env} (h : isLc v = false) : swapsWithSole [.Subscript a b p2] v l env = pure false := by
  cases v <;> first | rfl | cases h
theorem sws_sub {a b : Expr} {v : Expr} {p2 : Pos} {env : PySem.Env} : swappedStores [.Subscript a b p2] v env = pure none := by
  cases v <;> rfl
theorem sw_par {x y : Str} {px py : Pos} {k k2 : Nat} {p p3 : Pos} {a b : Expr} {env : PySem.Env} (hk : env.scope.kind = .function) (hx : env.scope.names.lookup x = some .local) (hy : env.scope.names.lookup y = some .local) (ne : x ≠ y) (hl : (py.line == px.line) = true) (sa : noStar a = true) (sb : noStar b = true)
    (hf : (foldedForSure 8 a && foldedForSure 8 b) = false) (hc : (constantsAlone 8 a && constantsAlone 8 b) = false) :
    swappedStores [.Tuple [.Name x px, .Name y py] k p] (.Tuple [a, b] k2 p3) env = pure (some [x, y]) := by
  have kx : env.kindOf x = some .local := hx
  have ky : env.kindOf y = some .local := hy
  have hb : env.blockKind = .function := by unfold PySem.Env.blockKind; rw [hk]; rfl
  have st : ([a, b].any fun | .Starred .. => true | _ => false) = false := by
    rw [List.any_eq_false]
    intro e he
    have hn : noStar e = true := by
      simp only [List.mem_cons, List.not_mem_nil, or_false] at he
      rcases he with rfl | rfl <;> assumption
    cases e <;> first | exact absurd hn Bool.false_ne_true | exact Bool.false_ne_true
  have hf' : [a, b].all (foldedForSure 8) = false := by simpa using hf
  have hc' : [a, b].all (constantsAlone 8) = false := by simpa using hc
  have hnm : ([Expr.Name x px, Expr.Name y py].filterMap fun | .Name id pos => if env.kindOf id == some .local && pos.line == px.line then some id else none | _ => none) = [x, y] := by
    simp [kx, ky, eq_of_beq hl]
  have hd : ([x, y] : List Str).eraseDups = [x, y] := by
    have : (y == x) = false := beq_eq_false_iff_ne.mpr fun z => ne z.symm
    simp [List.eraseDups_cons, this]
  unfold swappedStores
  simp only [hb, List.head?_cons, Option.map_some, Option.getD_some, Expr.pos, hf', hc', if_false, Bool.false_eq_true]
  refine (if_neg (by simp)).trans ((if_neg (Bool.eq_false_iff.mp st)).trans ((if_neg ?_).trans ?_))
  · intro z
    have e1 : ([x, y] : List Str).length = 2 := rfl
    have z' : (([x, y] : List Str).length != 2 || ([x, y] : List Str).eraseDups.length != ([x, y] : List Str).length) = true := by
      rw [← hnm]; exact z
    rw [hd] at z'
    simp at z'
  · exact congrArg (fun l => (pure (some l) : Sem (Option (List Str)))) hnm
theorem sw_par3 {x y z : Str} {px py pz : Pos} {k k2 : Nat} {p p3 : Pos} {a b c : Expr} {env : PySem.Env} (hk : env.scope.kind = .function) (hx : env.scope.names.lookup x = some .local) (hy : env.scope.names.lookup y = some .local) (hz : env.scope.names.lookup z = some .local) (ne : x ≠ y) (ne2 : x ≠ z) (ne3 : y ≠ z) (hl : (py.line == px.line) = true) (hl2 : (pz.line == px.line) = true) (sa : noStar a = true) (sb : noStar b = true) (sc : noStar c = true)
    (hf : (foldedForSure 8 a && (foldedForSure 8 b && foldedForSure 8 c)) = false) (hc : (constantsAlone 8 a && (constantsAlone 8 b && constantsAlone 8 c)) = false) :
    swappedStores [.Tuple [.Name x px, .Name y py, .Name z pz] k p] (.Tuple [a, b, c] k2 p3) env = pure (some [x, y, z]) := by
  have kx : env.kindOf x = some .local := hx
  have ky : env.kindOf y = some .local := hy
  have kz : env.kindOf z = some .local := hz
  have hb : env.blockKind = .function := by unfold PySem.Env.blockKind; rw [hk]; rfl
  have st : ([a, b, c].any fun | .Starred .. => true | _ => false) = false := by
    rw [List.any_eq_false]
    intro e he
    have hn : noStar e = true := by
      simp only [List.mem_cons, List.not_mem_nil, or_false] at he
      rcases he with rfl | rfl | rfl <;> assumption
    cases e <;> first | exact absurd hn Bool.false_ne_true | exact Bool.false_ne_true
  have hf' : [a, b, c].all (foldedForSure 8) = false := by simpa using hf
  have hc' : [a, b, c].all (constantsAlone 8) = false := by simpa using hc
  have hnm : ([Expr.Name x px, Expr.Name y py, Expr.Name z pz].filterMap fun | .Name id pos => if env.kindOf id == some .local && pos.line == px.line then some id else none | _ => none) = [x, y, z] := by
    simp [kx, ky, kz, eq_of_beq hl, eq_of_beq hl2]
  have hd : ([x, y, z] : List Str).eraseDups = [x, y, z] := by
    have h1 : (y == x) = false := beq_eq_false_iff_ne.mpr fun w => ne w.symm
    have h2 : (z == x) = false := beq_eq_false_iff_ne.mpr fun w => ne2 w.symm
    have h3 : (z == y) = false := beq_eq_false_iff_ne.mpr fun w => ne3 w.symm
    simp [List.eraseDups_cons, h1, h2, h3]
  unfold swappedStores
  simp only [hb, List.head?_cons, Option.map_some, Option.getD_some, Expr.pos, hf', hc', if_false, Bool.false_eq_true]
  refine (if_neg (by simp)).trans ((if_neg (Bool.eq_false_iff.mp st)).trans ((if_neg ?_).trans ?_))
  · intro w
    have w' : (([x, y, z] : List Str).length != 3 || ([x, y, z] : List Str).eraseDups.length != ([x, y, z] : List Str).length) = true := by
      rw [← hnm]; exact w
    rw [hd] at w'
    simp at w'
  · exact congrArg (fun l => (pure (some l) : Sem (Option (List Str)))) hnm
end
end DE
set_option linter.all false
set_option maxRecDepth 100000
set_option maxHeartbeats 4000000
namespace DE
open PySem PySem.Spec PyProof.Rows L2
section
variable {Γ : G} {cv : Str → Value} {lvl : Nat}
theorem def_loc {X : Cx} {W : WX} (ok : OkS Γ cv lvl X W) {sc : Scope} (hsc : X.env.scope = sc) (x : Str) (h : locB sc x = true) : L2.Loc X.env.scope x ∧ (X.fn x = true ∨ X.env.scope.names.lookup x = some .local) := ⟨by rw [hsc]; exact loc_of h, .inl (ok.fnA x)⟩
theorem exE_some {α : Type} {m : M α} {k : α → Option Out} {o : Out} (h : exE m k = some o) : (∃ d, m = some (.ok d) ∧ k d = some o) ∨ (∃ c, m = some (.error c) ∧ o = .exc c) := by
  cases m with
  | none => cases h
  | some r => cases r with
    | ok d => exact .inl ⟨d, rfl, h⟩
    | error c => cases h; exact .inr ⟨c, rfl, rfl⟩
theorem nameE {X : Cx} {W : WX} (ok : OkS Γ cv lvl X W) {sc : Scope} (hsc : X.env.scope = sc) {i : Nat} {x : Str} {p : Pos} (h1 : Γ.N[i]? = some x) (h2 : visB sc x = true) (h3 : okName x = true) : PE X (.Name x p) (tVar i) :=
  pe_var (by rw [ok.nN]; exact h1) (by rw [hsc]; exact vis_of h2) (okName_of h3).1 (okName_of h3).2
theorem none_wr {H H' : Hp} {a : Addr} {xs ys : List V} (h : H' a = some (.lst xs)) (s : Same H H') : ∀ b, upd H' a (.lst ys) b = none → H b = none := fun b z => by
  by_cases e : b = a
  · subst e; rw [upd_same] at z; cases z
  · rw [upd_ne e] at z; exact s.free z
theorem none_wrM {H H' : Hp} {a : Addr} {u : HO} (s : Same H H') (h : ∃ o, H' a = some o) : ∀ b, upd H' a u b = none → H b = none := fun b z => by
  by_cases e : b = a
  · subst e; rw [upd_same] at z; cases z
  · rw [upd_ne e] at z; exact s.free z
def tTg (K : PySem.W.Frag) (o : OT) : TE := fun σ H Q => ∃ v, TgV K σ H o v ∧ Q v H
theorem pe_tg {X : Cx} {W : WX} (ok : OkS Γ cv lvl X W) {sc : Scope} (hsc : X.env.scope = sc) {o : OT} {x : Expr} (h : chkO Γ sc o x = true) : PE X x (tTg X.K o) := by
  cases o with
  | sl i =>
    cases x <;> try exact absurd h Bool.false_ne_true
    simp only [chkO, Bool.and_eq_true, decide_eq_true_eq] at h
    exact PE.weak (nameE ok hsc h.1.1 h.1.2 h.2) fun σ H Q ⟨v, h1, q⟩ => ⟨v, h1, q⟩
  | fl i f =>
    cases x <;> try exact absurd h Bool.false_ne_true
    rename_i e g pos
    cases e <;> try exact absurd h Bool.false_ne_true
    simp only [chkO, Bool.and_eq_true, decide_eq_true_eq] at h
    obtain ⟨⟨⟨h1, h2⟩, h3⟩, rfl⟩ := h
    exact PE.weak (pe_fld (nameE ok hsc h1 h2 h3) rfl) fun σ H Q ⟨v, ⟨a, C, dx, fs, q1, q2, q3, q4, q5⟩, q⟩ => ⟨.ref a, q1, a, C, dx, fs, v, rfl, q2, q3, q4, q5, q⟩
theorem tg_base {sc : Scope} {o : OT} {x : Expr} (h : chkO Γ sc o x = true) (m : Str) (env : PySem.Env) : attributeBase x m env (eval x env) = eval x env := by
  cases o <;> cases x <;> first | rfl | exact absurd h Bool.false_ne_true
theorem st_app {X : Cx} {W : WX} (ok : OkS Γ cv lvl X W) {sc : Scope} (hsc : X.env.scope = sc) {o : OT} {n : Nat} {b : Bool} {e : T} {x : Expr} {m : Str} {v : Expr} {apos cpos pos : Pos} {fu : Nat} (h : chkS Γ sc (.app o n b e) (.Expr (.Call (.Attribute x m apos) [v] [] cpos) pos) = true) :
    PS X (.Expr (.Call (.Attribute x m apos) [v] [] cpos) pos) (tS X.K cv W (evS Γ fu (.app o n b e))) := by
  simp only [chkS, Bool.and_eq_true, decide_eq_true_eq] at h
  obtain ⟨⟨⟨⟨⟨⟨h1, rfl⟩, h5⟩, h6⟩, h7⟩, h8⟩, h9⟩ := h
  have he := sndW n e v X W sc ok.toOkX hsc h5 h6
  have hm := pe_bm (X := X) PySem.F.plainAttrs_list PySem.F.slot_list_append PySem.F.type_list_append mt_append (pe_tg ok hsc h1) (pa_cons he pa_nil (stE h7 [] X.env)) (cpos := cpos) (apos := apos) (tg_base h1 _ _) (by rw [stE h7]; rfl) h9 (stE h7 [] X.env) rfl
  refine PS.weak (ps_expr hm) fun E σ H ⟨O, H0, P, ρ, out, s, ev, po⟩ => ?_
  simp only [evS] at ev
  split at ev
  case h_2 => cases ev
  rename_i m ds e0
  obtain ⟨⟨rfl, hz, ht⟩, ev2⟩ := if_some' ev
  obtain ⟨a, xs, ea, ha, hp, hl⟩ := s.lstT ok.cls e0 ht
  refine ⟨.ref a, ea, .inl ⟨rfl, _, SqL.of ha⟩, ?_⟩
  cases n with
  | zero =>
    refine go_tF0 s ev2 po fun H1 w d e1 ek s1 s2 r => ⟨a, xs, w, rfl, rfl, s1 _ _ ha, by rw [hl]; exact hz, ?_⟩
    obtain ⟨hk, rfl⟩ := if_some ek
    have r' := keep_b hk r
    have := s.wrl ok.cls e0 ht ea ha s1 (P' := fun _ => False) freshP_none (.fz (r'.less fun a z => z.elim id False.elim)) .nil
    exact po _ σ _ (none_wr (s1 _ _ ha) s1) ⟨(Stay.of s1).trans (.wr (s1 _ _ ha) (.inr hp)), fun a z => z.elim .inl False.elim⟩ this
  | succ n =>
    have hb : b = false := by simpa using h8
    subst hb
    refine go_tFi s ev2 po fun H1 w d P1 fp e1 ek s1 fr ow nd => ⟨a, xs, w, rfl, rfl, s1 _ _ ha, by rw [hl]; exact hz, ?_⟩
    obtain ⟨_, rfl⟩ := if_some ek
    exact po _ σ _ (none_wr (s1 _ _ ha) s1) ⟨(Stay.of s1).trans (.wr (s1 _ _ ha) (.inr hp)), fun a z => z.elim .inl fun z => .inr (fr a z).1⟩ (s.wrl ok.cls e0 ht ea ha s1 fr ow nd)
theorem st_apr {X : Cx} {W : WX} (ok : OkS Γ cv lvl X W) {sc : Scope} (hsc : X.env.scope = sc) {o : OT} {e : T} {x : Expr} {m : Str} {v : Expr} {apos cpos pos : Pos} {fu : Nat} (h : chkS Γ sc (.apr o e) (.Expr (.Call (.Attribute x m apos) [v] [] cpos) pos) = true) :
    PS X (.Expr (.Call (.Attribute x m apos) [v] [] cpos) pos) (tS X.K cv W (evS Γ fu (.apr o e))) := by
  simp only [chkS, Bool.and_eq_true, decide_eq_true_eq] at h
  obtain ⟨⟨⟨⟨⟨h1, rfl⟩, h5⟩, h6⟩, h7⟩, h9⟩ := h
  have he := sndO 1 e v sc ok.toOkX hsc h5 h6
  have hm := pe_bm (X := X) PySem.F.plainAttrs_list PySem.F.slot_list_append PySem.F.type_list_append mt_append (pe_tg ok hsc h1) (pa_cons he pa_nil (stE h7 [] X.env)) (cpos := cpos) (apos := apos) (tg_base h1 _ _) (by rw [stE h7]; rfl) h9 (stE h7 [] X.env) rfl
  refine PS.weak (ps_expr hm) fun E σ H ⟨O, H0, P, ρ, out, s, ev, po⟩ => ?_
  simp only [evS] at ev
  split at ev
  case h_2 => cases ev
  rename_i ds e0
  obtain ⟨⟨hz, ht⟩, ev2⟩ := if_some' ev
  obtain ⟨a, xs, ea, ha, hp, hl⟩ := s.lstT ok.cls e0 ht
  refine ⟨.ref a, ea, .inl ⟨rfl, _, SqL.of ha⟩, ?_⟩
  refine ⟨O, bor ρ, s.bor, ?_⟩
  dsimp only
  cases e1 : bnd (DE.ev Γ e (bor ρ)) (ownG 1) with
  | none => rw [e1] at ev2; cases ev2
  | some r => cases r with
    | error c => rw [e1] at ev2; cases ev2; exact fun H' s' => po H' σ (s.same.trans s')
    | ok d =>
      rw [e1] at ev2
      obtain ⟨hk, rfl⟩ := if_some ev2
      intro H1 w P1 fp s1 fr o2 nd
      refine ⟨a, xs, w, rfl, rfl, s1 _ _ ha, by rw [hl]; exact hz, ?_⟩
      have r : Rp X.K (fun a => (O a ∨ P a) ∨ False) H1 w d := by
        cases d <;> try (cases hk; done)
        cases o2 with | @ls n a xs ds fp2 g1 g2 g3 =>
          refine .lst g1 (fun z => ?_) (Rps.noL hk g3.to0)
          obtain ⟨u, e3⟩ := s.dom _ (z.elim id False.elim)
          rw [(fr a g2).1] at e3; cases e3
      have := s.wrl ok.cls e0 ht ea ha s1 (P' := fun _ => False) freshP_none (.fz r) .nil
      exact po _ σ _ (none_wr (s1 _ _ ha) s1) ⟨(Stay.of s1).trans (.wr (s1 _ _ ha) (.inr hp)), fun a z => z.elim .inl False.elim⟩ this
theorem st_ext {X : Cx} {W : WX} (ok : OkS Γ cv lvl X W) {sc : Scope} (hsc : X.env.scope = sc) {o : OT} {b : Bool} {e : T} {x : Expr} {m : Str} {v : Expr} {apos cpos pos : Pos} {fu : Nat} (h : chkS Γ sc (.ext o b e) (.Expr (.Call (.Attribute x m apos) [v] [] cpos) pos) = true) :
    PS X (.Expr (.Call (.Attribute x m apos) [v] [] cpos) pos) (tS X.K cv W (evS Γ fu (.ext o b e))) := by
  simp only [chkS, Bool.and_eq_true, decide_eq_true_eq] at h
  obtain ⟨⟨⟨⟨h1, rfl⟩, h5⟩, h7⟩, h9⟩ := h
  have he := (snd e (.one v) X W sc ok.toOkX hsc h5).1
  have hm := pe_bm (X := X) PySem.F.plainAttrs_list PySem.F.slot_list_extend PySem.F.type_list_extend mt_extend (pe_tg ok hsc h1) (pa_cons he pa_nil (stE h7 [] X.env)) (cpos := cpos) (apos := apos) (tg_base h1 _ _) (by rw [stE h7]; rfl) h9 (stE h7 [] X.env) rfl
  refine PS.weak (ps_expr hm) fun E σ H ⟨O, H0, P, ρ, out, s, ev, po⟩ => ?_
  simp only [evS] at ev
  split at ev
  case h_2 => cases ev
  rename_i ds e0
  obtain ⟨ht, ev2⟩ := if_some' ev
  obtain ⟨a, xs, ea, ha, hp, hl⟩ := s.lstT ok.cls e0 ht
  refine ⟨.ref a, ea, .inl ⟨rfl, _, SqL.of ha⟩, ?_⟩
  refine go_tD s ev2 po fun H1 w d e1 ek s1 s2 r => ?_
  cases d <;> try (cases ek; done)
  rename_i es
  obtain ⟨⟨hz, hk⟩, rfl⟩ := if_some ek
  cases r with | @lst c ys _ h1' n' r' =>
    have s2 := s.mono s1
    obtain ⟨r0, wr⟩ := s2.wrc ok.cls e0 ht (ea.same s1) (s1 _ _ ha)
    have r2 : Rps X.K (fun a => O a ∨ P a) H1 ys es := by
      rcases hk with rfl | hk
      · exact r'.less fun a z => z.elim .inl fun z => .inr ⟨rfl, z⟩
      · exact Rps.noL hk r'
    refine ⟨a, c, xs, ys, rfl, rfl, s1 _ _ ha, h1', by rw [hl, r'.length]; exact hz, ?_⟩
    exact po _ σ _ (none_wr (s1 _ _ ha) s1) ⟨(Stay.of s1).trans (.wr (s1 _ _ ha) (.inr hp)), fun a z => .inl z⟩ (wr (r0.append r2))
theorem rps_dropLast {K : PySem.W.Frag} {O : Addr → Prop} {H : Hp} {xs : List V} {ds : List D} (r : Rps K O H xs ds) : Rps K O H xs.dropLast ds.dropLast := by
  rw [List.dropLast_eq_take, List.dropLast_eq_take, r.length]
  exact r.take _
theorem TgV.set {K : PySem.W.Frag} {σ : L2.St} {H : Hp} {i : Nat} {w : Option V} : ∀ {o : OT} {v : V}, notAt i o = true → TgV K σ H o v → TgV K (σ.set i w) H o v
  | .sl j, v, h, e => by
    have h : i ≠ j := of_decide_eq_true h
    show (σ.set i w)[j]? = _
    rw [List.getElem?_set_ne h]; exact e
  | .fl j f, v, h, ⟨a, C, dx, fs, h1, h2⟩ => by
    have h : i ≠ j := of_decide_eq_true h
    exact ⟨a, C, dx, fs, by rw [List.getElem?_set_ne h]; exact h1, h2⟩
theorem st_pop {X : Cx} {W : WX} (ok : OkS Γ cv lvl X W) {sc : Scope} (hsc : X.env.scope = sc) {i : Nat} {o : OT} {x : Expr} {y m : Str} {p1 apos cpos pos : Pos} {fu : Nat} (h : chkS Γ sc (.pop i o) (.Assign [.Name y p1] (.Call (.Attribute x m apos) [] [] cpos) pos) = true) :
    PS X (.Assign [.Name y p1] (.Call (.Attribute x m apos) [] [] cpos) pos) (tS X.K cv W (evS Γ fu (.pop i o))) := by
  simp only [chkS, lcName, Bool.and_eq_true, decide_eq_true_eq] at h
  obtain ⟨⟨⟨⟨h1, h2⟩, h3⟩, rfl⟩, h5⟩ := h
  have hm := pe_bm0 (X := X) PySem.F.plainAttrs_list PySem.F.slot_list_pop PySem.F.type_list_pop mt_pop (pe_tg ok hsc h3) (cpos := cpos) (apos := apos) (tg_base h3 _ _) h5
  refine PS.weak (ps_set ok.nd (by rw [ok.nN]; exact h1) (by rw [hsc]; exact loc_of h2) hm rfl (.inl (ok.fnA y))) fun E σ H ⟨O, H0, P, ρ, out, s, ev, po⟩ => ?_
  simp only [evS] at ev
  split at ev
  case h_2 => cases ev
  rename_i ds e0
  obtain ⟨⟨ht, hn⟩, ev2⟩ := if_some' ev
  cases q : ds[ds.length - 1]? with
  | none => rw [q] at ev2; cases ev2
  | some d =>
    rw [q] at ev2
    cases ev2
    obtain ⟨a, xs, ea, ha, hp, hl⟩ := s.lstT ok.cls e0 ht
    obtain ⟨r0, wr⟩ := s.wrc ok.cls e0 ht ea ha
    obtain ⟨v, h6, h7⟩ := r0.get q
    refine ⟨.ref a, ea, .inl ⟨rfl, _, SqL.of ha⟩, a, xs, v, rfl, rfl, ha, by rw [hl]; exact h6, ?_⟩
    have s3 := (wr (rps_dropLast r0)).put0 (h7.wr ha (.inr hp)) i
    exact po _ _ _ (none_wr ha (Same.refl _)) ⟨.wr ha (.inr hp), fun a z => .inl z⟩ s3
theorem st_popA {X : Cx} {W : WX} (ok : OkS Γ cv lvl X W) {sc : Scope} (hsc : X.env.scope = sc) {i k c : Nat} {o : OT} {x : Expr} {y z m : Str} {c' : Int} {kk} {p1 p2 p3 p4 p5 apos cpos pos : Pos} {fu : Nat} (h : chkS Γ sc (.popA i k c o) (.Assign [.Name y p1] (.BinOp (.Name z p2) .Add (.Subscript (.Call (.Attribute x m apos) [] [] cpos) (.Constant (.int c') kk p3) p4) p5) pos) = true) :
    PS X (.Assign [.Name y p1] (.BinOp (.Name z p2) .Add (.Subscript (.Call (.Attribute x m apos) [] [] cpos) (.Constant (.int c') kk p3) p4) p5) pos) (tS X.K cv W (evS Γ fu (.popA i k c o))) := by
  simp only [chkS, lcName, Bool.and_eq_true, decide_eq_true_eq] at h
  obtain ⟨⟨⟨⟨⟨⟨⟨⟨h1, h2⟩, h3⟩, h4⟩, h5⟩, h6⟩, rfl⟩, h7⟩, rfl⟩ := h
  have hm := pe_bm0 (X := X) PySem.F.plainAttrs_list PySem.F.slot_list_pop PySem.F.type_list_pop mt_pop (pe_tg ok hsc h6) (cpos := cpos) (apos := apos) (tg_base h6 _ _) h7
  have he := pe_op (pos := p5) (op := .Add) op_add (nameE ok hsc h3 h4 h5 (p := p2)) (pe_ix (pos := p4) ix_tup hm (pe_int (X := X) (i := (c : Int)) (j := kk) (pos := p3)) (plainIx (b := .Constant (.int (c : Int)) kk p3) rfl))
  refine PS.weak (ps_set ok.nd (by rw [ok.nN]; exact h1) (by rw [hsc]; exact loc_of h2) he rfl (.inl (ok.fnA y))) fun E σ H ⟨O, H0, P, ρ, out, s, ev, po⟩ => ?_
  simp only [evS] at ev
  split at ev
  case h_2 => cases ev
  rename_i ds e0
  obtain ⟨⟨ht, hn⟩, ev2⟩ := if_some' ev
  split at ev2
  case h_2 => cases ev2
  rename_i a ek
  split at ev2
  case h_2 => cases ev2
  rename_i es q
  split at ev2
  case h_2 => cases ev2
  rename_i b eb
  cases ev2
  obtain ⟨vk, f1, f2⟩ := s.bor.at' k (.int a) (by unfold bor; rw [List.getElem?_map, ek]; rfl)
  cases f2
  obtain ⟨l, xs, ea, ha, hp, hl⟩ := s.lstT ok.cls e0 ht
  obtain ⟨r0, wr⟩ := s.wrc ok.cls e0 ht ea ha
  obtain ⟨v, h8, h9⟩ := r0.get q
  have h10 := h9.wr ha (.inr hp) (ys := xs.dropLast)
  cases h10 with | @tup ta ws _ hT rs =>
    obtain ⟨w, g1, g2⟩ := rs.get eb
    cases g2
    have hc : atI ws (c : Int) = some (.int b) := by
      unfold atI ixN
      have := (List.getElem?_eq_some_iff.mp g1).1
      rw [if_pos (by omega), if_pos (by omega)]
      exact g1
    have s3 := (wr (rps_dropLast r0)).put0 (Rp.int (K := X.K) (O := fun a => O a ∨ P a) (a + b)) i
    exact ⟨.int a, f1, .ref l, ea, .inl ⟨rfl, _, SqL.of ha⟩, l, xs, .ref ta, rfl, rfl, ha, by rw [hl]; exact h8, ta, ws, (c : Int), .int b, rfl, rfl, hT, hc, a, b, rfl, rfl, po _ _ _ (none_wr ha (Same.refl _)) ⟨.wr ha (.inr hp), fun a z => .inl z⟩ s3⟩
theorem asg_sub {o j : Expr} {p2 : Pos} {env : PySem.Env} (h : noSlice j = true) : ∀ v : Value, assign (.Subscript o j p2) env v = (do
    let ov ← holding [v] (eval o env)
    let iv ← holding [v, ov] (eval j env)
    standAt p2
    holding [v, ov, iv] (setItem ov iv v)
    release [v, ov, iv] []) := by
  intro v
  cases j <;> first | rfl | exact absurd h Bool.false_ne_true
theorem ixN_lt {n : Nat} {k : Int} {j : Nat} (h : ixN n k = some j) : j < n := (ixN_seq h).2.1
theorem st_set {X : Cx} {W : WX} (ok : OkS Γ cv lvl X W) {sc : Scope} (hsc : X.env.scope = sc) {o : OT} {b : Bool} {ix e : T} {x : Expr} {j v : Expr} {p2 pos : Pos} {fu : Nat} (h : chkS Γ sc (.set o b ix e) (.Assign [.Subscript x j p2] v pos) = true) :
    PS X (.Assign [.Subscript x j p2] v pos) (tS X.K cv W (evS Γ fu (.set o b ix e))) := by
  simp only [chkS, Bool.and_eq_true, decide_eq_true_eq, Bool.not_eq_true'] at h
  obtain ⟨⟨⟨⟨h1, h4⟩, h5⟩, h6⟩, h7⟩ := h
  have he := (snd e (.one v) X W sc ok.toOkX hsc h5).1
  have hj := (snd ix (.one j) X W sc ok.toOkX hsc h4).1
  refine PS.weak (ps_asg he (pg_sub (pe_tg ok hsc h1) hj set_list (asg_sub h6)) (sw_sub h7) sws_sub) fun E σ H ⟨O, H0, P, ρ, out, s, ev, po⟩ => ?_
  simp only [evS] at ev
  split at ev
  case h_2 => cases ev
  rename_i ds hq
  obtain ⟨ht, ev⟩ := if_some' ev
  refine go_tD s ev po fun H1 w d e1 ek s1 s2 r => ?_
  obtain ⟨a, xs, ea, ha, hp, hl⟩ := s2.lstT ok.cls hq ht
  refine ⟨.ref a, ea, ?_⟩
  refine go_tD (b := true) s2 ek po fun H2 u dj e3 ek3 s3 s4 r2 => ?_
  cases dj <;> try (cases ek3; done)
  rename_i k
  cases r2
  dsimp only at ek3
  split at ek3
  case h_2 => cases ek3
  rename_i jj hj2
  obtain ⟨hk, rfl⟩ := if_some ek3
  refine ⟨a, xs, k, jj, rfl, rfl, s3 _ _ ha, by rw [hl]; exact hj2, ?_⟩
  obtain ⟨r0, wr⟩ := s4.wrc ok.cls hq ht (ea.same s3) (s3 _ _ ha)
  exact po _ σ _ (none_wr (s3 _ _ ha) (s1.trans s3)) ⟨(Stay.of (s1.trans s3)).trans (.wr (s3 _ _ ha) (.inr hp)), fun a z => .inl z⟩ (wr (r0.set jj ((keep_b hk r).mono s3)))
theorem sw_subA {a b : Expr} {v : Expr} {p2 : Pos} {l : Nat} {env : PySem.Env} : swapsWithSole [.Subscript a b p2] v l env = pure false := by
  cases v <;> rfl
theorem st_setL {X : Cx} {W : WX} (ok : OkS Γ cv lvl X W) {sc : Scope} (hsc : X.env.scope = sc) {i : Nat} {ix e : T} {x : Str} {j v : Expr} {p1 p2 pos : Pos} {fu : Nat} (h : chkS Γ sc (.setL i ix e) (.Assign [.Subscript (.Name x p1) j p2] v pos) = true) :
    PS X (.Assign [.Subscript (.Name x p1) j p2] v pos) (tS X.K cv W (evS Γ fu (.setL i ix e))) := by
  simp only [chkS, Bool.and_eq_true, decide_eq_true_eq] at h
  obtain ⟨⟨⟨⟨⟨⟨h1, h2⟩, h3⟩, h4⟩, h5⟩, h6⟩, h7⟩ := h
  have he := sndW 1 e v X W sc ok.toOkX hsc h5 h7
  have hj := (snd ix (.one j) X W sc ok.toOkX hsc h4).1
  refine PS.weak (ps_asg he (pg_sub (nameE ok hsc (p := p1) h1 h2 h3) hj set_list (asg_sub h6)) sw_subA sws_sub) fun E σ H ⟨O, H0, P, ρ, out, s, ev, po⟩ => ?_
  simp only [evS] at ev
  split at ev
  case h_2 => cases ev
  rename_i ds hq
  refine ⟨_, _, s.bor, ?_⟩
  cases e1 : DE.ev Γ e (bor ρ) with
  | none => rw [e1] at ev; cases ev
  | some r => cases r with
    | error c =>
      rw [e1] at ev
      cases ev
      exact fun H' s' => po H' σ (s.same.trans s')
    | ok d =>
      rw [e1] at ev
      intro H1 w P1 fp s1 fr o nd
      have s2 := s.mono s1
      have hq' : getO (.sl i) ρ = some (1, .lst ds) := by simp only [getO, hq]
      obtain ⟨a, xs, ea, ha, hp, hl⟩ := s2.lst hq
      refine ⟨.ref a, ea, ?_⟩
      refine go_tD (b := true) s2 ev po fun H2 u dj e3 ek3 s3 s4 r2 => ?_
      cases dj <;> try (cases ek3; done)
      rename_i k
      cases r2
      dsimp only at ek3
      split at ek3
      case h_2 => cases ek3
      rename_i jj hj2
      obtain ⟨hk, rfl⟩ := if_some ek3
      refine ⟨a, xs, k, jj, rfl, rfl, s3 _ _ ha, by rw [hl]; exact hj2, ?_⟩
      have rw' : Rp X.K (fun a => O a ∨ P a) H2 w d := by
        cases d <;> try (exact absurd hk Bool.false_ne_true)
        cases o with | @ls n c ys ds2 fp2 g1 g2 g3 =>
          have r0 := g3.to0
          refine .lst (s3 _ _ g1) (fun z => ?_) ((Rps.noL hk r0).mono s3)
          obtain ⟨q, q'⟩ := s.dom c z
          rw [(fr c g2).1] at q'
          cases q'
      obtain ⟨r0, wr⟩ := s4.wrc ok.cls hq' rfl (show TgV X.K σ H2 (.sl i) (.ref a) from ea) (s3 _ _ ha)
      exact po _ σ _ (none_wr (s3 _ _ ha) (s1.trans s3)) ⟨(Stay.of (s1.trans s3)).trans (.wr (s3 _ _ ha) (.inr hp)), fun a z => .inl z⟩ (wr (r0.set jj rw'))
theorem st_set2 {X : Cx} {W : WX} (ok : OkS Γ cv lvl X W) {sc : Scope} (hsc : X.env.scope = sc) {i : Nat} {b : Bool} {ix jx e : T} {x : Str} {j j2 v : Expr} {p1 p2 p3 pos : Pos} {fu : Nat} (h : chkS Γ sc (.set2 i b ix jx e) (.Assign [.Subscript (.Subscript (.Name x p1) j p3) j2 p2] v pos) = true) :
    PS X (.Assign [.Subscript (.Subscript (.Name x p1) j p3) j2 p2] v pos) (tS X.K cv W (evS Γ fu (.set2 i b ix jx e))) := by
  simp only [chkS, Bool.and_eq_true, decide_eq_true_eq, Bool.not_eq_true'] at h
  obtain ⟨⟨⟨⟨⟨⟨⟨⟨h1, h2⟩, h3⟩, h4⟩, h5⟩, h6⟩, h7⟩, h8⟩, h9⟩ := h
  have he := (snd e (.one v) X W sc ok.toOkX hsc h6).1
  have hj := (snd ix (.one j) X W sc ok.toOkX hsc h4).1
  have hj2 := (snd jx (.one j2) X W sc ok.toOkX hsc h5).1
  refine PS.weak (ps_asg he (pg_sub (pe_ix ix_list (nameE ok hsc (p := p1) h1 h2 h3) hj (plainIx h7)) hj2 set_list (asg_sub h8)) (sw_sub h9) sws_sub) fun E σ H ⟨O, H0, P, ρ, out, s, ev, po⟩ => ?_
  simp only [evS] at ev
  split at ev
  case h_2 => cases ev
  rename_i ds hq
  refine go_tD s ev po fun H1 w d e1 ek s1 s2 r => ?_
  obtain ⟨a0, xs0, ea0, ha0, _, hl0⟩ := s2.lst hq
  refine ⟨.ref a0, ea0, ?_⟩
  refine go_tD (b := true) s2 ek po fun H2 u dj e3 ek3 s3 s4 r2 => ?_
  cases dj <;> try (cases ek3; done)
  rename_i k
  cases r2
  dsimp only at ek3
  split at ek3
  case h_2 => cases ek3
  rename_i jj hjj
  split at ek3
  case h_2 => cases ek3
  rename_i es hes
  obtain ⟨a, xs, c, ys, ea, ha, hl, hx, hc, hl2, hcp, hw⟩ := s4.wr2 hq hes
  rw [ea] at ea0
  cases ea0
  refine ⟨_, xs, k, .ref c, rfl, rfl, SqL.of ha, by unfold atI; rw [hl, hjj]; exact hx, ?_⟩
  refine go_tD (b := true) s4 ek3 po fun H3 u2 dj2 e4 ek4 s5 s6 r4 => ?_
  cases dj2 <;> try (cases ek4; done)
  rename_i k2
  cases r4
  dsimp only at ek4
  split at ek4
  case h_2 => cases ek4
  rename_i j3 hj3
  obtain ⟨hk, rfl⟩ := if_some ek4
  obtain ⟨a', xs', c', ys', ea', ha', hl', hx', hc', hl2', hcp', hw'⟩ := s6.wr2 hq hes
  rw [ea] at ea'
  cases ea'
  have e5 := s5 _ _ ha
  rw [ha'] at e5
  cases e5
  rw [hx] at hx'
  cases hx'
  refine ⟨c, ys', k2, j3, rfl, rfl, hc', by rw [hl2']; exact hj3, ?_⟩
  exact po _ σ _ (none_wr hc' (s1.trans (s3.trans s5))) ⟨(Stay.of (s1.trans (s3.trans s5))).trans (.wr hc' (.inr hcp')), fun a z => .inl z⟩ (hw' j3 w d ((keep_b hk r).mono (s3.trans s5)))
theorem get_list {X : Cx} : PGet X (rIxL X.K) := by
  intro pins s σ H x y v u Q I rx ry h
  obtain ⟨p, xs, i, z, rfl, rfl, hq, he, q⟩ := h
  cases rx
  obtain ⟨t, rfl⟩ := ry
  obtain ⟨its, r, pl, hz⟩ := I.list hq
  obtain ⟨j, h1, h2, h3, h4, h5⟩ := atI_get he
  obtain ⟨w, ew, rw'⟩ := r.get h2
  have hl := r.length
  have hn := line63
  have fin : EP X pins σ Q w s := ⟨z, H, I, rw', q⟩
  by_cases h0 : 0 ≤ i
  · have hj : i.toNat = j := by
      rw [seqIndex_of h0 h5] at h1
      exact Option.some.inj h1
    exact wpAny_getItem_list pl.isList h0 (by omega) (by rw [hj]; simpa using ew) fin
  · have hj : (i + (its.toArray.size : Int)).toNat = j := by
      rw [seqIndex_neg (by omega) h4] at h1
      rw [List.size_toArray, ← hl]
      exact Option.some.inj h1
    exact wpAny_getItem_list_neg pl.isList (by omega) (by rw [List.size_toArray] <;> omega) (by omega) (by rw [hj]; simpa using ew) fin
theorem ip_ok {X : Cx} {op : Operator} (h : op = .Add ∨ op = .Sub) : PIp X op fun x y H Q => ∃ (K : PySem.W.Frag) (O : Addr → Prop) (a c z : D), Rp K O H x a ∧ Rp K O H y c ∧ ipD op a c = some z ∧ ∀ v, Rp K O H v z → Q v H := by
  rcases h with rfl | rfl
  · intro pins s σ H x y u v Q I rx ry ⟨K, O, a, c, z, ra, rc, e, q⟩
    unfold ipD at e
    split at e <;> (try contradiction)
    cases e; cases ra; cases rc
    exact ip_add pins s σ H _ _ u v Q I rx ry ⟨_, _, rfl, rfl, q _ (.int _)⟩
  · intro pins s σ H x y u v Q I rx ry ⟨K, O, a, c, z, ra, rc, e, q⟩
    unfold ipD at e
    split at e <;> (try contradiction)
    cases e; cases ra; cases rc
    exact ip_sub pins s σ H _ _ u v Q I rx ry ⟨_, _, rfl, rfl, q _ (.int _)⟩
theorem ipD_int {op : Operator} {a c z : D} (h : ipD op a c = some z) : ∃ i, z = .int i := by
  unfold ipD at h
  split at h <;> first | (cases h; exact ⟨_, rfl⟩) | cases h
theorem aug_st {x j : Expr} {p2 : Pos} (h : noSlice j = true) : ∀ ov iv new, augStore j ov iv new = (do holding [new, ov, iv] (setItem ov iv new); release [new, ov, iv] []; pure .next) := by
  intro ov iv new
  cases j <;> first | rfl | cases h
theorem st_augL {X : Cx} {W : WX} (ok : OkS Γ cv lvl X W) {sc : Scope} (hsc : X.env.scope = sc) {o : OT} {op op' : Operator} {ix e : T} {x j v : Expr} {p2 pos : Pos} {fu : Nat} (h : chkS Γ sc (.augL o op ix e) (.AugAssign (.Subscript x j p2) op' v pos) = true) :
    PS X (.AugAssign (.Subscript x j p2) op' v pos) (tS X.K cv W (evS Γ fu (.augL o op ix e))) := by
  simp only [chkS, Bool.and_eq_true, decide_eq_true_eq, Bool.or_eq_true] at h
  obtain ⟨⟨⟨⟨⟨rfl, hop⟩, h1⟩, h4⟩, h5⟩, h6⟩ := h
  have he := (snd e (.one v) X W sc ok.toOkX hsc h5).1
  have hj := (snd ix (.one j) X W sc ok.toOkX hsc h4).1
  refine PS.weak (ps_augS (pe_tg ok hsc h1) hj get_list he (ip_ok hop) set_list (aug_st (x := x) (p2 := p2) h6)) fun E σ H ⟨O, H0, P, ρ, out, s, ev, po⟩ => ?_
  simp only [evS] at ev
  split at ev
  case h_2 => cases ev
  rename_i ds hq
  obtain ⟨ht, ev⟩ := if_some' ev
  obtain ⟨a, xs, ea, ha, hp, hl⟩ := s.lstT ok.cls hq ht
  refine ⟨.ref a, ea, ?_⟩
  refine go_tD (b := true) s ev po fun H1 u dj e3 ek3 s1 s2 r2 => ?_
  cases dj <;> try (cases ek3; done)
  rename_i k
  cases r2
  dsimp only at ek3
  split at ek3
  case h_2 => cases ek3
  rename_i jj hj2
  split at ek3
  case h_2 => cases ek3
  rename_i d0 hd0
  obtain ⟨r1, _⟩ := s2.wrc ok.cls hq ht (ea.same s1) (s1 _ _ ha)
  obtain ⟨w0, hw0, rw0⟩ := r1.get hd0
  refine ⟨a, xs, k, w0, rfl, rfl, SqL.of (s1 _ _ ha), by unfold atI; rw [hl, hj2]; exact hw0, ?_⟩
  refine go_tD (b := true) s2 ek3 po fun H2 w d e5 ek5 s3 s4 r => ?_
  split at ek5
  case h_2 => cases ek5
  rename_i z hz
  cases ek5
  have rr : Rp X.K O H2 w d := r.less fun a z => .inl z
  refine ⟨X.K, O, d0, d, z, (rw0.less fun a z => .inl z).mono s3, rr, hz, fun y ry => ?_⟩
  have s13 := s1.trans s3
  obtain ⟨r4, wr⟩ := s4.wrc ok.cls hq ht (ea.same s13) (s13 _ _ ha)
  obtain ⟨zi, rfl⟩ := ipD_int hz
  cases ry
  exact ⟨a, xs, k, jj, rfl, rfl, s13 _ _ ha, by rw [hl]; exact hj2, po _ σ _ (none_wr (s13 _ _ ha) s13) ⟨(Stay.of s13).trans (.wr (s13 _ _ ha) (.inr hp)), fun a z => .inl z⟩ (wr (r4.set jj (.int zi)))⟩
theorem st_aug2 {X : Cx} {W : WX} (ok : OkS Γ cv lvl X W) {sc : Scope} (hsc : X.env.scope = sc) {i : Nat} {op op' : Operator} {ix jx e : T} {x : Str} {j j2 v : Expr} {p1 p2 p3 pos : Pos} {fu : Nat} (h : chkS Γ sc (.aug2 i op ix jx e) (.AugAssign (.Subscript (.Subscript (.Name x p1) j p3) j2 p2) op' v pos) = true) :
    PS X (.AugAssign (.Subscript (.Subscript (.Name x p1) j p3) j2 p2) op' v pos) (tS X.K cv W (evS Γ fu (.aug2 i op ix jx e))) := by
  simp only [chkS, Bool.and_eq_true, decide_eq_true_eq, Bool.or_eq_true] at h
  obtain ⟨⟨⟨⟨⟨⟨⟨⟨⟨rfl, hop⟩, h1⟩, h2⟩, h3⟩, h4⟩, h5⟩, h6⟩, h7⟩, h8⟩ := h
  have he := (snd e (.one v) X W sc ok.toOkX hsc h6).1
  have hj := (snd ix (.one j) X W sc ok.toOkX hsc h4).1
  have hj2 := (snd jx (.one j2) X W sc ok.toOkX hsc h5).1
  refine PS.weak (ps_augS (pe_ix ix_list (nameE ok hsc (p := p1) h1 h2 h3) hj (plainIx h7)) hj2 get_list he (ip_ok hop) set_list (aug_st (x := .Name x p1) (p2 := p2) h8)) fun E σ H ⟨O, H0, P, ρ, out, s, ev, po⟩ => ?_
  simp only [evS] at ev
  split at ev
  case h_2 => cases ev
  rename_i ds hq
  obtain ⟨a0, xs0, ea0, ha0, _, hl0⟩ := s.lst hq
  refine ⟨.ref a0, ea0, ?_⟩
  refine go_tD (b := true) s ev po fun H1 u dj e3 ek3 s1 s2 r2 => ?_
  cases dj <;> try (cases ek3; done)
  rename_i k
  cases r2
  dsimp only at ek3
  split at ek3
  case h_2 => cases ek3
  rename_i jj hjj
  split at ek3
  case h_2 => cases ek3
  rename_i es hes
  obtain ⟨a, xs, c, ys, ea, ha, hl, hx, hc, hl2, hcp, hw⟩ := s2.wr2 hq hes
  rw [ea] at ea0
  cases ea0
  refine ⟨_, xs, k, .ref c, rfl, rfl, SqL.of ha, by unfold atI; rw [hl, hjj]; exact hx, ?_⟩
  refine go_tD (b := true) s2 ek3 po fun H2 u2 dj2 e4 ek4 s3 s4 r4 => ?_
  cases dj2 <;> try (cases ek4; done)
  rename_i k2
  cases r4
  dsimp only at ek4
  split at ek4
  case h_2 => cases ek4
  rename_i j3 hj3
  split at ek4
  case h_2 => cases ek4
  rename_i d0 hd0
  -- the inner list, read
  have hb := s4.bor.at' i (.lst ds) (by unfold bor; rw [List.getElem?_map, hq]; rfl)
  obtain ⟨w1, hw1, rw1⟩ := hb
  rw [ea] at hw1
  cases hw1
  have rin : Rps X.K O H2 ys es := by
    cases rw1 with | lst q1 _ q2 =>
      rw [s3 _ _ ha] at q1
      cases q1
      obtain ⟨w2, q3, q4⟩ := q2.get hes
      rw [hx] at q3
      cases q3
      cases q4 with | lst q5 _ q6 =>
        rw [s3 _ _ hc] at q5
        cases q5
        exact q6
  obtain ⟨w0, hw0, rw0⟩ := rin.get hd0
  refine ⟨c, ys, k2, w0, rfl, rfl, SqL.of (s3 _ _ hc), by unfold atI; rw [hl2, hj3]; exact hw0, ?_⟩
  refine go_tD (b := true) s4 ek4 po fun H3 w d e5 ek5 s5 s6 r => ?_
  split at ek5
  case h_2 => cases ek5
  rename_i z hz
  cases ek5
  have rr : Rp X.K O H3 w d := r.less fun a z => .inl z
  refine ⟨X.K, O, d0, d, z, rw0.mono s5, rr, hz, fun y ry => ?_⟩
  obtain ⟨a', xs', c', ys', ea', ha', hl', hx', hc', hl2', hcp', hw'⟩ := s6.wr2 hq hes
  rw [ea] at ea'
  cases ea'
  have e6 := (s3.trans s5) _ _ ha
  rw [ha'] at e6
  cases e6
  rw [hx] at hx'
  cases hx'
  have e7 := (s3.trans s5) _ _ hc
  rw [hc'] at e7
  cases e7
  obtain ⟨zi, rfl⟩ := ipD_int hz
  cases ry
  have sa := s1.trans (s3.trans s5)
  exact ⟨c, ys, k2, j3, rfl, rfl, hc', by rw [hl2]; exact hj3, po _ σ _ (none_wr hc' sa) ⟨(Stay.of sa).trans (.wr hc' (.inr hcp')), fun a z => .inl z⟩ (hw' j3 _ _ (.int zi))⟩
end
end DE
set_option linter.all false
set_option maxRecDepth 100000
set_option maxHeartbeats 4000000
namespace DE
open PySem PySem.Spec PyProof.Rows L2
/-! ### dicts stored into -/
section
variable {κ α β : Type} [DecidableEq κ]
theorem upd2_len (k : κ) (y : α) : ∀ (ks : List κ) (xs : List α), ks.length = xs.length → (upd2 ks xs k y).length = ks.length
  | [], [], _ => rfl
  | [], _ :: _, h => by cases h
  | _ :: _, [], h => by cases h
  | j :: ks, x :: xs, h => by simp only [upd2, List.length_cons]; rw [upd2_len k y ks xs (Nat.succ.inj h)]
end
theorem zip_upd2 (k : Key) (v : V) : ∀ (ks : List Key) (xs : List V), ((ks.zip xs).map fun kv => if kv.1 = k then (kv.1, v) else kv) = ks.zip (upd2 ks xs k v)
  | [], _ => by simp [upd2]
  | _ :: _, [] => by simp [upd2]
  | j :: ks, x :: xs => by
    simp only [List.zip_cons_cons, List.map_cons, upd2, zip_upd2 k v ks xs]
    by_cases e : j = k <;> simp [e]
theorem es_upd2 (k : NestedKey) (v : V) : ∀ (es : List NE), (es.map fun x => if x.1 = k then (x.1, x.2.1, v) else x).map (·.2.2) = upd2 (es.map (·.1)) (es.map (·.2.2)) k v ∧ (es.map fun x => if x.1 = k then (x.1, x.2.1, v) else x).map (·.1) = es.map (·.1) ∧ ((es.map fun x => if x.1 = k then (x.1, x.2.1, v) else x).map fun e => V.ref e.2.1) = es.map fun e => V.ref e.2.1
  | [] => ⟨rfl, rfl, rfl⟩
  | e :: es => by
    obtain ⟨h1, h2, h3⟩ := es_upd2 k v es
    simp only [List.map_cons, upd2, h1, h2, h3]
    by_cases q : e.1 = k <;> simp [q]
section
variable {K : PySem.W.Frag} {cv : Str → Value} {W : WX} {O P : Addr → Prop} {H0 : Ent} {H : Hp} {σ : L2.St} {ρ : List Sl}
theorem Rps.upd2 {κ : Type} [DecidableEq κ] {OO : Addr → Prop} {k : κ} {v : V} {d : D} (h : Rp K OO H v d) : ∀ {ks : List κ} {xs : List V} {ds : List D}, Rps K OO H xs ds → Rps K OO H (DE.upd2 ks xs k v) (DE.upd2 ks ds k d)
  | [], _, _, r => by cases r <;> exact .nil
  | _ :: _, _, _, .nil => .nil
  | j :: ks, _, _, .cons q r => by
    simp only [DE.upd2]
    by_cases e : j = k
    · simp only [e, if_true]; exact .cons h (Rps.upd2 h r)
    · simp only [e, if_false]; exact .cons q (Rps.upd2 h r)
theorem SE.wrdK {Γ : G} (ok : ∀ p ∈ Γ.cls, ClOk K p) {o : OT} {ks : List Key} {ds : List D} (s : SE K O H0 P H σ ρ) (e : getO o ρ = some (1, .dK ks ds)) (ht : okT Γ o ρ = true) :
    ∃ a xs, TgV K σ H o (.ref a) ∧ H a = some (.dK (ks.zip xs)) ∧ ks.length = xs.length ∧ P a ∧ Rps K (fun a => O a ∨ P a) H xs ds ∧ ∀ {ks' : List Key} {xs' : List V} {ds' : List D}, ks'.length = xs'.length → Rps K (fun a => O a ∨ P a) H xs' ds' → SE K O H0 P (upd H a (.dK (ks'.zip xs'))) σ (putO o ρ 1 (.dK ks' ds')) := by
  obtain ⟨fp, w, fp1, nd, inP, h1, h2, h3, h4, h5⟩ := s.focus ok e ht
  cases h2 with | @dk n a ks xs ds fp2 h l p r2 =>
    refine ⟨a, xs, h1, h, l, p, r2.to0, fun {ks' xs' ds'} l' ro => ?_⟩
    have hr : ∀ w e, Rp K (fun a => O a ∨ P a) H w e → Rp K (fun a => O a ∨ P a) (upd H a (.dK (ks'.zip xs'))) w e := fun w e r => Rp.wrM h trivial (.inr p) r
    have hup : ∀ b, b ≠ a → ∀ zs, H b = some zs → upd H a (.dK (ks'.zip xs')) b = some zs := fun b nb zs e => by rw [upd_ne nb]; exact e
    obtain ⟨fp', g1, g2⟩ := h5 (fun b => O b ∨ P b) P (upd H a (.dK (ks'.zip xs'))) 1 (.dK ks' ds') [a] hr
      (fun b hb nb => ⟨id, fun zs e => hup b (fun z => nb (z ▸ List.mem_cons_self)) zs e⟩) (.dk upd_same l' p (.of0 (ro.wrM h trivial (.inr p)))) (List.nodup_cons.mpr ⟨by simp, .nil⟩)
      (fun b hb => .inl ((List.mem_singleton.mp hb) ▸ List.mem_cons_self))
    exact ⟨s.same.wr (s.pnew a p).1 trivial, s.odom, s.oB, fun b z => ⟨(s.pnew b z).1, Mok.wr trivial (s.pnew b z).2⟩, ⟨fp', g1, g2⟩, s.pin.putO e _⟩
theorem SE.wrdT {Γ : G} (ok : ∀ p ∈ Γ.cls, ClOk K p) {o : OT} {ks : List NestedKey} {ds : List D} (s : SE K O H0 P H σ ρ) (e : getO o ρ = some (1, .dT ks ds)) (ht : okT Γ o ρ = true) :
    ∃ a es, TgV K σ H o (.ref a) ∧ H a = some (.ext (DNp a es)) ∧ ks = es.map (·.1) ∧ ks.all kOk = true ∧ P a ∧ Rps K (fun a => O a ∨ P a) H (es.map fun e => V.ref e.2.1) (kDs ks) ∧ Rps K (fun a => O a ∨ P a) H (es.map (·.2.2)) ds ∧
      ∀ {es' : List NE} {ks' : List NestedKey} {ds' : List D}, ks' = es'.map (·.1) → ks'.all kOk = true → Rps K (fun a => O a ∨ P a) H (es'.map fun e => V.ref e.2.1) (kDs ks') → Rps K (fun a => O a ∨ P a) H (es'.map (·.2.2)) ds' → SE K O H0 P (upd H a (.ext (DNp a es'))) σ (putO o ρ 1 (.dT ks' ds')) := by
  obtain ⟨fp, w, fp1, nd, inP, h1, h2, h3, h4, h5⟩ := s.focus ok e ht
  cases h2 with | @dt n a es ks ds fp2 h e1 l p q r2 =>
    refine ⟨a, es, h1, h, e1, l, p, q, r2.to0, fun {es' ks' ds'} e' l' q' ro => ?_⟩
    have hr : ∀ w e, Rp K (fun a => O a ∨ P a) H w e → Rp K (fun a => O a ∨ P a) (upd H a (.ext (DNp a es'))) w e := fun w e r => Rp.wrM h trivial (.inr p) r
    have hup : ∀ b, b ≠ a → ∀ zs, H b = some zs → upd H a (.ext (DNp a es')) b = some zs := fun b nb zs e => by rw [upd_ne nb]; exact e
    obtain ⟨fp', g1, g2⟩ := h5 (fun b => O b ∨ P b) P (upd H a (.ext (DNp a es'))) 1 (.dT ks' ds') [a] hr
      (fun b hb nb => ⟨id, fun zs e => hup b (fun z => nb (z ▸ List.mem_cons_self)) zs e⟩) (.dt upd_same e' l' p (q'.wrM h trivial (.inr p)) (.of0 (ro.wrM h trivial (.inr p)))) (List.nodup_cons.mpr ⟨by simp, .nil⟩)
      (fun b hb => .inl ((List.mem_singleton.mp hb) ▸ List.mem_cons_self))
    exact ⟨s.same.wr (s.pnew a p).1 trivial, s.odom, s.oB, fun b z => ⟨(s.pnew b z).1, Mok.wr trivial (s.pnew b z).2⟩, ⟨fp', g1, g2⟩, s.pin.putO e _⟩
end
theorem swW {v : Expr} {t : Option Expr} {l : Nat} {env : PySem.Env} (h : isLc v = false) : swapsWith v t l env = pure false := by
  cases v <;> first | rfl | cases h
theorem PS.of {X : Cx} {st : Stmt} {t : TS} (w : ∀ D σ H, t D σ H → ∃ t', PS X st t' ∧ t' D σ H) : PS X st t := ⟨fun pins s σ H D I q => let ⟨t', h, q'⟩ := w _ _ _ q; h.run pins s σ H D I q'⟩
theorem kDs_app : ∀ (a b : List NestedKey), kDs (a ++ b) = kDs a ++ kDs b
  | [], b => by simp only [List.nil_append, kDs]
  | k :: a, b => by simp only [List.cons_append, kDs, kDs_app a b]
section
variable {Γ : G} {cv : Str → Value} {lvl : Nat}
theorem st_dset {X : Cx} {W : WX} (ok : OkS Γ cv lvl X W) {sc : Scope} (hsc : X.env.scope = sc) {o : OT} {b : Bool} {ix e : T} {x : Expr} {j v : Expr} {p2 pos : Pos} {fu : Nat} (h : chkS Γ sc (.dset o b ix e) (.Assign [.Subscript x j p2] v pos) = true) :
    PS X (.Assign [.Subscript x j p2] v pos) (tS X.K cv W (evS Γ fu (.dset o b ix e))) := by
  simp only [chkS, Bool.and_eq_true, decide_eq_true_eq, Bool.not_eq_true'] at h
  obtain ⟨⟨⟨⟨h1, h4⟩, h5⟩, h6⟩, h7⟩ := h
  have he := (snd e (.one v) X W sc ok.toOkX hsc h5).1
  have hj := (snd ix (.one j) X W sc ok.toOkX hsc h4).1
  have hu : X.A.units + 1 < cLine := by have := ok.room.un; omega
  have hu2 : X.A.units + 10 < cLine := by have := ok.room.un; omega
  refine PS.of fun E σ H ⟨O, H0, P, ρ, out, s, ev, po⟩ => ?_
  simp only [evS] at ev
  split at ev
  case h_2 => cases ev
  rename_i c hq
  obtain ⟨ht, ev⟩ := if_some' ev
  cases c with
  | dK ks ds =>
    refine ⟨_, ps_dput hu (pe_tg ok hsc h1) hj he (swW h7), ?_⟩
    refine go_tD s ev po fun H1 w d e1 ek s1 s2 r => ?_
    obtain ⟨a, xs, ea, _⟩ := s2.wrdK ok.cls hq ht
    refine ⟨.ref a, ea, ?_⟩
    refine go_tD (b := true) s2 ek po fun H2 u dj e3 ek3 s3 s4 r2 => ?_
    obtain ⟨hk, ek4⟩ := if_some' ek3
    simp only [dsetD] at ek4
    cases q : keyD dj with
    | none => rw [q] at ek4; cases ek4
    | some k =>
      rw [q] at ek4
      by_cases hz : ks.length < sizeLine
      case neg => simp only [hz, if_false] at ek4; cases ek4
      simp only [hz, if_true] at ek4
      cases ek4
      have eu := kV_of r2 q
      subst eu
      obtain ⟨a', xs', ea', ha', hl', hp', r0, wr⟩ := s4.wrdK ok.cls hq ht
      have := (ea.same s3).inj ea'
      cases this
      have rw' := (keep_b hk r).mono s3
      have hzip : (ks.zip xs').length < sizeLine := by rw [List.length_zip, ← hl', Nat.min_self]; exact hz
      have sa := s1.trans s3
      refine ⟨a, _, rfl, DPut.k ha' hzip, ?_⟩
      have goal : ∀ (ks2 : List Key) (xs2 : List V) (ds2 : List DE.D), putK (ks.zip xs') k w = ks2.zip xs2 → ks2.length = xs2.length → Rps X.K (fun a => O a ∨ P a) H2 xs2 ds2 → dputK ks ds k d = .dK ks2 ds2 → E.nx σ (upd H2 a (.dK (putK (ks.zip xs') k w))) := fun ks2 xs2 ds2 g1 g2 g3 g4 => by
        rw [g1]
        rw [g4] at po
        exact po _ σ _ (none_wrM sa ⟨_, ha'⟩) ⟨(Stay.of sa).trans (.wrM ha' trivial (.inr hp')), fun a z => .inl z⟩ (wr g2 g3)
      rcases getK_of (k := k) hl' r0 with ⟨v0, e0, q1, q2, q3⟩ | ⟨q1, q2⟩
      · refine goal ks (upd2 ks xs' k w) (upd2 ks ds k d) ?_ (upd2_len k w ks xs' hl').symm (r0.upd2 rw') (by unfold dputK; rw [q2]; rfl)
        unfold putK
        rw [valV_any, q1]
        exact zip_upd2 k w ks xs'
      · refine goal (ks ++ [k]) (xs' ++ [w]) (ds ++ [d]) ?_ (by simp [hl']) (r0.append (.cons rw' .nil)) (by unfold dputK; rw [q2]; rfl)
        rw [putK_new w q1]
        rw [List.zip_append hl']
        rfl
  | dT ks ds =>
    refine ⟨_, ps_nput hu2 (pe_tg ok hsc h1) hj he (swW h7), ?_⟩
    refine go_tD s ev po fun H1 w d e1 ek s1 s2 r => ?_
    obtain ⟨a, es, ea, _⟩ := s2.wrdT ok.cls hq ht
    refine ⟨.ref a, ea, ?_⟩
    refine go_tD (b := true) s2 ek po fun H2 u dj e3 ek3 s3 s4 r2 => ?_
    obtain ⟨hk, ek4⟩ := if_some' ek3
    simp only [dsetD] at ek4
    cases q : keyN dj with
    | none => rw [q] at ek4; cases ek4
    | some k =>
      rw [q] at ek4
      by_cases hz : ks.length < sizeLine
      case neg => simp only [hz, if_false] at ek4; cases ek4
      simp only [hz, if_true] at ek4
      cases ek4
      obtain ⟨bb, rfl, okk, nk⟩ := keyN_rp r2 q
      obtain ⟨_, ed⟩ := keyN_of q
      subst ed
      obtain ⟨a', es', ea', ha', he', hl', hp', q', r0, wr⟩ := s4.wrdT ok.cls hq ht
      have := (ea.same s3).inj ea'
      cases this
      subst he'
      have rw' := (keep_b hk r).mono s3
      rw [List.length_map] at hz
      have sa := s1.trans s3
      refine ⟨a, _, rfl, ⟨es', k, bb, ha', nks_of hl' q', okk, rfl, nk, hz, rfl⟩, ?_⟩
      have rk : Rp X.K (fun a => O a ∨ P a) H2 (.ref bb) (kD k) := Rp.noL (kD_noL (kOk_n okk)) r2
      have goal : ∀ (ks2 : List NestedKey) (ds2 : List DE.D), (putE es' k bb w).map (·.1) = ks2 → ks2.all kOk = true → Rps X.K (fun a => O a ∨ P a) H2 ((putE es' k bb w).map fun e => V.ref e.2.1) (kDs ks2) → Rps X.K (fun a => O a ∨ P a) H2 ((putE es' k bb w).map (·.2.2)) ds2 → dputN (es'.map (·.1)) ds k d = .dT ks2 ds2 → E.nx σ (upd H2 a (.ext (DNp a (putE es' k bb w)))) := fun ks2 ds2 g1 g2 g3 g4 g5 => by
        rw [g5] at po
        exact po _ σ _ (none_wrM sa ⟨_, ha'⟩) ⟨(Stay.of sa).trans (.wrM ha' trivial (.inr hp')), fun a z => .inl z⟩ (wr g1.symm g2 g3 g4)
      rcases getN_of (k := k) r0 with ⟨v0, e0, q1, q2, q3⟩ | ⟨q1, q2⟩
      · obtain ⟨u1, u2, u3⟩ := es_upd2 k w es'
        have ep : putE es' k bb w = es'.map fun x => if x.1 = k then (x.1, x.2.1, w) else x := by unfold putE; rw [q1]; rfl
        refine goal (es'.map (·.1)) (upd2 (es'.map (·.1)) ds k d) (by rw [ep]; exact u2) hl' (by rw [ep, u3]; exact q') (by rw [ep, u1]; exact r0.upd2 rw') (by unfold dputN; rw [q2]; rfl)
      · have ep : putE es' k bb w = es' ++ [(k, bb, w)] := by unfold putE; rw [q1]; rfl
        refine goal (es'.map (·.1) ++ [k]) (ds ++ [d]) (by rw [ep]; simp) (by rw [List.all_append, hl']; simp [okk]) ?_ (by rw [ep]; simp only [List.map_append, List.map_cons, List.map_nil]; exact r0.append (.cons rw' .nil)) (by unfold dputN; rw [q2]; rfl)
        rw [ep, kDs_app]
        simp only [List.map_append, List.map_cons, List.map_nil, kDs]
        exact q'.append (.cons rk .nil)
  | _ =>
    refine ⟨_, ps_dput hu (pe_tg ok hsc h1) hj he (swW h7), ?_⟩
    refine go_tD s ev po fun H1 w d e1 ek s1 s2 r => ?_
    obtain ⟨fp, v, fp1, _, _, tv, _⟩ := s2.focus ok.cls hq ht
    refine ⟨v, tv, ?_⟩
    refine go_tD (b := true) s2 ek po fun H2 u dj e3 ek3 s3 s4 r2 => ?_
    obtain ⟨hk, ek4⟩ := if_some' ek3
    simp only [dsetD] at ek4
    cases ek4
end
end DE
set_option linter.all false
set_option maxRecDepth 100000
set_option maxHeartbeats 4000000
namespace DE
open PySem PySem.Spec PyProof.Rows L2
section
variable {Γ : G} {cv : Str → Value} {lvl : Nat}
/-! ### what a callee did to what it took over -/
theorem SameB.stay {K : PySem.W.Frag} {O Ps : Addr → Prop} {H H' : Hp} (s : SameB ⟨H, Ps, none⟩ H') (m : ∀ a, Ps a → Mok H a) (hO : ∀ a, Ps a → O a) : Stay K O H H' := by
  have fr : ∀ {a : Addr} {o : HO}, H a = some o → ¬ Mo o → H' a = some o := fun {a o} h n => (s a o h).1 fun z => by
    obtain ⟨u, e, mo⟩ := m a z
    rw [h] at e; cases e; exact n mo
  refine ⟨fun a zs h => ?_, fun a o h mo n => (s a o h).1 fun z => n (hO a z), fun a ns h => ?_⟩
  · rcases h with (h | ⟨o, h⟩) | h
    · exact .inl (.inl (fr h mo_tup))
    · exact .inl (.inr ⟨o, fr h mo_frz⟩)
    · exact .inr h
  · rcases h with ⟨o, h⟩ | h
    · exact .inl ⟨o, fr h mo_frz⟩
    · exact .inr h
theorem SameB.seq {E : Ent} {Ps : Addr → Prop} {H H' : Hp} (s : SameB E H) (t : SameB ⟨H, Ps, none⟩ H') (h : ∀ a, Ps a → E.B a ∨ E.H a = none) : SameB E H' := fun a o e => by
  obtain ⟨h1, h2⟩ := s a o e
  refine ⟨fun n => (t a o (h1 n)).1 fun z => ?_, fun b => ?_⟩
  · rcases h a z with y | y
    · exact n y
    · rw [y] at e; cases e
  · obtain ⟨u, q, m⟩ := h2 b
    by_cases z : Ps a
    · exact (t a u q).2 z
    · exact ⟨u, (t a u q).1 z, m⟩
section
variable {K : PySem.W.Frag} {O P : Addr → Prop} {H0 : Ent} {H : Hp} {σ : L2.St} {ρ : List Sl}
/-- an owned instance is handed to a method, and comes back -/
theorem SE.mcl {i n : Nat} {c m : Str} {dob : D} (s : SE K O H0 P H σ ρ) (q : ρ[i]? = some (some (n + 1, dob))) (hob : isObj c m dob = true) :
    ∃ a C dx fs Ps fp1, σ[i]? = some (some (.ref a)) ∧ PySem.W.nsIn K mainGlobals c = some (some (.ref C)) ∧ H a = some (.ins C dx fs) ∧ fs.lookup m = none ∧ (∀ b, Ps b → P b) ∧ (∀ b, Ps b → Mok H b) ∧
      Ow K (fun b => ((O b ∨ P b) ∧ ¬ Ps b) ∨ Ps b) Ps H 1 (.ref a) dob fp1 ∧ fp1.Nodup ∧
      ∀ H' Pn fp' c' fs' ds', SameB ⟨H, Ps, none⟩ H' → (∀ b, Pn b → (Ps b ∨ H b = none) ∧ Mok H' b) → Ow K (fun b => ((O b ∨ P b) ∧ ¬ Ps b) ∨ Pn b) Pn H' 1 (.ref a) (.obj c' fs' ds') fp' → fp'.Nodup →
        SE K O H0 (fun b => (P b ∧ ¬ Ps b) ∨ Pn b) H' σ (ρ.set i (some (n + 1, .obj c' fs' ds'))) ∧ Rel K O P H (fun b => (P b ∧ ¬ Ps b) ∨ Pn b) H' := by
  obtain ⟨fp, r, nd⟩ := s.rep
  obtain ⟨v, fp1, h1, h2, h3, h4, h5⟩ := SlR.mod r nd q
  cases dob <;> try exact absurd hob Bool.false_ne_true
  rename_i c0 fs ds
  simp only [isObj, Bool.and_eq_true, decide_eq_true_eq, Bool.not_eq_true'] at hob
  obtain ⟨rfl, hob⟩ := hob
  have h2' := h2
  cases h2 with | @ob _ a dx C _ _ xs _ fpf hH hl hC hPa hf =>
    have inP := h2'.inP
    refine ⟨a, C, dx, _, fun b => b ∈ a :: fpf, a :: fpf, h1, hC, hH, lookup_zipN (by rw [List.any_map]; exact hob), fun b z => (inP b z).1, fun b z => (inP b z).2,
      (Ow.ob (n := 0) hH hl hC hPa hf).tr (fun w e r => r.less fun b z => z.elim (fun z => z.1) fun z => .inr (inP b z).1) fun b hb => ⟨fun _ => hb, fun _ e => e⟩, h3, fun H' Pn fp' c' fs' ds' sb hP ow nq => ?_⟩
    have ow1 : Ow K (fun b => ((O b ∨ P b) ∧ ¬ b ∈ a :: fpf) ∨ Pn b) Pn H' (n + 1) (.ref a) (.obj c' fs' ds') fp' := by
      cases ow with | ob k1 k2 k3 k4 k5 => exact .ob k1 k2 k3 k4 k5
    have st : Stay K (fun b => O b ∨ (P b ∨ Pn b)) H H' := sb.stay (fun b z => (inP b z).2) fun b z => .inr (.inl (inP b z).1)
    have hr : ∀ w e, Rp K (fun b => O b ∨ P b) H w e → Rp K (fun b => O b ∨ ((P b ∧ ¬ b ∈ a :: fpf) ∨ Pn b)) H' w e := fun w e r =>
      ((r.more (O' := fun b => O b ∨ (P b ∨ Pn b)) fun b z => by
        rcases z with z | z | z
        · exact .inl (.inl z)
        · exact .inl (.inr z)
        · exact (hP b z).1.elim (fun y => .inl (.inr (inP b y).1)) .inr).stay st).less fun b z => by
        rcases z with z | z | z
        · exact .inl z
        · exact .inr (.inl z.1)
        · exact .inr (.inr z)
    obtain ⟨fp2, g1, g2, _⟩ := h5 _ (fun b => (P b ∧ ¬ b ∈ a :: fpf) ∨ Pn b) H' (n + 1) (.obj c' fs' ds') fp' hr (fun b _ nb => ⟨fun p => .inl ⟨p, nb⟩, fun o e => (sb b o e).1 nb⟩)
      (ow1.tr (fun w e r => r.less fun b z => by
        rcases z with z | z | z
        · exact .inl ⟨.inl z, fun y => s.pO b (inP b y).1 z⟩
        · exact .inl ⟨.inr z.1, z.2⟩
        · exact .inr z) fun b hb => ⟨.inr, fun _ e => e⟩) nq fun b hb => (hP b (ow.inP b hb).1).1.elim .inl fun y => .inr fun z => by
          obtain ⟨o, e, _⟩ := (r.inP b z).2
          rw [y] at e; cases e
    refine ⟨⟨s.same.seq sb fun b z => (s.pnew b (inP b z).1).1, s.odom, s.oB, fun b z => ?_, ⟨fp2, g1, g2⟩, s.pin.keep q _⟩, ⟨sb.stay (fun b z => (inP b z).2) fun b z => .inr (inP b z).1, fun b z => ?_⟩⟩
    · rcases z with z | z
      · obtain ⟨q1, u, e, m⟩ := s.pnew b z.1
        exact ⟨q1, u, (sb b u e).1 z.2, m⟩
      · obtain ⟨q1, q2⟩ := hP b z
        exact ⟨q1.elim (fun y => (s.pnew b (inP b y).1).1) fun y => .inr (s.same.free y), q2⟩
    · rcases z with z | z
      · exact .inl z.1
      · exact (hP b z).1.elim (fun y => .inl (inP b y).1) .inr
/-! ### an attribute of an owned instance is stored -/
theorem putF_none {f : Str} {n : Nat} {v : V} : ∀ {fs : List (Str × Nat)} {xs : List V}, fs.length = xs.length → fldIx fs f = none → putF f v ((fs.map (·.1)).zip xs) = ((fs ++ [(f, n)]).map (·.1)).zip (xs ++ [v])
  | [], [], _, _ => rfl
  | p :: fs, x :: xs, hl, h => by
    unfold fldIx at h
    rw [List.findIdx?_cons] at h
    by_cases e : p.1 = f
    · rw [if_pos (by simpa using e)] at h; cases h
    · rw [if_neg (by simpa using e)] at h
      have h' : fldIx fs f = none := by
        unfold fldIx
        cases q : fs.findIdx? fun p => decide (p.1 = f) with
        | none => rfl
        | some j => rw [q] at h; cases h
      have ih := putF_none (n := n) (v := v) (xs := xs) (by simpa using hl) h'
      show putF f v ((p.1, x) :: (fs.map (·.1)).zip xs) = (p.1, x) :: ((fs ++ [(f, n)]).map (·.1)).zip (xs ++ [v])
      unfold putF
      rw [if_neg e, ih]
theorem putF_some {f : Str} {n : Nat} {v : V} : ∀ {fs : List (Str × Nat)} {xs : List V} {j : Nat}, fs.length = xs.length → fldIx fs f = some j → putF f v ((fs.map (·.1)).zip xs) = ((fs.set j (f, n)).map (·.1)).zip (xs.set j v)
  | [], [], _, _, h => by cases h
  | p :: fs, x :: xs, j, hl, h => by
    unfold fldIx at h
    rw [List.findIdx?_cons] at h
    by_cases e : p.1 = f
    · rw [if_pos (by simpa using e)] at h
      cases h
      show putF f v ((p.1, x) :: (fs.map (·.1)).zip xs) = (f, v) :: (fs.map (·.1)).zip xs
      unfold putF
      rw [if_pos e, e]
    · rw [if_neg (by simpa using e)] at h
      cases q : fs.findIdx? fun p => decide (p.1 = f) with
      | none => rw [q] at h; cases h
      | some k =>
        rw [q] at h
        cases h
        have ih := putF_some (n := n) (v := v) (xs := xs) (j := k) (by simpa using hl) q
        show putF f v ((p.1, x) :: (fs.map (·.1)).zip xs) = (p.1, x) :: ((fs.set k (f, n)).map (·.1)).zip (xs.set k v)
        unfold putF
        rw [if_neg e, ih]
theorem SE.seta {i n m : Nat} {c f : Str} {fs : List (Str × Nat)} {ds : List D} (s : SE K O H0 P H σ ρ) (q : ρ[i]? = some (some (m + 1, .obj c fs ds))) (hlen : fs.length = ds.length) {v : V} {d : D} {fq : List Addr} {Hn : Hp} {P' : Addr → Prop}
    (t : Same H Hn) (fr : FreshP H Hn P') (ow : Ow K (fun a => (O a ∨ P a) ∨ P' a) P' Hn n v d fq) (nq : fq.Nodup) :
    ∃ a C dx xs, σ[i]? = some (some (.ref a)) ∧ H a = some (.ins C dx ((fs.map (·.1)).zip xs)) ∧ fs.length = xs.length ∧ PySem.W.nsIn K mainGlobals c = some (some (.ref C)) ∧ P a ∧
      SE K O H0 (fun a => P a ∨ P' a) (upd Hn a (.ins C dx (putF f v ((fs.map (·.1)).zip xs)))) σ (ρ.set i (some (m + 1, setaD c fs ds f n d))) := by
  obtain ⟨fp, r, nd⟩ := s.rep
  obtain ⟨w, fp1, h1, h2, h3, h4, h5⟩ := SlR.mod r nd q
  cases h2 with | @ob _ a dx C _ _ xs _ fpf hH hl hC hPa hf =>
    have hn : Hn a = some (.ins C dx ((fs.map (·.1)).zip xs)) := t _ _ hH
    refine ⟨a, C, dx, xs, h1, hH, hl, hC, hPa, ?_⟩
    have n3 := List.nodup_cons.mp h3
    have ne' : ∀ b, P' b → b ≠ a := fun b z e => by
      have := (fr b z).1
      rw [e, hH] at this; cases this
    have inP := r.inP
    have U : ∀ u : HO, Mo u → (∀ w e, Rp K (fun a => O a ∨ P a) H w e → Rp K (fun b => O b ∨ (P b ∨ P' b)) (upd Hn a u) w e) ∧ (∀ b, b ≠ a → ∀ zs, Hn b = some zs → upd Hn a u b = some zs) ∧ Ow K (fun b => O b ∨ (P b ∨ P' b)) (fun b => P b ∨ P' b) (upd Hn a u) n v d fq := fun u mu => by
      have hup : ∀ b, b ≠ a → ∀ zs, Hn b = some zs → upd Hn a u b = some zs := fun b nb zs e => by rw [upd_ne nb]; exact e
      refine ⟨fun w e r => ?_, hup, ?_⟩
      · refine Rp.wrM hn trivial (.inr (.inl hPa)) ((r.more fun b z => ?_).mono t)
        rcases z with z | z | z
        · exact .inl (.inl z)
        · exact .inl (.inr z)
        · exact .inr (fr b z).1
      · exact ow.tr (fun w e r => Rp.wrM hn trivial (.inr (.inl hPa)) (r.less fun b z => by
          rcases z with z | z | z
          · exact .inl (.inl z)
          · exact .inl (.inr z)
          · exact .inr z)) fun b hb => ⟨.inr, fun zs e => hup b (ne' b (ow.inP b hb).1) zs e⟩
    have disj : ∀ b ∈ fq, b ∉ fp := fun b hb z => by
      obtain ⟨zs, e, _⟩ := (inP b z).2
      rw [(fr b (ow.inP b hb).1).1] at e; cases e
    have fin : ∀ (u : HO) (d' : D) (fz : List Addr), Mo u → Ow K (fun b => O b ∨ (P b ∨ P' b)) (fun b => P b ∨ P' b) (upd Hn a u) (m + 1) (.ref a) d' fz → fz.Nodup → (∀ b ∈ fz, b ∈ a :: fpf ∨ b ∉ fp) → SE K O H0 (fun a => P a ∨ P' a) (upd Hn a u) σ (ρ.set i (some (m + 1, d'))) := fun u d' fz mu ho nz hz => by
      obtain ⟨hr, hup, _⟩ := U u mu
      obtain ⟨fp', g1, g2, _⟩ := h5 (fun b => O b ∨ (P b ∨ P' b)) (fun b => P b ∨ P' b) (upd Hn a u) (m + 1) d' fz hr
        (fun b hb nb => ⟨.inl, fun zs e => hup b (fun z => nb (z ▸ List.mem_cons_self)) zs (t _ _ e)⟩) ho nz hz
      refine ⟨(s.same.trans t).wr (s.pnew a hPa).1 mu, s.odom, s.oB, fun b z => ?_, ⟨fp', g1, g2⟩, s.pin.keep q _⟩
      rcases z with z | z
      · obtain ⟨q1, q2⟩ := s.pnew b z
        exact ⟨q1, Mok.wr mu (q2.same t)⟩
      · obtain ⟨q1, q2⟩ := fr b z
        exact ⟨.inr (s.same.free q1), Mok.wr mu q2⟩
    unfold setaD
    cases e : fldIx fs f with
    | none =>
      obtain ⟨hr, hup, ho⟩ := U (.ins C dx (putF f v ((fs.map (·.1)).zip xs))) trivial
      have hrow := Owf.snoc (hf.tr hr fun b hb => ⟨.inl, fun zs e => hup b (fun z => n3.1 (z ▸ hb)) zs (t _ _ e)⟩) ho
      refine fin _ _ (a :: (fpf ++ fq)) trivial (.ob (xs := xs ++ [v]) (by rw [upd_same, putF_none (n := n) hl e]) (by simp [hl]) hC (.inl hPa) (by rw [List.map_append]; exact hrow)) ?_ ?_
      · exact List.nodup_cons.mpr ⟨fun z => (List.mem_append.mp z).elim n3.1 fun z => disj a z (h4 a List.mem_cons_self), List.nodup_append.mpr ⟨n3.2, nq, fun b hb c hc e => disj c hc (e ▸ h4 b (List.mem_cons_of_mem _ hb))⟩⟩
      · exact fun b hb => (List.mem_cons.mp hb).elim (fun z => .inl (z ▸ List.mem_cons_self)) fun z => (List.mem_append.mp z).elim (fun z => .inl (List.mem_cons_of_mem _ z)) fun z => .inr (disj b z)
    | some j =>
      obtain ⟨hr, hup, ho⟩ := U (.ins C dx (putF f v ((fs.map (·.1)).zip xs))) trivial
      obtain ⟨p, hp, hpf⟩ := fldIx_at e
      have hj : j < fs.length := (List.getElem?_eq_some_iff.mp hp).1
      obtain ⟨v0, fp0, k1, k2, k3, k4, k5⟩ := Owf.at j hf n3.2 (by rw [List.getElem?_map, hp]; rfl) (List.getElem?_eq_getElem (hlen ▸ hj))
      obtain ⟨fz, m1, m2, m3, m4⟩ := k5 (fun b => O b ∨ (P b ∨ P' b)) (fun b => P b ∨ P' b) (upd Hn a (.ins C dx (putF f v ((fs.map (·.1)).zip xs)))) v n d fq hr (fun b hb _ => ⟨.inl, fun zs e => hup b (fun z => n3.1 (z ▸ hb)) zs (t _ _ e)⟩) ho nq fun b hb => .inr fun z => disj b hb (h4 b (List.mem_cons_of_mem _ z))
      refine fin _ _ (a :: fz) trivial (.ob (xs := xs.set j v) (by rw [upd_same, putF_some (n := n) hl e]) (by simp [hl]) hC (.inl hPa) (by rw [List.map_set]; exact m1)) ?_ ?_
      · exact List.nodup_cons.mpr ⟨fun z => (m3 a z).elim n3.1 fun z => disj a z (h4 a List.mem_cons_self), m2⟩
      · exact fun b hb => (List.mem_cons.mp hb).elim (fun z => .inl (z ▸ List.mem_cons_self)) fun z => (m3 b z).elim (fun z => .inl (List.mem_cons_of_mem _ z)) fun z => .inr (disj b z)
end
theorem sw_fld {o : Expr} {f : Str} {p' : Pos} {v : Expr} {l : Nat} {env : PySem.Env} (h : isLc v = false) : swapsWith v (some (.Attribute o f p')) l env = pure false := by
  cases v <;> first | rfl | cases h
theorem st_seta {X : Cx} {W : WX} (ok : OkS Γ cv lvl X W) {sc : Scope} (hsc : X.env.scope = sc) {i n : Nat} {f : Str} {b : Bool} {e : T} {x g : Str} {v : Expr} {p1 p2 pos : Pos} {fu : Nat} (h : chkS Γ sc (.seta i f n b e) (.Assign [.Attribute (.Name x p1) g p2] v pos) = true) :
    PS X (.Assign [.Attribute (.Name x p1) g p2] v pos) (tS X.K cv W (evS Γ fu (.seta i f n b e))) := by
  simp only [chkS, Bool.and_eq_true, decide_eq_true_eq, Bool.not_eq_true'] at h
  obtain ⟨⟨⟨⟨⟨⟨h1, h2⟩, h3⟩, rfl⟩, h5⟩, h6⟩, h7⟩ := h
  have he := sndO n e v sc ok.toOkX hsc h5 h6
  refine PS.weak (ps_fld (nameE ok hsc (p := p1) h1 h2 h3) he (sw_fld h7)) fun E σ H ⟨O, H0, P, ρ, out, s, ev, po⟩ => ?_
  simp only [evS] at ev
  split at ev
  case h_2 => cases ev
  rename_i m0 c fs ds hq
  obtain ⟨⟨⟨hcl, hlen, h1000⟩, hnb⟩, ev⟩ := if_some' ev
  have fin : ∀ {Hn : Hp} {w : V} {d : D} {P' : Addr → Prop} {fq : List Addr}, some (Out.nx (ρ.set i (some (m0 + 1, setaD c fs ds f n d)))) = some out → Same H Hn → FreshP H Hn P' → Ow X.K (fun a => (O a ∨ P a) ∨ P' a) P' Hn n w d fq → fq.Nodup →
      (tVar i) σ Hn fun y H2 => ∃ a C dx fs, y = .ref a ∧ H2 a = some (.ins C dx fs) ∧ Cls X.K C ∧ NoAttr X.K C f ∧ fs.length < 1000 ∧ E.nx σ (upd H2 a (.ins C dx (putF f w fs))) := fun {Hn w d P' fq} eo t fr ow nq => by
    cases eo
    obtain ⟨a, C, dx, xs, ea, ha, hl, hC, hPa, s2⟩ := s.seta (f := f) hq hlen t fr ow nq
    obtain ⟨c1, c2⟩ := cls_of ok.cls hcl hC
    refine ⟨.ref a, ea, a, C, dx, _, rfl, t _ _ ha, c1, c2, by rw [List.length_zip, List.length_map]; omega, po _ _ _ (none_wrM t ⟨_, t _ _ ha⟩) ⟨(Stay.of t).trans (.wrM (t _ _ ha) trivial (.inr hPa)), fun b z => z.elim .inl fun z => .inr (fr b z).1⟩ s2⟩
  cases n with
  | zero =>
    rw [if_pos rfl] at ev
    have hb0 : ∀ ρ, bnd (DE.ev Γ e ρ) (ownG 0) = DE.ev Γ e ρ := fun ρ => by
      cases DE.ev Γ e ρ with
      | none => rfl
      | some r => cases r <;> rfl
    refine go_tF0 (b := b) s (by rw [hb0]; exact ev) po fun H1 w d e1 ek t s1 r => ?_
    obtain ⟨hk, eo⟩ := if_some ek
    exact fin (P' := fun _ => False) (by rw [eo]) t freshP_none (.fz ((keep_b hk r).less fun a z => z.elim id False.elim)) .nil
  | succ n =>
    rw [if_neg (Nat.succ_ne_zero n)] at ev
    have hb : b = false := hnb.elim (fun z => absurd z (Nat.succ_ne_zero n)) id
    subst hb
    refine go_tFi s ev po fun H1 w d P1 fp e1 ek t fr ow nq => ?_
    obtain ⟨_, eo⟩ := if_some ek
    exact fin (by rw [eo]) t fr ow nq
theorem st_mcl {X : Cx} {W : WX} (ok : OkS Γ cv lvl X W) {sc : Scope} (hsc : X.env.scope = sc) {i o : Nat} {b : Bool} {args : List T} {x m : Str} {e1 : Expr} {es : List Expr} {p1 apos cpos pos : Pos} {fu : Nat} (h : chkS Γ sc (.mcl i o b args) (.Expr (.Call (.Attribute (.Name x p1) m apos) (e1 :: es) [] cpos) pos) = true) :
    PS X (.Expr (.Call (.Attribute (.Name x p1) m apos) (e1 :: es) [] cpos) pos) (tS X.K cv W (evS Γ fu (.mcl i o b args))) := by
  simp only [chkS, Bool.and_eq_true, decide_eq_true_eq] at h
  obtain ⟨⟨⟨⟨⟨⟨⟨⟨h1, h2⟩, h3⟩, h4⟩, h5⟩, h6⟩, h7⟩, h8⟩, h9⟩ := h
  cases hi : Γ.mks[i]? with
  | none => rw [hi] at h6; cases h6
  | some q =>
    rw [hi] at h6 h8
    obtain rfl : q.m = m := Option.some.inj h6
    have h8 : q.np = args.length := Option.some.inj h8
    obtain ⟨C, f, fd, ps, j, hps, hC, hj, F, B, hcl, hm⟩ := (ok.mks i q hi).ex
    have hs := (chks_star h9).2
    have key : PE X (.Call (.Attribute (.Name x p1) q.m apos) (e1 :: es) [] cpos) (tMethS C q.m (spM X.K cv q.np q.f) (WE W) (tVar o) (tA X.K cv W (evs Γ args))) :=
      pe_methS2 (nameE ok hsc h1 h2 h3) hcl (hm.2 h7) F (ok.room.mono (by omega)) B (fun σ => L2N.passAt ok.tk σ) (snds args (e1 :: es) X W sc ok.toOkX hsc h9) (stE (hs e1 List.mem_cons_self) es X.env) (stAny fun e he => hs e (List.mem_cons_of_mem _ he)) (meth_tree (attr_nm rfl q.m X.env) hs (by rw [List.length_cons]; omega) h4)
    refine PS.weak (ps_expr key) fun E σ H ⟨O, H0, P, ρ, out, s, ev, po⟩ => ?_
    simp only [evS, hi] at ev
    split at ev
    case h_2 => cases ev
    rename_i m0 dob hq
    obtain ⟨hob, ev⟩ := if_some' ev
    obtain ⟨a, C', dx, fs, _, _, ea, hC', ha, hlk, _⟩ := s.mcl hq hob
    rw [hC] at hC'
    cases hC'
    refine ⟨.ref a, ea, a, dx, fs, rfl, ha, hlk, ?_⟩
    refine tA.of (env_b s b) (GoG.wk (exE_go (R := Rps X.K (fun a => O a ∨ (b = false ∧ P a))) s ev po) fun vs H1 ⟨ds, e2, ek, s1, s2, rs⟩ => ?_)
    obtain ⟨hb, ek⟩ := if_some' ek
    have rs : Rps X.K (fun a => O a ∨ P a) H1 vs ds := hb.elim (fun z => rs.less fun a y => y.elim .inl fun y => .inr ⟨z, y⟩) fun z => Rps.noL z rs
    obtain ⟨a', C', dx', fs', Ps, fp1, ea', _, ha', _, hPsP, hPsM, ow, nq, fin⟩ := s2.mcl hq hob
    rw [ea] at ea'
    cases ea'
    refine ⟨fun b => (O b ∨ P b) ∧ ¬ Ps b, Ps, a, vs, dob, ds, fp1, rfl, by rw [rs.length, evs_len Γ args _ ds e2, h8], fun b z => s2.dom b z.1, fun b z => z.2, hPsM, rs.less fun b z => z.elim (fun z => z.1) fun z => .inr (hPsP b z), ow, nq, ?_⟩
    cases ef : q.f dob ds with
    | none => rw [ef] at ek; cases ek
    | some r => cases r with
      | error c =>
        rw [ef] at ek
        cases ek
        exact fun H' sb => po H' σ (s2.same.seq sb fun b z => (s2.pnew b (hPsP b z)).1)
      | ok r =>
        rw [ef] at ek
        dsimp only [exE] at ek
        obtain ⟨r1, r2⟩ := r
        cases r1 <;> try (cases ek; done)
        cases r2 <;> try (cases ek; done)
        cases ek
        intro H2 w Pn fp' sb hP ow2 nq2 rw2
        obtain ⟨s3, rl⟩ := fin H2 Pn fp' _ _ _ sb hP ow2 nq2
        exact po _ _ _ (fun b z => s1.free (sb.free z)) ⟨(Stay.of s1).trans rl.st, fun b z => (rl.own b z).elim .inl fun z => .inr (s1.free z)⟩ s3
end
end DE
set_option linter.all false
set_option maxRecDepth 100000
set_option maxHeartbeats 4000000
namespace DE
open PySem PySem.Spec PyProof.Rows L2
section
variable {Γ : G} {cv : Str → Value} {lvl : Nat}
theorem Rel.setN {K : PySem.W.Frag} {O P P1 : Addr → Prop} {H H' : Hp} (s : Same H H') (fr : FreshP H H' P1) : Rel K O P H (fun a => P a ∨ P1 a) H' := ⟨.of s, fun a z => z.elim .inl fun z => .inr (fr a z).1⟩
theorem same_none {H H' : Hp} (s : Same H H') : ∀ a, H' a = none → H a = none := fun a z => s.free z
theorem tB_go {X : Cx} {W : WX} {O P Pq : Addr → Prop} {H0 : Ent} {H Hq : Hp} {σ : L2.St} {ρ : List Sl} {f : Env → M Bool} {k : Bool → Option Out} {out : Out} {E : Ends} {Q : Bool → Hp → Prop} (s : SE X.K O H0 P H σ ρ) (e : exE (f (bor ρ)) k = some out) (po : Post X.K cv W O H0 Pq Hq E out)
    (h : ∀ H' b, k b = some out → Same H H' → SE X.K O H0 P H' σ ρ → Q b H') : tB X.K cv W f σ H Q :=
  tB.of s.bor (GoG.wk (exE_go (R := fun (_ : Hp) (b b' : Bool) => b = b') s e po) fun v H' ⟨d, e1, e2, s1, s2, r⟩ => h H' v (r ▸ e2) s1 s2)
def forF (p : Pt) (fb : List Sl → Option Out) : D → List Sl → Option Out := fun d ρ => match pat p d with
      | none => none
      | some l => fb (setS ρ l)
/-- the walk of a for -/
theorem for_core {K : PySem.W.Frag} {W : WX} {O P Pq : Addr → Prop} {H0 : Ent} {H1 Hq : Hp} {ρ : List Sl} {out : Out} {items : List D} {J : It} {p : Pt} {fb : List Sl → Option Out} {E : Ends} {σ : L2.St} (s : SE K O H0 P H1 σ ρ) (en : En K (fun a => O a ∨ P a) H1 J items) (e : forO (forF p fb) items ρ = some out)
    (hn : ∀ a, H1 a = none → Hq a = none) (rl : Rel K O Pq Hq P H1) (po : Post K cv W O H0 Pq Hq E out) :
    ∃ W' : Nat → Nat → L2.St → Hp → Prop, (∃ m, W' 0 m σ H1) ∧ ∀ i m σ H, W' i m σ H →
      (J.stop i H ∧ E.nx σ H) ∨ (J.go i H ∧ ∃ N : L2.St → Hp → Prop, (∀ σ' H', N σ' H' → ∃ m', m' < m ∧ W' (i + 1) m' σ' H') ∧ ∀ x H', J.yld i H x H' → gP K p x σ H' fun σ2 H2 => tS K cv W fb { E with nx := N, ct := N, bk := E.nx } σ2 H2) := by
  let Om : Addr → Prop := fun a => (O a ∨ P a) ∨ H1 a = none
  have oO : ∀ a, Om a → (O a ∨ P a) ∨ H1 a = none := fun a z => z
  let Pv : Nat → L2.St → Hp → Prop := fun i σ H => ∃ P' ρ', SE K O H0 P' H σ ρ' ∧ forO (forF p fb) (items.drop i) ρ' = some out ∧ (∀ a, H a = none → H1 a = none) ∧ Rel K O P H1 P' H
  have stay : ∀ {P' : Addr → Prop} {H : Hp}, Rel K O P H1 P' H → Stay K Om H1 H := fun r => r.st.less fun a z => .inl z
  refine ⟨fun i m σ H => m = items.length - i ∧ i ≤ items.length ∧ Pv i σ H, ⟨items.length, by simp, Nat.zero_le _, P, ρ, s, e, fun _ z => z, .refl⟩, ?_⟩
  rintro i m σ3 H ⟨rfl, hi, P', ρ', s', e', n', r'⟩
  by_cases hlt : i < items.length
  · refine .inr ⟨en.go Om oO H i (stay r') hlt, Pv (i + 1), fun σ' H' p' => ⟨items.length - (i + 1), by omega, rfl, hlt, p'⟩, fun x H' y => ?_⟩
    obtain ⟨sy, rx⟩ := en.yld Om oO H i items[i] x H' (stay r') (List.getElem?_eq_getElem hlt) y
    replace s' := s'.mono sy
    replace r' := Rel.trans n' r' (Rel.same sy)
    replace n' : ∀ a, H' a = none → H1 a = none := fun a z => n' a (sy.free z)
    rw [List.drop_eq_getElem_cons hlt] at e'
    unfold forO at e'
    have rx' : Rp K (fun a => O a ∨ P' a) H' x items[i] := rx.less fun a z => z.elim (fun z => .inl (.inl z)) fun z => (r'.own a z).elim (fun z => .inl (.inr z)) .inr
    cases hp : pat p items[i] with
    | none => simp only [forF, hp] at e'; cases e'
    | some l =>
      refine ⟨_, items[i], l, rx', hp, fun vl bd => ?_⟩
      have s2 := s'.setB bd
      have nxt : ∀ ρ2, forO (forF p fb) (items.drop (i + 1)) ρ2 = some out → ∀ H2 σ2 P2, (∀ a, H2 a = none → H' a = none) → Rel K O P' H' P2 H2 → SE K O H0 P2 H2 σ2 ρ2 → Pv (i + 1) σ2 H2 := fun ρ2 e2 H2 σ2 P2 n2 r2 s2 => ⟨P2, ρ2, s2, e2, fun a z => n' a (n2 a z), r'.trans n' r2⟩
      have hF : forF p fb items[i] ρ' = fb (setS ρ' l) := by simp only [forF, hp]
      rw [hF] at e'
      cases ho : fb (setS ρ' l) with
      | none => rw [ho] at e'; cases e'
      | some o =>
        rw [ho] at e'
        refine ⟨O, H0, P', setS ρ' l, o, s2, ho, ?_⟩
        cases o with
        | nx ρ2 => exact nxt ρ2 e'
        | ct ρ2 => exact nxt ρ2 e'
        | bk ρ2 =>
          cases e'
          exact fun H2 σ2 P2 n2 r2 s2 => po H2 σ2 P2 (fun a z => hn a (n' a (n2 a z))) (rl.trans hn (r'.trans n' r2)) s2
        | ret d => cases e'; exact po
        | exc c => cases e'; exact po
        | rtm ρ2 =>
          cases e'
          exact fun H2 σ2 P2 n2 r2 s2 => po H2 σ2 P2 (fun a z => hn a (n' a (n2 a z))) (rl.trans hn (r'.trans n' r2)) s2
  · have ei : i = items.length := by omega
    subst ei
    rw [List.drop_length] at e'
    cases e'
    exact .inl ⟨en.stop Om oO H (stay r'), po H σ3 P' (fun a z => hn a (n' a z)) (rl.trans hn r') s'⟩
/-- a range's items are what they are, whatever is owned -/
def tIr (K : PySem.W.Frag) (cv : Str → Value) (W : WX) (f : Env → M (List D)) : TI := fun σ H R => ∃ O ρ, EnvR K O H σ ρ ∧ GoG (fun H1 J ds => ∀ O', En K O' H1 J ds) (Wc cv W σ) H R (f ρ)
theorem i_rng1r {X : Cx} {W : WX} {tg e : Expr} {p pos : Pos} {fa : Env → M (List D)} (hg : Gl X "range") (hm : X.mg "range" = none) (hs : noStar e = true) (h : PA X [e] (tA X.K cv W fa)) :
    PI X tg (.Call (.Name "range" p) [e] [] pos) (tIr X.K cv W fun ρ => bnd (fa ρ) fun ds => lft (itD .rng1 ds)) := by
  refine PI.weak (pi_range1 hg hm h (stE hs [] X.env)) fun σ H R ⟨O, ρ, env, g⟩ => ?_
  refine tA.of env ((GoG.bndE (R := Rps X.K O) g).wk fun vs H1 ⟨ds, s1, rs, g1⟩ => ?_)
  have g1 : GoG (fun H1 J ds => ∀ O', En X.K O' H1 J ds) (Wc cv W σ) H1 R (lft (it1 ds)) := g1
  unfold it1 at g1
  split at g1
  · rename_i j _
    split at g1
    · rename_i hz
      cases rs with | cons r1 rn => cases rn; cases r1; exact ⟨j, rfl, hz.1, hz.2, g1 H1 _ (Same.refl _) fun O' => en_rng⟩
    · exact g1.elim
  · exact g1.elim
theorem i_rng2r {X : Cx} {W : WX} {tg e e2 : Expr} {p pos : Pos} {fa : Env → M (List D)} (hg : Gl X "range") (hm : X.mg "range" = none) (hs : noStar e = true) (hs2 : noStar e2 = true) (h : PA X [e, e2] (tA X.K cv W fa)) :
    PI X tg (.Call (.Name "range" p) [e, e2] [] pos) (tIr X.K cv W fun ρ => bnd (fa ρ) fun ds => lft (itD .rng2 ds)) := by
  refine PI.weak (pi_range2 hg hm h (by rw [stE hs, stE hs2]; rfl) (stE hs2 [] X.env)) fun σ H R ⟨O, ρ, env, g⟩ => ?_
  refine tA.of env ((GoG.bndE (R := Rps X.K O) g).wk fun vs H1 ⟨ds, s1, rs, g1⟩ => ?_)
  have g1 : GoG (fun H1 J ds => ∀ O', En X.K O' H1 J ds) (Wc cv W σ) H1 R (lft (it2 ds)) := g1
  unfold it2 at g1
  split at g1
  · rename_i i j _
    split at g1
    · rename_i hz
      cases rs with | cons r1 rn => cases rn with | cons r2 rn => cases rn; cases r1; cases r2; exact ⟨i, j, rfl, ⟨hz.1, hz.2.1, hz.2.2.1, hz.2.2.2⟩, g1 H1 _ (Same.refl _) fun O' => en_rng⟩
    · exact g1.elim
  · exact g1.elim
theorem i_rng3r {X : Cx} {W : WX} {tg e e2 e3 : Expr} {p pos : Pos} {fa : Env → M (List D)} (hg : Gl X "range") (hm : X.mg "range" = none) (hs : noStar e = true) (hs2 : noStar e2 = true) (hs3 : noStar e3 = true) (h : PA X [e, e2, e3] (tA X.K cv W fa)) :
    PI X tg (.Call (.Name "range" p) [e, e2, e3] [] pos) (tIr X.K cv W fun ρ => bnd (fa ρ) fun ds => lft (itD .rng3 ds)) := by
  refine PI.weak (pi_range3 hg hm h (stE hs [e2, e3] X.env) (stAny (es := [e2, e3]) fun e he => by rcases List.mem_cons.mp he with rfl | he; exact hs2; rw [List.mem_singleton.mp he]; exact hs3)) fun σ H R ⟨O, ρ, env, g⟩ => ?_
  refine tA.of env ((GoG.bndE (R := Rps X.K O) g).wk fun vs H1 ⟨ds, s1, rs, g1⟩ => ?_)
  replace g1 : GoG (fun H1 J ds => ∀ O', En X.K O' H1 J ds) (Wc cv W σ) H1 R (lft (it3 ds)) := g1
  unfold it3 at g1
  split at g1
  · rename_i i j c
    split at g1
    · rename_i hz
      obtain ⟨rfl, h1, h2, h3, h4⟩ := hz
      cases rs with | cons r1 rn => cases rn with | cons r2 rn => cases rn with | cons r3 rn =>
        cases rn; cases r1; cases r2; cases r3
        exact ⟨i, j, -1, (i - j).toNat, rfl, RgC.neg h1 h2 h3 h4, g1 H1 _ (Same.refl _) fun O' => en_rngC⟩
    · exact g1.elim
  · exact g1.elim
theorem sndIr {Γ : G} (k : IK) (ts : List T) (e tg : Expr) (X : Cx) (W : WX) (sc : Scope) (ok : OkX Γ cv lvl X W) (hsc : X.env.scope = sc) (h : chkI Γ sc k ts tg e = true) (hk : k.rg = true) : PI X tg e (tIr X.K cv W fun ρ => bnd (evs Γ ts ρ) fun ds => lft (itD k ds)) := by
  cases k with
  | rng1 =>
    match ts, h with
    | [t], h =>
      cases e <;> try exact absurd h Bool.false_ne_true
      rename_i f es ks pos _
      cases f <;> try exact absurd h Bool.false_ne_true
      rename_i x p _
      match es, ks, h with
      | [e], [], h =>
        simp only [chkI, Bool.and_eq_true, decide_eq_true_eq] at h
        obtain ⟨⟨⟨rfl, h1⟩, h2⟩, h3⟩ := h
        exact i_rng1r (gl_of hsc h1) (ok.blt _ (by decide +kernel)) h3 (a_cons h3 (snd t _ X W sc ok hsc h2).1 a_nil)
    | [], h => exact absurd h Bool.false_ne_true
    | _ :: _ :: _, h => exact absurd h Bool.false_ne_true
  | rng2 =>
    match ts, h with
    | [t, u], h =>
      cases e <;> try exact absurd h Bool.false_ne_true
      rename_i f es ks pos _
      cases f <;> try exact absurd h Bool.false_ne_true
      rename_i x p _
      match es, ks, h with
      | [e, e2], [], h =>
        simp only [chkI, Bool.and_eq_true, decide_eq_true_eq] at h
        obtain ⟨⟨⟨⟨⟨rfl, h1⟩, h2⟩, h3⟩, h4⟩, h5⟩ := h
        exact i_rng2r (gl_of hsc h1) (ok.blt _ (by decide +kernel)) h3 h5 (a_cons h3 (snd t _ X W sc ok hsc h2).1 (a_cons h5 (snd u _ X W sc ok hsc h4).1 a_nil))
    | [], h => exact absurd h Bool.false_ne_true
    | [_], h => exact absurd h Bool.false_ne_true
    | _ :: _ :: _ :: _, h => exact absurd h Bool.false_ne_true
  | rng3 =>
    match ts, h with
    | [t, u, v], h =>
      cases e <;> try exact absurd h Bool.false_ne_true
      rename_i f es ks pos _
      cases f <;> try exact absurd h Bool.false_ne_true
      rename_i x p _
      match es, ks, h with
      | [e, e2, e3], [], h =>
        simp only [chkI, Bool.and_eq_true, decide_eq_true_eq] at h
        obtain ⟨⟨⟨⟨⟨⟨⟨rfl, h1⟩, h2⟩, h3⟩, h4⟩, h5⟩, h6⟩, h7⟩ := h
        exact i_rng3r (gl_of hsc h1) (ok.blt _ (by decide +kernel)) h3 h5 h7 (a_cons h3 (snd t _ X W sc ok hsc h2).1 (a_cons h5 (snd u _ X W sc ok hsc h4).1 (a_cons h7 (snd v _ X W sc ok hsc h6).1 a_nil)))
    | [], h => exact absurd h Bool.false_ne_true
    | [_], h => exact absurd h Bool.false_ne_true
    | [_, _], h => exact absurd h Bool.false_ne_true
    | _ :: _ :: _ :: _ :: _, h => exact absurd h Bool.false_ne_true
  | seq => cases hk
  | enum => cases hk
  | zip => cases hk
  | rev => cases hk
theorem st_for {X : Cx} {W : WX} (ok : OkS Γ cv lvl X W) {sc : Scope} (hsc : X.env.scope = sc) {p : Pt} {k : IK} {b : Bool} {args : List T} {tg it : Expr} {eb : List Stmt} {pos : Pos} {fb : List Sl → Option Out} (h1 : noSet it = true) (h2 : chkI Γ sc k args tg it = true) (h3 : chkP Γ.N sc p tg = true) (hb : PSs X eb (tS X.K cv W fb)) :
    PS X (.For tg it eb [] pos) (tS X.K cv W fun ρ => exE (bnd (evs Γ args (envB b ρ)) fun ds => lft (itD k ds)) fun items => if b = true ∧ k.rg = false then none else forO (forF p fb) items ρ) := by
  have hg := pg_ok ok.calm ok.nd (def_loc ok hsc) p tg (by rw [ok.nN]; exact h3)
  by_cases hz : b = true ∧ k.rg = false
  · refine PS.weak (ps_for ok.hp ok.calm (sndI k args it tg X W sc ok.toOkX hsc h2) hg hb (noSet_ok h1 X.env)) fun E σ H ⟨O, H0, P, ρ, out, s, ev, po⟩ => ?_
    dsimp only at ev
    refine ⟨_, _, env_b s b, GoG.wk (exE_go (R := fun H1 J ds => En X.K (fun a => O a ∨ (b = false ∧ P a)) H1 J ds) s ev po) fun J H1 ⟨items, eI, e2, s1, s2, en⟩ => ?_⟩
    rw [if_pos hz] at e2
    cases e2
  · cases b with
    | false =>
      refine PS.weak (ps_for ok.hp ok.calm (sndI k args it tg X W sc ok.toOkX hsc h2) hg hb (noSet_ok h1 X.env)) fun E σ H ⟨O, H0, P, ρ, out, s, ev, po⟩ => ?_
      dsimp only at ev
      refine ⟨_, _, s.stc, GoG.wk (exE_go (R := fun H1 J ds => En X.K (fun a => O a ∨ P a) H1 J ds) s ev po) fun J H1 ⟨items, eI, e2, s1, s2, en⟩ => ?_⟩
      rw [if_neg hz] at e2
      exact for_core s2 en e2 (same_none s1) (.same s1) po
    | true =>
      have hk : k.rg = true := by cases q : k.rg with | true => rfl | false => exact absurd ⟨rfl, q⟩ hz
      refine PS.weak (ps_for ok.hp ok.calm (sndIr k args it tg X W sc ok.toOkX hsc h2 hk) hg hb (noSet_ok h1 X.env)) fun E σ H ⟨O, H0, P, ρ, out, s, ev, po⟩ => ?_
      dsimp only at ev
      refine ⟨_, _, s.bor, GoG.wk (exE_go (R := fun H1 J ds => ∀ O', En X.K O' H1 J ds) s ev po) fun J H1 ⟨items, eI, e2, s1, s2, en⟩ => ?_⟩
      rw [if_neg hz] at e2
      exact for_core s2 (en _) e2 (same_none s1) (.same s1) po
theorem st_whl {X : Cx} {W : WX} (ok : OkS Γ cv lvl X W) {c : Expr} {eb : List Stmt} {pos : Pos} {fc : Env → M Bool} {fb : List Sl → Option Out} {fu : Nat} (hc : PT X c (tB X.K cv W fc)) (hb : PSs X eb (tS X.K cv W fb)) :
    PS X (.While c eb [] pos) (tS X.K cv W fun ρ => whlO (fun ρ => fc (bor ρ)) fb fu ρ) := by
  refine PS.weak (ps_while ok.hp hc hb) fun E σ H ⟨O, H0, P, ρ, out, s, ev, po⟩ => ?_
  dsimp only at ev
  refine ⟨fun m σ H1 => ∃ P' ρ', SE X.K O H0 P' H1 σ ρ' ∧ whlO (fun ρ => fc (bor ρ)) fb m ρ' = some out ∧ (∀ a, H1 a = none → H a = none) ∧ Rel X.K O P H P' H1, ⟨fu, P, ρ, s, ev, fun _ z => z, .refl⟩, ?_⟩
  rintro m σ3 H1 ⟨P', ρ', s', e', n', r'⟩
  cases m with
  | zero => cases e'
  | succ m =>
    unfold whlO at e'
    refine tB_go s' e' po fun H2 b e2 s1 s2 => ?_
    cases b with
    | false =>
      cases e2
      exact po H2 σ3 P' (fun a z => n' a (s1.free z)) (r'.trans n' (.same s1)) s2
    | true =>
      refine ⟨fun σ H1 => ∃ P' ρ', SE X.K O H0 P' H1 σ ρ' ∧ whlO (fun ρ => fc (bor ρ)) fb m ρ' = some out ∧ (∀ a, H1 a = none → H a = none) ∧ Rel X.K O P H P' H1, fun σ' H' q => ⟨m, Nat.lt_succ_self m, q⟩, ?_⟩
      rw [if_pos rfl] at e2
      have nxt : ∀ ρ2, whlO (fun ρ => fc (bor ρ)) fb m ρ2 = some out → ∀ H3 σ2 P2, (∀ a, H3 a = none → H2 a = none) → Rel X.K O P' H2 P2 H3 → SE X.K O H0 P2 H3 σ2 ρ2 → ∃ P' ρ', SE X.K O H0 P' H3 σ2 ρ' ∧ whlO (fun ρ => fc (bor ρ)) fb m ρ' = some out ∧ (∀ a, H3 a = none → H a = none) ∧ Rel X.K O P H P' H3 :=
        fun ρ2 e3 H3 σ2 P2 n2 r2 s3 => ⟨P2, ρ2, s3, e3, fun a z => n' a (s1.free (n2 a z)), (r'.trans n' (.same s1)).trans (fun a z => n' a (s1.free z)) r2⟩
      cases ho : fb ρ' with
      | none => rw [ho] at e2; cases e2
      | some o =>
        rw [ho] at e2
        refine ⟨O, H0, P', ρ', o, s2, ho, ?_⟩
        cases o with
        | nx ρ2 => exact nxt ρ2 e2
        | ct ρ2 => exact nxt ρ2 e2
        | bk ρ2 =>
          cases e2
          exact fun H3 σ2 P2 n2 r2 s3 => po H3 σ2 P2 (fun a z => n' a (s1.free (n2 a z))) ((r'.trans n' (.same s1)).trans (fun a z => n' a (s1.free z)) r2) s3
        | ret d => cases e2; exact po
        | exc c => cases e2; exact po
        | rtm ρ2 =>
          cases e2
          exact fun H3 σ2 P2 n2 r2 s3 => po H3 σ2 P2 (fun a z => n' a (s1.free (n2 a z))) ((r'.trans n' (.same s1)).trans (fun a z => n' a (s1.free z)) r2) s3
end
end DE
set_option linter.all false
set_option maxRecDepth 100000
set_option maxHeartbeats 4000000
namespace DE
open PySem PySem.Spec PyProof.Rows L2
theorem PSs.of {X : Cx} {st : List Stmt} {t : TS} (w : ∀ D σ H, t D σ H → ∃ t', PSs X st t' ∧ t' D σ H) : PSs X st t := ⟨fun pins s σ H D I h => let ⟨t', p, q⟩ := w D σ H h; p.run pins s σ H D I q⟩
section
variable {Γ : G} {cv : Str → Value} {lvl : Nat} {X : Cx} {W : WX} {C : Addr} {c : Str}
def tH (K : PySem.W.Frag) (Ox : Addr → Prop) (n : Option (Nat × Addr)) (r : Option D) : TE := fun σ H Q => (∀ a, Ox a → ∃ o, H a = some o) ∧ (∀ i a, n = some (i, a) → σ[i]? = some (some (.ref a))) ∧ ∃ d, r = some d ∧ ∀ H' v, Same H H' → Rp K Ox H' v d → Q v H'
def tHs (K : PySem.W.Frag) (Ox : Addr → Prop) (n : Option (Nat × Addr)) (r : Option (List D)) : TA := fun σ H Q => (∀ a, Ox a → ∃ o, H a = some o) ∧ (∀ i a, n = some (i, a) → σ[i]? = some (some (.ref a))) ∧ ∃ d, r = some d ∧ ∀ H' v, Same H H' → Rps K Ox H' v d → Q v H'
theorem subG_mem {h : Str} {b : Bool} (e : subG Γ c h = some b) : (c, h, b) ∈ Γ.sub := by
  unfold subG at e
  cases q : Γ.sub.find? fun t => decide (t.1 = c) && decide (t.2.1 = h) with
  | none => rw [q] at e; cases e
  | some t =>
    rw [q] at e
    have h1 := List.find?_some q
    have h2 := List.mem_of_find?_eq_some q
    simp only [Bool.and_eq_true, decide_eq_true_eq] at h1
    obtain ⟨t1, t2, t3⟩ := t
    cases e
    obtain ⟨rfl, rfl⟩ := h1
    exact h2
mutual
theorem sH (ok : OkS Γ cv lvl X W) {sc : Scope} (hsc : X.env.scope = sc) {a : Addr} {oe : Obj} {pn : List (Addr × Obj)} (hcv : cv c = .ref C) (hz : Zc (.ref C) none oe) (hf : ∃ vs, oe.data = .fields vs) {nm : Option Str} {ni : Option (Nat × Addr)} (hni : ∀ x, nm = some x → ∃ i, ni = some (i, a) ∧ X.N[i]? = some x) (Ox : Addr → Prop) :
    ∀ (t : HT) (e : Expr), chkH sc nm t e = true → PE (X.suite a ((a, oe) :: pn)) e (tH X.K Ox ni (evH Γ c t))
  | .cst d, e, h => by
    cases e <;> try (cases d <;> exact absurd h Bool.false_ne_true)
    rename_i cc k pos
    cases d <;> cases cc <;> try exact absurd h Bool.false_ne_true
    · exact PE.weak pe_non fun σ H Q ⟨_, _, d, e, q⟩ => by cases e; exact q H _ (Same.refl _) .non
    · simp only [chkH, decide_eq_true_eq] at h
      subst h
      exact PE.weak pe_bl fun σ H Q ⟨_, _, d, e, q⟩ => by cases e; exact q H _ (Same.refl _) (.bl _)
    · simp only [chkH, decide_eq_true_eq] at h
      subst h
      exact PE.weak pe_int fun σ H Q ⟨_, _, d, e, q⟩ => by cases e; exact q H _ (Same.refl _) (.int _)
    · simp only [chkH, decide_eq_true_eq] at h
      subst h
      exact PE.weak pe_str fun σ H Q ⟨_, _, d, e, q⟩ => by cases e; exact q H _ (Same.refl _) (.str _)
  | .isE hh, e, h => by
    cases e <;> try exact absurd h Bool.false_ne_true
    rename_i f es ks pos
    cases f <;> try exact absurd h Bool.false_ne_true
    rename_i x p
    match es, ks, h with
    | [.Name e p1, .Name y p2], [], h =>
      simp only [chkH, Bool.and_eq_true, decide_eq_true_eq] at h
      obtain ⟨⟨⟨⟨⟨⟨⟨rfl, h1⟩, h2⟩, h3⟩, h4⟩, rfl⟩, h6⟩, h7⟩ := h
      obtain ⟨i, hi, hN⟩ := hni e h2
      refine PE.of fun σ H Q ⟨_, hs, d, ev, q⟩ => ?_
      simp only [evH] at ev
      cases e0 : subG Γ c y with
      | none => rw [e0] at ev; cases ev
      | some b =>
        rw [e0] at ev
        cases ev
        obtain ⟨v, u, C', ⟨r1, r2, r3⟩, e1, e2, e3, e4⟩ := (ok.subs _ (subG_mem e0)).ex
        have eC : C' = C := by
          have := e1.symm.trans hcv
          cases this; rfl
        subst eC
        have hge : Gl (X.suite a ((a, oe) :: pn)) y := gl_of (X := X) hsc h6
        have hgi : Gl (X.suite a ((a, oe) :: pn)) "isinstance" := gl_of (X := X) hsc h1
        have hy : PE (X.suite a ((a, oe) :: pn)) (.Name y p2) (tC v) := by
          rcases r3 with r3 | ⟨r3, r4, r5⟩
          · exact pe_glob hge r3 r1 (okName_of h7).1
          · exact pe_bltn hge r3 r4 r1 r5 (okName_of h7).1
        have he : PE (X.suite a ((a, oe) :: pn)) (.Name e p1) (tVar i) := pe_var (X := X.suite a ((a, oe) :: pn)) hN (by show Vis X.env.scope e; rw [hsc]; exact vis_of h4) (okName_of h3).1 (okName_of h3).2
        exact ⟨_, pe_callB (call_isE e2 hz hf) hgi (ok.blt _ (by decide +kernel)) (by decide +kernel) (pa_cons he (pa_cons hy pa_nil rfl) rfl) (by decide) (by decide) rfl rfl, _, hs i a hi, v, u, b, rfl, r2, e3, q H _ (Same.refl _) (.bl _)⟩
  | .lst hs, e, h => by
    cases e <;> try exact absurd h Bool.false_ne_true
    rename_i es pos
    refine PE.weak (pe_lst (sHs ok hsc hcv hz hf hni Ox hs es h)) fun σ H Q ⟨hO, h0, d, ev, q⟩ => ?_
    simp only [evH] at ev
    cases e1 : evHs Γ c hs with
    | none => rw [e1] at ev; cases ev
    | some ds =>
      rw [e1] at ev
      obtain ⟨hz, rfl⟩ := if_some ev
      exact ⟨hO, h0, ds, rfl, fun H1 vs s1 rs => ⟨by rw [rs.length]; exact hz, fun p hp => q _ _ (s1.trans (same_new hp _)) (new_lst (fun a z => let ⟨o, e⟩ := hO a z; ⟨o, s1 _ _ e⟩) hp rs)⟩⟩
  | .tup hs, e, h => by
    cases e <;> try exact absurd h Bool.false_ne_true
    rename_i es k pos
    refine PE.weak (pe_tup (sHs ok hsc hcv hz hf hni Ox hs es h)) fun σ H Q ⟨hO, h0, d, ev, q⟩ => ?_
    simp only [evH] at ev
    cases e1 : evHs Γ c hs with
    | none => rw [e1] at ev; cases ev
    | some ds =>
      rw [e1] at ev
      obtain ⟨hz, rfl⟩ := if_some ev
      exact ⟨hO, h0, ds, rfl, fun H1 vs s1 rs => ⟨by rw [rs.length]; exact hz, fun p hp => q _ _ (s1.trans (same_new hp _)) (new_tup hp rs)⟩⟩
  | .and a1 b1, e, h => by
    cases e <;> try exact absurd h Bool.false_ne_true
    rename_i op es pos
    cases op <;> try exact absurd h Bool.false_ne_true
    match es, h with
    | [ea, eb], h =>
      simp only [chkH, Bool.and_eq_true] at h
      refine PE.weak (pe_and (sH ok hsc hcv hz hf hni Ox a1 ea h.1) (pe_one (sH ok hsc hcv hz hf hni Ox b1 eb h.2))) fun σ H Q ⟨hO, h0, d, ev, q⟩ => ?_
      simp only [evH] at ev
      split at ev
      · rename_i e1
        refine ⟨hO, h0, _, e1, fun H1 v s1 r => ?_⟩
        cases r
        exact ⟨true, rfl, fun a z => let ⟨o, e⟩ := hO a z; ⟨o, s1 _ _ e⟩, h0, d, ev, fun H2 v s2 r => q H2 v (s1.trans s2) r⟩
      · rename_i e1
        refine ⟨hO, h0, _, e1, fun H1 v s1 r => ?_⟩
        cases r
        cases ev
        exact ⟨false, rfl, q H1 _ s1 (.bl _)⟩
      · cases ev
  | .and3 a1 b1 c1, e, h => by
    cases e <;> try exact absurd h Bool.false_ne_true
    rename_i op es pos
    cases op <;> try exact absurd h Bool.false_ne_true
    match es, h with
    | [ea, eb, ec], h =>
      simp only [chkH, Bool.and_eq_true] at h
      refine PE.weak (pe_and (sH ok hsc hcv hz hf hni Ox a1 ea h.1.1) (pe_and (sH ok hsc hcv hz hf hni Ox b1 eb h.1.2) (pe_one (sH ok hsc hcv hz hf hni Ox c1 ec h.2)))) fun σ H Q ⟨hO, h0, d, ev, q⟩ => ?_
      simp only [evH] at ev
      split at ev
      · rename_i e1
        refine ⟨hO, h0, _, e1, fun H1 v s1 r => ?_⟩
        cases r
        have hO1 : ∀ a, Ox a → ∃ o, H1 a = some o := fun a z => let ⟨o, e⟩ := hO a z; ⟨o, s1 _ _ e⟩
        refine ⟨true, rfl, hO1, h0, ?_⟩
        split at ev
        · rename_i e2
          refine ⟨_, e2, fun H2 v s2 r => ?_⟩
          cases r
          exact ⟨true, rfl, fun a z => let ⟨o, e⟩ := hO1 a z; ⟨o, s2 _ _ e⟩, h0, d, ev, fun H3 v s3 r => q H3 v (s1.trans (s2.trans s3)) r⟩
        · rename_i e2
          cases ev
          refine ⟨_, e2, fun H2 v s2 r => ?_⟩
          cases r
          exact ⟨false, rfl, q H2 _ (s1.trans s2) (.bl _)⟩
        · cases ev
      · rename_i e1
        refine ⟨hO, h0, _, e1, fun H1 v s1 r => ?_⟩
        cases r
        cases ev
        exact ⟨false, rfl, q H1 _ s1 (.bl _)⟩
      · cases ev
  | .nt a1, e, h => by
    cases e <;> try exact absurd h Bool.false_ne_true
    rename_i op e pos
    cases op <;> try exact absurd h Bool.false_ne_true
    refine PE.weak (pe_not (sH ok hsc hcv hz hf hni Ox a1 e h)) fun σ H Q ⟨hO, h0, d, ev, q⟩ => ?_
    simp only [evH] at ev
    split at ev
    · rename_i k e1
      cases ev
      refine ⟨hO, h0, _, e1, fun H1 v s1 r => ?_⟩
      cases r
      exact ⟨k, rfl, q H1 _ s1 (.bl _)⟩
    · cases ev
theorem sHs (ok : OkS Γ cv lvl X W) {sc : Scope} (hsc : X.env.scope = sc) {a : Addr} {oe : Obj} {pn : List (Addr × Obj)} (hcv : cv c = .ref C) (hz : Zc (.ref C) none oe) (hf : ∃ vs, oe.data = .fields vs) {nm : Option Str} {ni : Option (Nat × Addr)} (hni : ∀ x, nm = some x → ∃ i, ni = some (i, a) ∧ X.N[i]? = some x) (Ox : Addr → Prop) :
    ∀ (ts : List HT) (es : List Expr), chkHs sc nm ts es = true → PA (X.suite a ((a, oe) :: pn)) es (tHs X.K Ox ni (evHs Γ c ts))
  | [], [], h => PA.weak pa_nil fun σ H Q ⟨_, _, d, e, q⟩ => by cases e; exact q H [] (Same.refl _) .nil
  | t :: ts, e :: es, h => by
    simp only [chkHs, Bool.and_eq_true] at h
    refine PA.weak (pa_cons (sH ok hsc hcv hz hf hni Ox t e h.1.1) (sHs ok hsc hcv hz hf hni Ox ts es h.2) (stE h.1.2 es _)) fun σ H Q ⟨hO, h0, d, ev, q⟩ => ?_
    simp only [evHs] at ev
    split at ev
    · rename_i d1 ds e1 e2
      cases ev
      exact ⟨hO, h0, d1, e1, fun H1 v s1 r => ⟨fun a z => let ⟨o, e⟩ := hO a z; ⟨o, s1 _ _ e⟩, h0, ds, e2, fun H2 vs s2 rs => q H2 _ (s1.trans s2) (.cons (r.mono s2) rs)⟩⟩
    · cases ev
  | [], _ :: _, h => absurd h Bool.false_ne_true
  | _ :: _, [], h => absurd h Bool.false_ne_true
end
end
end DE
set_option linter.all false
set_option maxRecDepth 100000
set_option maxHeartbeats 4000000
namespace DE
open PySem PySem.Spec PyProof.Rows L2
section
variable {K : PySem.W.Frag} {OO P : Addr → Prop} {H : Hp}
theorem SlR.drop : ∀ {σ : L2.St} {ρ : List Sl} {fp : List Addr} (v : Nat), SlR K OO P H σ ρ fp → fp.Nodup → ∃ fp', SlR K OO P H σ (ρ.set v none) fp' ∧ fp'.Nodup ∧ ∀ a ∈ fp', a ∈ fp
  | _, _, _, v, .nil, nd => ⟨[], by cases v <;> exact .nil, nd, fun _ z => z⟩
  | _, _, _, 0, .un w r, nd => ⟨_, .un w r, nd, fun _ z => z⟩
  | _, _, _, v + 1, .un w r, nd => let ⟨fp', a, b, c⟩ := r.drop v nd; ⟨fp', .un w a, b, c⟩
  | _, _, _, 0, .som h r, nd => ⟨_, .un _ r, (List.nodup_append.mp nd).2.1, fun a z => List.mem_append_right _ z⟩
  | _, _, _, v + 1, .som h r, nd => by
    have n2 := List.nodup_append.mp nd
    obtain ⟨fp', a, b, c⟩ := r.drop v n2.2.1
    exact ⟨_, .som h a, List.nodup_append.mpr ⟨n2.1, b, fun x hx y hy => n2.2.2 x hx y (c y hy)⟩, fun x hx => (List.mem_append.mp hx).elim (List.mem_append_left _) fun z => List.mem_append_right _ (c x z)⟩
theorem SlR.putU : ∀ {σ : L2.St} {ρ : List Sl} {fp : List Addr} (v : Nat) (w : Option V), SlR K OO P H σ ρ fp → ρ.set v none = ρ → SlR K OO P H (σ.set v w) ρ fp
  | _, _, _, v, w, .nil, _ => by cases v <;> exact .nil
  | _, _, _, 0, w, .un _ r, _ => .un w r
  | _, _, _, v + 1, w, .un u r, e => .un u (r.putU v w (List.cons.inj e).2)
  | _, _, _, 0, w, .som h r, e => by cases (List.cons.inj e).1
  | _, _, _, v + 1, w, .som h r, e => .som h (r.putU v w (List.cons.inj e).2)
variable {O : Addr → Prop} {H0 : Ent} {σ : L2.St} {ρ : List Sl}
theorem SE.drop (s : SE K O H0 P H σ ρ) (v : Nat) : SE K O H0 P H σ (ρ.set v none) := by
  obtain ⟨fp, r, nd⟩ := s.rep
  obtain ⟨fp', a, b, _⟩ := r.drop v nd
  exact ⟨s.same, s.odom, s.oB, s.pnew, ⟨fp', a, b⟩, s.pin.drop v⟩
theorem SE.putU (s : SE K O H0 P H σ ρ) (v : Nat) (w : Option V) (e : ρ.set v none = ρ) : SE K O H0 P H (σ.set v w) ρ := by
  obtain ⟨fp, r, nd⟩ := s.rep
  exact ⟨s.same, s.odom, s.oB, s.pnew, ⟨fp, r.putU v w e, nd⟩, s.pin.putU v w e⟩
end
section
variable {Γ : G} {cv : Str → Value} {lvl : Nat}
/-- one store into the walked list's item -/
theorem rr_turn {K : PySem.W.Frag} {O P : Addr → Prop} {H0 : Ent} {H : Hp} {σ : L2.St} {ρ : List Sl} {i v k : Nat} {ds es : List D} (s : SE K O H0 P H σ ρ) (hn : i ≠ v) (hv : ρ.set v none = ρ) (e : ρ[i]? = some (some (2, .lst ds))) (ej : ds[k]? = some (.lst es)) {a c : Addr} {xs : List V} (ea : σ[i]? = some (some (.ref a))) (ha : H a = some (.lst xs)) (hc : xs[k]? = some (.ref c)) :
    SE K O H0 P H (σ.set v (some (.ref c))) ρ ∧ Rp K O H (.ref c) (.lst es) := by
  refine ⟨s.putU v _ hv, ?_⟩
  obtain ⟨w, h1, h2⟩ := s.bor.at' i (.lst ds) (by unfold bor; rw [List.getElem?_map, e]; rfl)
  rw [ea] at h1
  cases h1
  cases h2 with | lst h3 _ h4 =>
    rw [ha] at h3
    cases h3
    obtain ⟨u, h5, h6⟩ := h4.get ej
    rw [hc] at h5
    cases h5
    exact h6
theorem st_forr {X : Cx} {W : WX} (ok : OkS Γ cv lvl X W) {sc : Scope} (hsc : X.env.scope = sc) {i v : Nat} {ix e : T} {x y : Str} {p1 p2 p3 p4 ap pos : Pos} {j ve : Expr}
    (hx1 : Γ.N[i]? = some x) (hx2 : visB sc x = true) (hx3 : okName x = true) (hy1 : Γ.N[v]? = some y) (hy2 : visB sc y = true) (hy3 : okName y = true) (hy4 : locB sc y = true) (h4 : chk Γ sc ix (.one j) = true) (h5 : chk Γ sc e (.one ve) = true) (h6 : noSlice j = true) (h7 : isLc ve = false) :
    PS X (.For (.Name y p1) (.Name x p2) [.Assign [.Subscript (.Name y p3) j p4] ve ap] [] pos) (tS X.K cv W (rrS (ev Γ e) (ev Γ ix) i v)) := by
  have he := (snd e (.one ve) X W sc ok.toOkX hsc h5).1
  have hj := (snd ix (.one j) X W sc ok.toOkX hsc h4).1
  have hb := pss_one (ps_asg (pos := ap) he (pg_sub (pos := p4) (nameE ok hsc (p := p3) hy1 hy2 hy3) hj set_list (asg_sub h6)) (sw_sub h7) sws_sub)
  have hi := pi_list (tg := .Name y p1) (nameE ok hsc (p := p2) hx1 hx2 hx3)
  have hl := def_loc ok hsc y hy4
  have hg := pg_name (pos := p1) ok.nd (by rw [ok.nN]; exact hy1) hl.1 hl.2
  refine PS.weak (ps_for ok.hp ok.calm hi hg hb (fun _ => rfl)) fun E σ H ⟨O, H0, P, ρ, out, s, ev, po⟩ => ?_
  unfold rrS at ev
  split at ev
  case h_2 => cases ev
  rename_i ds hq
  obtain ⟨⟨hne, hvl⟩, ev⟩ := if_some' ev
  obtain ⟨a, xs, ea, ha, hp, hlen⟩ := s.lst hq
  refine ⟨.ref a, ea, a, rfl, ⟨xs, SqL.of ha⟩, ?_⟩
  let Pv : Nat → L2.St → Hp → Prop := fun k σ' H' => ∃ P' ρ' ds', SE X.K O H0 P' H' σ' ρ' ∧ rrO (DE.ev Γ e) (DE.ev Γ ix) i v (ds.length - k) k ρ' = some out ∧ ρ'[i]? = some (some (2, .lst ds')) ∧ ds'.length = ds.length ∧ ρ'.set v none = ρ' ∧ ρ'.length = ρ.length ∧ σ'[i]? = some (some (.ref a)) ∧ (∀ b, H' b = none → H b = none) ∧ Rel X.K O P H P' H'
  refine ⟨fun k m σ' H' => m = ds.length - k ∧ k ≤ ds.length ∧ Pv k σ' H', ⟨ds.length, rfl, Nat.zero_le _, P, ρ.set v none, ds, s.drop v, ev, by rw [List.getElem?_set_ne (Ne.symm hne)]; exact hq, rfl, by rw [List.set_set], by rw [List.length_set], ea, fun _ z => z, .refl⟩, ?_⟩
  rintro k m σ3 H3 ⟨rfl, hk, P', ρ', ds', s', e', hq', hl', hv', hL', ea', n', r'⟩
  obtain ⟨a2, xs', ea2, ha', _, hl2⟩ := s'.lst hq'
  rw [ea'] at ea2
  cases ea2
  by_cases hlt : k < ds.length
  · refine .inr ⟨⟨xs', xs'[k]'(by omega), SqL.of ha', List.getElem?_eq_getElem _⟩, Pv (k + 1), fun σ' H' p' => ⟨ds.length - (k + 1), by omega, rfl, hlt, p'⟩, ?_⟩
    rintro x4 H4 ⟨rfl, hy⟩
    have hx4 := hy xs' (SqL.of ha')
    obtain ⟨n, hn⟩ : ∃ n, ds.length - k = n + 1 := ⟨ds.length - k - 1, by omega⟩
    have hn2 : ds.length - (k + 1) = n := by omega
    rw [hn] at e'
    unfold rrO at e'
    rw [hq'] at e'
    split at e'
    case h_2 => rename_i z; exact absurd rfl (z ds')
    rename_i ds2 hz2
    cases hz2
    split at e'
    case h_2 => cases e'
    rename_i es hes
    obtain ⟨a5, xs5, c, ys, ea5, ha5, hl5, hx5, hc5, hl6, hcp, hw⟩ := s'.wr2 hq' hes
    rw [ea'] at ea5
    cases ea5
    rw [ha'] at ha5
    cases ha5
    rw [hx5] at hx4
    cases hx4
    obtain ⟨s2, rc⟩ := rr_turn s' hne hv' hq' hes ea' ha' hx5
    show tAsg _ _ _ (σ3.set v (some (.ref c))) H4
    have env2 : EnvR X.K O H4 (σ3.set v (some (.ref c))) ((bor ρ').set v (some (.lst es))) := s'.bor.set rc v
    refine tD.of env2 (GoG.wk (exE_go (R := Rp X.K O) s2 e' po) fun w H5 ⟨d, e1, e2, s3, s4, r⟩ => ?_)
    refine ⟨.ref c, ?_, ?_⟩
    · exact List.getElem?_set_self (by rw [s'.bor.len]; unfold bor; rw [List.length_map, hL']; exact hvl)
    refine tD.of (env2.mono s3) (GoG.wk (exE_go (R := Rp X.K O) s4 e2 po) fun u H6 ⟨dj, e3, e4, s5, s6, r2⟩ => ?_)
    cases dj <;> try (cases e4; done)
    rename_i q
    cases r2
    dsimp only at e4
    split at e4
    case h_2 => cases e4
    rename_i j3 hj3
    obtain ⟨hnl, e4⟩ := if_some' e4
    obtain ⟨a6, xs6, c6, ys6, ea6, ha6, hl8, hx6, hc6, hl7, hcp6, hw6⟩ := s6.wr2 hq' hes
    have ea7 : (σ3.set v (some (.ref c)))[i]? = some (some (.ref a)) := by rw [List.getElem?_set_ne (Ne.symm hne)]; exact ea'
    rw [ea7] at ea6
    cases ea6
    have e7 := (s3.trans s5) _ _ ha'
    rw [ha6] at e7
    cases e7
    rw [hx5] at hx6
    cases hx6
    refine ⟨c, ys6, q, j3, rfl, rfl, hc6, by rw [hl7]; exact hj3, ?_⟩
    have nn := none_wr (ys := ys6.set j3 w) hc6 (s3.trans s5)
    refine ⟨P', _, _, hw6 j3 w d (keep_b (b := true) (by simp [keepB, hnl]) ((r.mono s5).less fun a z => z.elim id fun z => absurd z.1 Bool.noConfusion)), by rw [hn2]; exact e4, List.getElem?_set_self (List.getElem?_eq_some_iff.mp hq').1, by rw [List.length_set]; exact hl', ?_, by rw [List.length_set]; exact hL', ea7, fun b z => n' b (nn b z), r'.trans n' ⟨(Stay.of (s3.trans s5)).trans (.wr hc6 (.inr hcp6)), fun a z => .inl z⟩⟩
    rw [List.set_comm _ _ (Ne.symm hne |>.symm), hv']
  · have ek : k = ds.length := by omega
    subst ek
    rw [Nat.sub_self] at e'
    cases e'
    exact .inl ⟨⟨xs', SqL.of ha', by omega⟩, po H3 σ3 P' n' r' s'⟩
theorem st_forF {X : Cx} {W : WX} (ok : OkS Γ cv lvl X W) {sc : Scope} (hsc : X.env.scope = sc) {i v : Nat} {ix e : T} {st : Stmt} (h : chkRR Γ sc i v ix e st = true) : PS X st (tS X.K cv W (rrS (ev Γ e) (ev Γ ix) i v)) := by
  unfold chkRR at h
  split at h
  · simp only [Bool.and_eq_true, decide_eq_true_eq, Bool.not_eq_true'] at h
    obtain ⟨⟨⟨⟨⟨⟨⟨⟨⟨⟨⟨h1, h2⟩, h3⟩, h4⟩, h5⟩, h6⟩, h7⟩, rfl⟩, h9⟩, h10⟩, h11⟩, h12⟩ := h
    exact st_forr ok hsc h1 h2 h3 h4 h5 h6 h7 h9 h10 h11 h12
  · exact absurd h Bool.false_ne_true
end
end DE
set_option linter.all false
set_option maxRecDepth 100000
set_option maxHeartbeats 4000000
namespace DE
open PySem PySem.Spec PyProof.Rows L2 HotX

/-! ### a list's end, where an exception is handled -/
section
variable {prog : Program} {w : World} {A : Around} {E : Value → Shared → Prop} {s : Shared}
/-- the word that nothing is left, said while x1 is handled: the new exception hangs at x1 -/
theorem stop_hot {α : Type} {x1 : Addr} {Q : α → Shared → Prop} (hot : HotAt A x1 s.heap)
    (hE : ∀ (h' : Heap) (e : Addr), (∀ b o, s.heap.get? b = some o → h'.get? b = some o) → ({ s with heap := h' } : Shared).TypeIs (.ref e) "StopIteration" → E (.ref e) { s with heap := h' }) :
    wpAny (model prog w) A (do raiseNew (← newExc (.type "StopIteration") []) : Sem α) Q E s := by
  obtain ⟨hh, o1, vs1, h1, d1, c1⟩ := hot
  have k : ∀ {b : Addr} {o : Obj} (u v : Obj), s.heap.get? b = some o → ((s.heap.push u).push v).get? b = some o := fun u v e => Heap.get?_push_of_some _ (Heap.get?_push_of_some _ e)
  unfold newExc newTuple
  refine wpAny_bind (wpAny_bind (wpAny_newObj_type (wpAny_bind (m := firstArgMember _ _) (wpAny_of_eq (a := Value.none) (by first | rfl | (simp only [firstArgMember]; rfl)) (wpAny_newObj_type ?_ (by size_fits)))) (by size_fits)))
  refine raiseNew_hot ⟨hh, o1, vs1, k _ _ h1, d1, c1⟩ (Nat.ne_of_lt (Heap.lt_size (Heap.get?_push_of_some _ h1))) (Heap.get?_push_size _ rfl) rfl (by first | (simp; done) | (simp; omega) | (simp only [Array.size_append]; simp; omega)) (hE _ _ (fun b o e => ?_) ⟨_, Heap.get?_update_self _ (Heap.get?_push_size _ rfl) rfl, rfl⟩)
  refine (Heap.get?_update_other _ _ ?_).trans (k _ _ e)
  exact Nat.ne_of_gt (Heap.lt_size (Heap.get?_push_of_some _ e))
/-- behind the last item -/
theorem list_over {it l x1 : Addr} {i : Nat} {items : Array Value} {Q : Option Value → Shared → Prop} (hot : HotAt A x1 s.heap) (hit : s.heap.IsListIter it l i) (hl : s.heap.IsList l items) (hx : items[i]? = none)
    (hQ : ∀ h', Heap.ExtBut it s.heap h' → Q none { s with heap := h' }) : wpAny (model prog w) A (pyNext (.ref it)) Q E s := by
  obtain ⟨o, ho, hc, hd⟩ := id hit
  obtain ⟨ol, hol, _, nl, hdl⟩ := hl
  obtain ⟨hh, o1, vs1, h1, d1, c1⟩ := hot
  have ne : x1 ≠ it := fun e => by
    rw [e, ho] at h1
    cases h1
    rw [hd] at d1
    cases d1
    cases c1
  have end_ : wpAny (model prog w) A.in1 (Builtin.«list_iterator.__next__» ⟨[.ref it], []⟩) (fun _ _ => False) (fun e s' => ∃ h', Heap.ExtBut it s.heap h' ∧ s' = { s with heap := h' } ∧ s'.TypeIs e "StopIteration") s := by
    show wpAny _ _ (field (.ref it) 0 >>= _) _ _ s
    refine wpAny_bind (wpAny_field ho hd (x := .ref l) rfl ?_)
    show wpAny _ _ (if (Value.ref l == Value.none) = true then _ else _) _ _ s
    rw [if_neg (by intro z; cases z)]
    show wpAny _ _ (field (.ref it) 1 >>= _) _ _ s
    refine wpAny_bind (wpAny_field ho hd (x := .int i 0) rfl ?_)
    show wpAny _ _ (seqItems? (.ref l) >>= _) _ _ s
    refine wpAny_bind (wpAny_seqItems hol hdl ?_)
    simp only [Int.toNat_natCast, hx]
    refine wpAny_bind (wpAny_rule (wpAny_bind (wpAny_setField ho hd (by simp) ?_)))
    refine stop_hot (x1 := x1) ⟨hh, o1, vs1, (Heap.get?_update_other _ _ (Ne.symm ne)).trans h1, d1, c1⟩ fun h' e k t => ⟨h', fun b ob hb eb => k b ob ((Heap.get?_update_other _ _ (Ne.symm hb)).trans eb), rfl, t⟩
  unfold pyNext
  refine wpAny_bind (wpAny_attempt (wpAny_callSpecial?_slot (name := Str.ofString "__next__") hit.typeIs slot_listiter_next (wpAny_call_entry slot_listiter_next hit.typeIs entry_listiter_next (wpAny_mono end_ (fun _ _ z => z.elim) fun e s' z => ?_) (args_listiter_next _))))
  obtain ⟨h', k, rfl, t⟩ := z
  exact wpAny_bind (wpAny_isInstance (T := "StopIteration") (b := true) t isSubtype_stop (wpAny_pure (hQ h' k)))
end
/-! ### [one for one in kinds if one], within an except suite -/
/-- slot i holds a list of Bools, which is gone through -/
def tSieve (i : Nat) : TE := fun σ H Q => ∃ (L : Addr) (bs : List Bool), σ[i]? = some (some (.ref L)) ∧ H L = some (.lst (bs.map V.bl)) ∧ bs.length < sizeLine ∧ ∀ D, H D = none → Q (.ref D) (upd H D (.lst ((bs.filter id).map V.bl)))
/-- the walk in the block: k items are done, D holds those that were true -/
structure Sv (X : Cx) (s : Shared) (H : Hp) (scope : Scope) (ce : PySem.Env) (it D L : Addr) (vs : List Nat) (σ : L2.St) (bs : List Bool) (k : Nat) (s' : Shared) : Prop where
  le : k ≤ bs.length
  inv : Inv (X.blk s (upd H D (.lst [])) scope ce [it]) [] (wipe σ vs) (upd H D (.lst (((bs.take k).filter id).map V.bl))) s'
  at_ : s'.heap.IsListIter it L k
theorem wipe_put {σ : L2.St} {vs : List Nat} {j : Nat} {v : Option V} (hj : j ∈ vs) : ∀ (m : Nat) (u : V), (wipe σ vs)[m]? = some (some u) → ((wipe σ vs).set j v)[m]? = some (some u) := fun m u e => by
  have hm := (wipe_some e).2
  rw [List.getElem?_set_ne fun z => hm (by rw [← z]; exact hj)]
  exact e
theorem sieve_turn {X : Cx} {s : Shared} {H : Hp} {scope : Scope} {ce : PySem.Env} {it D L : Addr} {vs : List Nat} {σ : L2.St} {bs : List Bool} {k j : Nat} {s' : Shared} {tg elt c : Expr} {R : Shared → Prop}
    (v : Sv X s H scope ce it D L vs σ bs k s') (hL : H L = some (.lst (bs.map V.bl))) (hD : H D = none) (hi : H it = none) (hDi : D ≠ it) (hz : bs.length < sizeLine) (hj : j ∈ vs) (hjN : j < X.N.length) (hk : k < bs.length)
    (hg : PG (X.blk s (upd H D (.lst [])) scope ce [it]) tg (gName j)) (ht : PTs (X.blk s (upd H D (.lst [])) scope ce [it]) [c] (fun σ H Q => ∃ b, σ[j]? = some (some (.bl b)) ∧ Q b H)) (he : PE (X.blk s (upd H D (.lst [])) scope ce [it]) elt (tVar j))
    (hR : ∀ s2, Sv X s H scope ce it D L vs σ bs (k + 1) s2 → R s2) :
    wpAny (model X.prog X.w) X.A (pyNext (.ref it)) (fun r s1 => ∃ u, r = some u ∧ wpAny (model X.prog X.w) X.A (letOwnedTupleGo tg (.ref it) u) (fun _ s2 => wpAny (model X.prog X.w) X.A (assign tg ce u) (fun _ s3 =>
      wpAny (model X.prog X.w) X.A (forIn [c] true fun c r => if r = true then do let ok ← isTrue c ce (eval c ce); pure (ForInStep.yield ok) else pure (ForInStep.yield r)) (fun ok s4 =>
        if ok = true then wpAny (model X.prog X.w) X.A (eval elt ce) (fun x s5 => wpAny (model X.prog X.w) X.A (call (.builtin "list.append") [.ref D, x]) (fun _ s6 => R s6) (fun _ _ => False) s5) (fun _ _ => False) s4
        else R s4) (fun _ _ => False) s3) (fun _ _ => False) s2) (fun _ _ => False) s1) (fun _ _ => False) s' := by
  obtain ⟨_, I, st⟩ := v
  have nLD : L ≠ D := fun e => by rw [e, hD] at hL; cases hL
  have fp : ∀ H', H' it = none → FpOk (X.blk s (upd H D (.lst [])) scope ce [it]) [] H' it := fun H' hn =>
    ⟨hn, (I.ok.exf it (by simp)).1, I.ok.exfs it (by simp), .inl (List.mem_cons_self), fun x c e => (I.ok.exf it (by simp)).2 x c e, fun p hp => absurd (show p ∈ ([] : List (Addr × Obj)) ++ [] from hp) (by simp)⟩
  have nit : ∀ acc, (upd H D (.lst acc)) it = none := fun acc => by rw [upd_ne (Ne.symm hDi)]; exact hi
  obtain ⟨its, rv, p, _⟩ := I.list (SqL.of (show (upd H D (.lst (((bs.take k).filter id).map V.bl))) L = some (.lst (bs.map V.bl)) by rw [upd_ne nLD]; exact hL))
  obtain ⟨u, hu, ru⟩ := rv.get (show (bs.map V.bl)[k]? = some (V.bl bs[k]) by rw [List.getElem?_map, List.getElem?_eq_getElem hk]; rfl)
  obtain ⟨f0, f1, f2, f3, f4, f5⟩ := fp _ (nit _)
  refine wpAny_pyNext_list_item st p.isList (x := u) (by simpa using hu) fun h' st' sb => ⟨u, rfl, ?_⟩
  have I1 := I.turned (t' := s'.toks) (fun b o hb e => (sb.2 b hb).trans e) f0 f1 f3 f4 f5
  obtain ⟨o, ho, hc, hd⟩ := id st'
  refine go_of (s := { s' with heap := h' }) ho hc hd (by decide) ?_
  have I2 := I1.pinned (fp := [it]) (fun b hb => by obtain rfl : b = it := (by simpa using hb); exact fp _ (nit _)) (fun b hb => by obtain rfl : b = it := (by simpa using hb); exact ⟨o, ho, fun v z => by rw [hd] at z; cases z⟩)
  refine thnF (hg.run _ _ _ _ (.bl bs[k]) u (fun σ' H' => σ' = (wipe σ vs).set j (some (.bl bs[k])) ∧ H' = upd H D (.lst (((bs.take k).filter id).map V.bl))) I2 ru ⟨rfl, rfl⟩) fun _ s3 ⟨σ3, H3, I3, e1, e2⟩ => ?_
  subst e1 e2
  have hjl : j < (wipe σ vs).length := by rw [I.len]; exact hjN
  have hjv : ((wipe σ vs).set j (some (.bl bs[k])))[j]? = some (some (.bl bs[k])) := List.getElem?_set_self hjl
  have tk : bs.take (k + 1) = bs.take k ++ [bs[k]] := by rw [List.take_succ, List.getElem?_eq_getElem hk]; rfl
  have fin : ∀ {s4 : Shared} {acc : List V}, Inv (X.blk s (upd H D (.lst [])) scope ce [it]) ([] ++ pinsAt [it] h') ((wipe σ vs).set j (some (.bl bs[k]))) (upd H D (.lst acc)) s4 → acc = ((bs.take (k + 1)).filter id).map V.bl → R s4 := fun {s4 acc} I4 e => by
    subst e
    have pn := (I4.pin (it, o) (List.mem_append_right _ (List.mem_append_right _ (mem_pinsAt (by simp) ho)))).1
    exact hR s4 ⟨hk, (I4.unpinned (pins := [])).weak (by rw [List.length_set]) (wipe_put hj), st'.at fun o2 e2 => by rw [ho] at e2; cases e2; exact pn⟩
  refine thnF (ht.run _ s3 _ _ (fun b H' => b = bs[k] ∧ H' = upd H D (.lst (((bs.take k).filter id).map V.bl))) I3 ⟨_, hjv, rfl, rfl⟩) fun b s4 ⟨H4, I4, e1, e2⟩ => ?_
  subst e1 e2
  cases hb : bs[k] with
  | false =>
    rw [if_neg (by simp)]
    refine fin (by rw [hb] at I4 ⊢; exact I4) ?_
    rw [tk, List.filter_append, hb]
    simp
  | true =>
    rw [if_pos rfl]
    refine thnF (he.run _ s4 _ _ (fun x H' => x = .bl true ∧ H' = upd H D (.lst (((bs.take k).filter id).map V.bl))) I4 ⟨_, by rw [hb] at hjv ⊢; exact hjv, rfl, rfl⟩) fun x s5 ⟨y, H5, I5, r5, e1, e2⟩ => ?_
    subst e1 e2
    refine app_ok (X := X.blk s (upd H D (.lst [])) scope ce [it]) I5 upd_same ?_ r5 fun s6 I6 => ?_
    · rw [List.length_map]
      have h1 := List.length_filter_le id (bs.take k)
      have h2 := List.length_take_le k bs
      omega
    · rw [upd_upd] at I6
      refine fin (by rw [hb] at I6 ⊢; exact I6) ?_
      rw [tk, List.filter_append, List.map_append, hb]
      rfl
/-- the new list, as a value: the handled exception stands in the context's pins -/
theorem pe_sieve {X : Cx} (hc : L2H.HotC X) (hN : X.N.Nodup) {tg elt iter c : Expr} {scope : Scope} {own : List (Str × Nat)} {i j : Nat} {pos : Pos} (hi : PE X iter (tVar i)) (bok : BlkOk X.N X.env.scope scope own) (hj : j ∈ own.map (·.2)) (hjN : j < X.N.length)
    (hg : ∀ (s : Shared) (H : Hp) (C : Addr) (cl : List (Str × Addr)) (fp : List Addr), PG (X.blk s H scope (compEnvC scope cl C X.env) fp) tg (gName j))
    (ht : ∀ (s : Shared) (H : Hp) (C : Addr) (cl : List (Str × Addr)) (fp : List Addr), PTs (X.blk s H scope (compEnvC scope cl C X.env) fp) [c] (fun σ H Q => ∃ b, σ[j]? = some (some (.bl b)) ∧ Q b H))
    (he : ∀ (s : Shared) (H : Hp) (C : Addr) (cl : List (Str × Addr)) (fp : List Addr), PE (X.blk s H scope (compEnvC scope cl C X.env) fp) elt (tVar j))
    (hs : ∀ x, foldedSetIterable iter X.env x = pure x) : PE X (.ListComp elt [⟨tg, iter, [c], 0⟩] scope pos) (tSieve i) := by
  refine ⟨fun pins s σ H Q I ⟨L, bs, hσ, hL, hz, hQ⟩ => ?_⟩
  rw [eval_ListComp]
  refine wpAny_comprehension_free (use := none) rfl hs (closure_ok fun y hy e => (bok.free y hy e).elim (fun k => I.ok.has _ (.inl k)) fun k => I.ok.has _ (.inr k)) bok.kind (fun y hy e => by rw [bok.uniq y hy, e]) ?_
  refine thn (hi.run pins s σ H (fun v H1 => v = .ref L ∧ H1 = H) I ⟨_, hσ, rfl, rfl⟩) fun v s1 ⟨x, H1, I1, r1, e1, e2⟩ => ?_
  subst e1 e2
  obtain rfl : v = Value.ref L := r1
  obtain ⟨its, rv, p, _⟩ := I1.list (SqL.of hL)
  refine wpAny_pyIter_list p.isList ?_
  -- the iterator stands, the new list behind it
  generalize hit : s1.heap.objs.size = it
  generalize h2 : s1.heap.push { cls := .type "list_iterator", data := .fields #[.ref L, .int 0 0] } = hp2
  have st2 : hp2.IsListIter it L 0 := ⟨_, by rw [← h2, ← hit]; exact Heap.get?_push_size _ rfl, rfl, rfl⟩
  have I2 : Inv X pins σ H1 { s1 with heap := hp2 } := I1.kept (t' := s1.toks) fun b o e => by rw [← h2]; exact Heap.get?_push_of_some _ e
  have fpI : FpOk X pins H1 it := I1.fpOk (Nat.le_of_eq hit) (I1.hok.fresh (Nat.le_of_eq hit))
  have hlt : it < hp2.objs.size := by rw [← h2, ← hit, Heap.size_push]; exact Nat.lt_succ_self _
  refine wpAny_newObj_type (newEnv_comp ?_) (by show 0 ≤ sizeLine; decide)
  generalize hDe : hp2.objs.size = D
  have hD : H1 D = none := I2.hok.fresh (Nat.le_of_eq hDe)
  have hDi : D ≠ it := by rw [← hDe]; exact Nat.ne_of_gt hlt
  generalize hs3 : ({ s1 with heap := hp2.push { cls := .type "list", data := .seq ([] : List Value).toArray } } : Shared) = s3
  have e3 : s3.heap = hp2.push { cls := .type "list", data := .seq ([] : List Value).toArray } := by rw [← hs3]
  have I3 : Inv X pins σ (upd H1 D (.lst [])) s3 := by
    rw [← hs3]
    refine I2.laid (t' := s1.toks) (fun b o e => Heap.get?_push_of_some _ e) (Nat.le_of_eq hDe) ⟨Nat.zero_le _, [], 0, .nil, ?_⟩
    rw [← hDe]
    exact Heap.get?_push_size _ rfl
  have st3 : s3.heap.IsListIter it L 0 := st2.at fun o e => by rw [e3]; exact Heap.get?_push_of_some _ e
  have f3 : FpOk X pins (upd H1 D (.lst [])) it := ⟨by rw [upd_ne (Ne.symm hDi)]; exact fpI.1, fpI.2⟩
  have hlt3 : it < s3.heap.objs.size := by rw [e3, Heap.size_push]; exact Nat.lt_succ_of_lt hlt
  have I4 := block_start (fp := [it]) I3 bok hN (fun b hb => by obtain rfl : b = it := (by simpa using hb); exact ⟨f3, hlt3⟩)
  have pg := hg s3 (upd H1 D (.lst [])) s3.heap.objs.size (cellsFrom (s3.heap.objs.size + 1) scope.names (cloFrom X.env.cells scope.names [])) [it]
  have pt := ht s3 (upd H1 D (.lst [])) s3.heap.objs.size (cellsFrom (s3.heap.objs.size + 1) scope.names (cloFrom X.env.cells scope.names [])) [it]
  have pe := he s3 (upd H1 D (.lst [])) s3.heap.objs.size (cellsFrom (s3.heap.objs.size + 1) scope.names (cloFrom X.env.cells scope.names [])) [it]
  show codeAny _ _ (.compStart (.ListComp elt [⟨tg, iter, [c], 0⟩] scope pos) 0 (.ref it) (.ref D) (compEnvC scope (cellsFrom (s3.heap.objs.size + 1) scope.names (cloFrom X.env.cells scope.names [])) s3.heap.objs.size X.env)) (compPost (model X.prog X.w) X.A X.xe none (EP X pins σ Q) (.ref D) s3.heap.objs.size) { s3 with heap := pushCells (s3.heap.push { cls := .type "dict", data := .dict #[] }) scope.names }
  generalize hce : compEnvC scope (cellsFrom (s3.heap.objs.size + 1) scope.names (cloFrom X.env.cells scope.names [])) s3.heap.objs.size X.env = ce at I4 pg pt pe ⊢
  have cL : ce.locals = s3.heap.objs.size := by rw [← hce]; rfl
  have st4 : (pushCells (s3.heap.push { cls := .type "dict", data := .dict #[] }) scope.names).IsListIter it L 0 := st3.at fun o e => pushCells_keeps _ _ _ _ (Heap.get?_push_of_some _ e)
  -- out of the block
  have back : ∀ {s' : Shared} {acc : List V}, Inv (X.blk s3 (upd H1 D (.lst [])) scope ce [it]) [] (wipe σ (own.map (·.2))) (upd H1 D (.lst acc)) s' → Inv X pins σ (upd H1 D (.lst acc)) s' := fun {s' acc} J =>
    I3.call' (ch := [it]) J.os J.base J.hok J.bare fun b hb => by obtain rfl : b = it := (by simpa using hb); exact ⟨f3.2.2.2.1, f3.2.1, f3.2.2.2.2.1, f3.2.2.2.2.2⟩
  have loop : codeAny (model X.prog X.w) X.A (.compLoop (.ListComp elt [⟨tg, iter, [c], 0⟩] scope pos) 0 (.ref it) (.ref D) ce) (compPost (model X.prog X.w) X.A X.xe none (EP X pins σ Q) (.ref D) s3.heap.objs.size) { s3 with heap := pushCells (s3.heap.push { cls := .type "dict", data := .dict #[] }) scope.names } := by
    refine compLoop_any (fun n s' => ∃ k, n = bs.length - k ∧ Sv X s3 H1 scope ce it D L (own.map (·.2)) σ bs k s') ?_ bs.length ⟨0, rfl, Nat.zero_le _, I4, st4⟩
    rintro n s5 ⟨k, rfl, V5⟩
    by_cases hk : k < bs.length
    · refine thnF (sieve_turn (R := fun s6 => ∃ m, m < bs.length - k ∧ ∃ k', m = bs.length - k' ∧ Sv X s3 H1 scope ce it D L (own.map (·.2)) σ bs k' s6) V5 hL hD fpI.1 hDi hz hj hjN hk pg pt pe fun s6 V6 => ⟨bs.length - (k + 1), by omega, k + 1, rfl, V6⟩) fun r s6 ⟨u, er, h6⟩ => ?_
      subst er
      refine thnF h6 fun _ s7 h7 => thnF h7 fun _ s8 h8 => thnF h8 fun ok s9 h9 => ?_
      cases ok with
      | true => exact thnF h9 fun x s10 h10 => thnF h10 fun _ _ z => z
      | false => exact h9
    · obtain ⟨hle, I5, st5⟩ := V5
      obtain rfl : k = bs.length := by omega
      obtain ⟨x1, hot⟩ := hc.at (back I5)
      obtain ⟨its5, rv5, p5, _⟩ := I5.list (SqL.of (show (upd H1 D (.lst (((bs.take bs.length).filter id).map V.bl))) L = some (.lst (bs.map V.bl)) by rw [upd_ne (fun e => by rw [e, hD] at hL; cases hL)]; exact hL))
      have hl5 := rv5.length
      rw [List.length_map] at hl5
      refine list_over hot st5 p5.isList (by simp; omega) fun h' eb => ?_
      have J : Inv (X.blk s3 (upd H1 D (.lst [])) scope ce [it]) [] (wipe σ (own.map (·.2))) (upd H1 D (.lst (((bs.take bs.length).filter id).map V.bl))) { s5 with heap := h' } :=
        I5.turned (t' := s5.toks) (fun b o hb e => eb b o hb e) (by rw [upd_ne (Ne.symm hDi)]; exact fpI.1) (I5.ok.exf it (by simp)).1 (.inl (List.mem_cons_self)) (fun x c e => (I5.ok.exf it (by simp)).2 x c e) (fun p hp => absurd (show p ∈ ([] : List (Addr × Obj)) ++ [] from hp) (by simp))
      obtain ⟨m, hn, _⟩ := J.loc
      have hn : h'.Ns ce.locals m := hn
      rw [cL] at hn
      have nC : (upd H1 D (.lst (((bs.take bs.length).filter id).map V.bl))) s3.heap.objs.size = none := by
        have z := J.free
        rw [show (X.blk s3 (upd H1 D (.lst [])) scope ce [it]).env.locals = s3.heap.objs.size from cL] at z
        exact z
      obtain ⟨f0, f1, f2, f3', f4, f5⟩ := I3.fpOk (H' := upd H1 D (.lst (((bs.take bs.length).filter id).map V.bl))) (Nat.le_refl _) nC
      refine ⟨m, hn, fun h'' sb => ⟨.ref D, _, (back J).turned (t' := s5.toks) (fun b o hb e => (sb.2 b hb).trans e) f0 f1 f3' f4 f5, rfl, ?_⟩⟩
      have := hQ D hD
      rw [List.take_length]
      exact this
  exact codeAny_compStart_list loop (wpAny_pyIter_listiter st4 loop)
/-! ### kinds.index(True) -/
theorem mt_index {X : Cx} : MtR X "list.index" (fun x xs H Q => ∃ (l : Addr) (bs : List Bool), x = .ref l ∧ xs = [.bl true] ∧ H l = some (.lst (bs.map V.bl)) ∧ true ∈ bs ∧ Q (.int (bs.idxOf true : Nat)) H) := by
  intro pins s σ H x xs v us Q I rx rs ⟨l, bs, ex, exs, hl, hm, q⟩
  subst ex exs
  obtain rfl : v = Value.ref l := rx
  obtain ⟨u, rfl, ru⟩ := rs.one
  obtain rfl : u = Value.bool true := ru
  obtain ⟨its, rv, p, hz⟩ := I.list (SqL.of hl)
  have hlen := rv.length
  rw [List.length_map] at hlen hz
  refine PySem.SeqAt.call_list_index (vs := its) (ks := bs) (k := true) p.isList ⟨hlen.symm, fun j h1 h2 => ?_⟩ hz hm ⟨.int (bs.idxOf true : Nat), H, I.kept (t' := s.toks + 1) fun _ _ e => e, ⟨_, rfl⟩, q⟩
  obtain ⟨u, hu, ru⟩ := rv.get (show (bs.map V.bl)[j]? = some (V.bl bs[j]) by rw [List.getElem?_map, List.getElem?_eq_getElem h2]; rfl)
  obtain rfl : u = Value.bool bs[j] := ru
  rw [List.getElem?_eq_getElem h1] at hu
  rw [Option.some.inj hu]
  have := PySem.SeqAt.EqAt.bool_bool (A := X.A.in1) (s := s) bs[j] true
  rw [show (bs[j] == true) = decide (bs[j] = true) by cases bs[j] <;> rfl] at this
  exact this
theorem idx_true {bs : List Bool} (h : bs.filter id = [true]) : true ∈ bs := by
  have : true ∈ bs.filter id := by rw [h]; exact List.mem_singleton.mpr rfl
  exact (List.mem_filter.mp this).1
theorem bols_of {K : PySem.W.Frag} {O : Addr → Prop} {H : Hp} : ∀ {bs : List Bool} {xs : List V} {ds : List D}, bolsD ds = some bs → Rps K O H xs ds → xs = bs.map V.bl
  | bs, _, [], e, .nil => by cases e; rfl
  | bs, _, d :: ds, e, .cons r rs => by
    cases d <;> try cases e
    rename_i b
    unfold bolsD at e
    cases e1 : bolsD ds with
    | none => rw [e1] at e; cases e
    | some bs' =>
      rw [e1] at e
      cases e
      cases r
      rw [bols_of e1 rs]
      rfl
/-- what the handler is to tell -/
def tTrk (Γ : G) (K : PySem.W.Frag) (cv : Str → Value) (io : Option Nat) (hs : List HT) : Addr → Value → Option Addr → TS := fun a cls d E σ H => ∃ Ox c C r, (∀ a, Ox a → ∃ o, H a = some o) ∧ cls = .ref C ∧ cv c = .ref C ∧ d = none ∧
  trkD (evHs Γ c hs) = some r ∧ (∀ i, io = some i → σ[i]? = some (some (.ref a))) ∧ σ.length = Γ.N.length ∧ ∀ H' v, Same H H' → Rp K Ox H' v r → E.rt v H'
section
variable {Γ : G} {cv : Str → Value} {lvl : Nat} {X : Cx} {W : WX}
theorem suite_trk (ok : OkS Γ cv lvl X W) {sc : Scope} (hsc : X.env.scope = sc) {io : Option Nat} {no : Option Str} {hs : List HT} {k j : Nat} {kn y : Str} {es : List Expr} {scope : Scope} {p1 p2 p3 p4 p5 p6 p7 p8 p9 p10 p11 p12 p13 p14 p15 p16 apos cpos : Pos} {k1 k2 : Nat}
    (h5 : (io = none ∧ no = none) ∨ ∃ i n, io = some i ∧ no = some n ∧ Γ.N[i]? = some n ∧ sc.names.lookup n = some .local) (h6 : chkHs sc no hs es = true) (h7 : Γ.N[k]? = some kn) (h8 : locB sc kn = true) (h9 : okName kn = true) (h10 : io ≠ some k)
    (h11 : glB sc "len" = true) (h12 : Γ.N[j]? = some y) (h13 : okName y = true) (h14 : locB scope y = true) (h15 : blkC Γ.N sc scope [(y, j)] = true) (h16 : (apos.endLine == cpos.line) = true)
    (a : Addr) (oe : Obj) (cls : Value) (d : Option Addr) (pn : List (Addr × Obj)) (hz0 : L2N.Zn cls d oe) (hf : ∃ vs, oe.data = .fields vs) :
    PSs (X.suite a ((a, oe) :: pn)) [.Assign [.Name kn p1] (.List es p2) p3,
      .If (.Compare (.Call (.Name "len" p4) [.ListComp (.Name y p5) [⟨.Name y p6, .Name kn p7, [.Name y p8], 0⟩] scope p9] [] p10) [.Eq] [.Constant (.int 1) k1 p11] p12) [.Return (some (.Call (.Attribute (.Name kn p13) "index" apos) [.Constant (.bool true) k2 p14] [] cpos)) p15] [] p16] (tTrk Γ X.K cv io hs a cls d) := by
  have hz := hz0.zc
  have hot : L2H.HotC (X.suite a ((a, oe) :: pn)) := by
    obtain ⟨vs, hvs⟩ := hf
    exact ⟨(a, oe), ⟨rfl, vs, hvs, hz0.2.2 vs hvs⟩, List.mem_cons_self⟩
  have hkN : X.N[k]? = some kn := by rw [ok.nN]; exact h7
  have hyN : X.N[j]? = some y := by rw [ok.nN]; exact h12
  have hkl : k < X.N.length := (List.getElem?_eq_some_iff.mp hkN).1
  have hloc : Loc X.env.scope kn := by rw [hsc]; exact loc_of h8
  have hvis : Vis X.env.scope kn := hloc.elim .inl fun z => .inr (.inl z)
  refine PSs.of fun E σ H ⟨Ox, c, C, r, hO, ecl, hcv, ed, er, hσ, hlen, q⟩ => ?_
  subst ecl ed
  obtain ⟨ds, eds⟩ : ∃ ds, evHs Γ c hs = some ds := by
    cases e : evHs Γ c hs with
    | none => rw [e] at er; cases er
    | some ds => exact ⟨ds, rfl⟩
  rw [eds] at er
  unfold trkD at er
  dsimp only at er
  cases eb : bolsD ds with
  | none => rw [eb] at er; cases er
  | some bs =>
  rw [eb] at er
  dsimp only at er
  obtain ⟨⟨h1, hz1⟩, er⟩ := if_some' er
  cases er
  have hni : ∀ x, no = some x → ∃ i, (io.map fun i => (i, a)) = some (i, a) ∧ X.N[i]? = some x := fun x hx => by
    rcases h5 with ⟨_, z⟩ | ⟨i, n, z1, z2, z3, _⟩
    · rw [z] at hx; cases hx
    · rw [z2] at hx; cases hx; exact ⟨i, by rw [z1]; rfl, by rw [ok.nN]; exact z3⟩
  have hio : ∀ i b, (io.map fun i => (i, a)) = some (i, b) → σ[i]? = some (some (.ref b)) := fun i b hb => by
    cases io with
    | none => cases hb
    | some i0 => cases hb; exact hσ _ rfl
  have A1 := ps_set (X := X.suite a ((a, oe) :: pn)) (pos := p3) (pos' := p1) ok.nd hkN hloc (pe_lst (pos := p2) (sHs (ni := io.map fun i => (i, a)) ok hsc hcv hz hf hni Ox hs es h6)) rfl (.inl (ok.fnA kn))
  have kv : ∀ p, PE (X.suite a ((a, oe) :: pn)) (.Name kn p) (tVar k) := fun p => pe_var (X := X.suite a ((a, oe) :: pn)) hkN hvis (okName_of h9).1 (okName_of h9).2
  have yv : ∀ (p : Pos) (s : Shared) (H : Hp) (C : Addr) (cl : List (Str × Addr)) (fp : List Addr), PE ((X.suite a ((a, oe) :: pn)).blk s H scope (compEnvC scope cl C X.env) fp) (.Name y p) (tVar j) := fun p s H C cl fp =>
    pe_var (X := (X.suite a ((a, oe) :: pn)).blk s H scope (compEnvC scope cl C X.env) fp) hyN ((blk_loc (X := X.suite a ((a, oe) :: pn)) y h14).1.elim .inl fun z => .inr (.inl z)) (okName_of h13).1 (okName_of h13).2
  have LC := pe_sieve (X := X.suite a ((a, oe) :: pn)) (i := k) (j := j) (own := [(y, j)]) (scope := scope) (pos := p9) (tg := .Name y p6) (elt := .Name y p5) (c := .Name y p8) hot ok.nd (kv p7) (blkOk_by (by rw [← ok.nN, ← hsc] at h15; exact h15)) (by simp) (List.getElem?_eq_some_iff.mp hyN).1
    (fun s H C cl fp => pg_name (X := (X.suite a ((a, oe) :: pn)).blk s H scope (compEnvC scope cl C X.env) fp) ok.nd hyN (blk_loc (X := X.suite a ((a, oe) :: pn)) y h14).1 (blk_loc (X := X.suite a ((a, oe) :: pn)) y h14).2)
    (fun s H C cl fp => pts_one (PT.weak (pt_truth (yv p8 s H C cl fp) fun _ => rfl) fun σ H Q ⟨b, e, q⟩ => ⟨_, e, b, rfl, q⟩)) (fun s H C cl fp => yv p5 s H C cl fp) (fun _ => rfl)
  have LN := pe_callB (X := X.suite a ((a, oe) :: pn)) (p := p4) (pos := p10) call_len_seq (gl_of (X := X) hsc h11) (ok.blt _ (by decide +kernel)) (by decide +kernel) (pa_cons LC pa_nil rfl) (by decide) (by decide) rfl rfl
  have CM := pt_cmp (pos := p12) (pc_eqI LN (pe_int (i := 1) (j := k1) (pos := p11)))
  have IX := pe_bm (X := X.suite a ((a, oe) :: pn)) (cpos := cpos) (apos := apos) PySem.F.plainAttrs_list PySem.F.slot_list_index PySem.F.type_list_index mt_index (kv p13) (pa_cons (pe_bl (b := true) (j := k2) (pos := p14)) pa_nil rfl) rfl rfl h16 rfl rfl
  refine ⟨_, pss_cons A1 (pss_one (ps_if CM (pss_one (ps_ret (pos := p15) IX)) pss_nil)), hO, hio, ds, eds, fun H1 vs s1 rs => ?_⟩
  have evs := bols_of eb rs
  subst evs
  refine ⟨by rw [List.length_map]; exact Nat.le_of_lt hz1, fun L hL => ?_⟩
  have hk' : (σ.set k (some (.ref L)))[k]? = some (some (.ref L)) := List.getElem?_set_self (by rw [hlen, ← ok.nN]; exact hkl)
  refine ⟨L, bs, hk', upd_same, hz1, fun D hD => ?_⟩
  refine ⟨D, _, rfl, .inl (SqL.of upd_same), ?_⟩
  refine ⟨_, 1, rfl, rfl, _, rfl, ?_⟩
  have hLD : L ≠ D := fun e => by rw [e, upd_same] at hD; cases hD
  have hL2 : (upd (upd H1 L (.lst (bs.map V.bl))) D (.lst ((bs.filter id).map V.bl))) L = some (.lst (bs.map V.bl)) := by rw [upd_ne hLD, upd_same]
  have one : decide ((((bs.filter id).map V.bl).length : Int) = 1) = true := by rw [h1]; rfl
  dsimp only
  rw [if_pos one]
  refine ⟨.ref L, hk', .inl ⟨rfl, _, SqL.of hL2⟩, L, bs, rfl, rfl, hL2, idx_true h1, q _ _ ?_ (.int _)⟩
  exact s1.trans ((same_new hL _).trans (same_new hD _))
end
end DE
set_option linter.all false
set_option maxRecDepth 100000
set_option maxHeartbeats 8000000
namespace DE
open PySem PySem.Spec PyProof.Rows L2
section
variable {Γ : G} {cv : Str → Value} {lvl : Nat}
theorem pss_seq {X : Cx} {W : WX} {st : Stmt} {sts : List Stmt} {f g : List Sl → Option Out} (h1 : PS X st (tS X.K cv W f)) (h2 : PSs X sts (tS X.K cv W g)) : PSs X (st :: sts) (tS X.K cv W fun ρ => seqO (f ρ) g) := by
  refine PSs.weak (pss_cons h1 h2) fun E σ H ⟨O, H0, P, ρ, out, s, ev, po⟩ => ?_
  dsimp only at ev
  cases ho : f ρ with
  | none => rw [ho] at ev; cases ev
  | some o =>
    rw [ho] at ev
    refine ⟨O, H0, P, ρ, o, s, ho, ?_⟩
    cases o with
    | nx ρ' =>
      intro H1 σ1 P1 n1 r1 s1
      refine ⟨O, H0, P1, ρ', out, s1, ev, ?_⟩
      cases out with
      | nx ρ2 => exact fun H2 σ2 P2 n2 r2 s2 => po H2 σ2 P2 (fun a z => n1 a (n2 a z)) (r1.trans n1 r2) s2
      | bk ρ2 => exact fun H2 σ2 P2 n2 r2 s2 => po H2 σ2 P2 (fun a z => n1 a (n2 a z)) (r1.trans n1 r2) s2
      | ct ρ2 => exact fun H2 σ2 P2 n2 r2 s2 => po H2 σ2 P2 (fun a z => n1 a (n2 a z)) (r1.trans n1 r2) s2
      | ret d => exact po
      | exc c => exact po
      | rtm ρ2 => exact fun H2 σ2 P2 n2 r2 s2 => po H2 σ2 P2 (fun a z => n1 a (n2 a z)) (r1.trans n1 r2) s2
    | ret d => cases ev; exact po
    | exc c => cases ev; exact po
    | rtm ρ' => cases ev; exact po
    | bk ρ' => cases ev; exact po
    | ct ρ' => cases ev; exact po
theorem pss_emp {X : Cx} {W : WX} : PSs X [] (tS X.K cv W fun ρ => some (.nx ρ)) := PSs.weak pss_nil fun E σ H ⟨O, H0, P, ρ, out, s, ev, po⟩ => by
  cases ev
  exact po H σ P (fun _ z => z) .refl s
theorem pss_frz {X : Cx} {W : WX} {sts : List Stmt} {i : Nat} {g : List Sl → Option Out} (h : PSs X sts (tS X.K cv W g)) : PSs X sts (tS X.K cv W fun ρ => seqO (match ρ[i]? with
    | some (some (_, d)) => some (.nx (ρ.set i (some (0, d))))
    | _ => none) g) := by
  refine PSs.weak h fun E σ H ⟨O, H0, P, ρ, out, s, ev, po⟩ => ?_
  dsimp only at ev
  split at ev
  case h_2 => cases ev
  rename_i n d e0
  obtain ⟨P', sub, s'⟩ := s.frz e0
  have r1 : Rel X.K O P H P' H := ⟨.refl, fun a z => .inl (sub a z)⟩
  refine ⟨O, H0, P', _, out, s', ev, ?_⟩
  cases out with
  | nx ρ2 => exact fun H2 σ2 P2 n2 r2 s2 => po H2 σ2 P2 n2 (r1.trans (fun _ z => z) r2) s2
  | bk ρ2 => exact fun H2 σ2 P2 n2 r2 s2 => po H2 σ2 P2 n2 (r1.trans (fun _ z => z) r2) s2
  | ct ρ2 => exact fun H2 σ2 P2 n2 r2 s2 => po H2 σ2 P2 n2 (r1.trans (fun _ z => z) r2) s2
  | ret d => exact po
  | exc c => exact po
  | rtm ρ2 => exact fun H2 σ2 P2 n2 r2 s2 => po H2 σ2 P2 n2 (r1.trans (fun _ z => z) r2) s2
/-- one clause without a name -/
theorem try_one {X : Cx} {x : Str} {c : Value} {body suite : List Stmt} {b₀ : Stmt} {np pos pos' : Pos} {tb : WX → TS} {ts : Addr → Value → Option Addr → TS} {Wout : WX} (hs : X.stack = X.env :: X.outer) (hf : X.env.frame = some X.env.locals) (hc : Names X x c) (tk : L2N.Takes X Wout)
    (hb : ∀ (W : WX) (pn : List (Addr × Obj)) (xe : Value → Shared → Prop), L2N.Takes (X.tr pn xe) W → PassesOwn (model X.prog X.w) X.A X.env xe → PSs (X.tr pn xe) body (tb W))
    (hsu : ∀ (a : Addr) (oe : Obj) (cls : Value) (d : Option Addr) (pn : List (Addr × Obj)), L2N.Zn cls d oe → (∃ vs, oe.data = .fields vs) → PSs (X.suite a ((a, oe) :: pn)) (b₀ :: suite) (ts a cls d)) :
    PS X (.Try body [.ExceptHandler (some (.Name x np)) none (b₀ :: suite) pos'] [] [] pos) (fun D σ H => tb (wMany X.K Wout D [(c, ts)]) D σ H) :=
  L2N.ps_try_many hs hf tk hb (.cons hc hsu .nil)
theorem takes_len {X : Cx} {W : WX} (tk : L2N.Takes X W) : L2N.Takes X (fun cls d σ H => σ.length = X.N.length → W cls d σ H) := fun u s' ⟨a, B, sI, pins, σ, H, cls, d, e, I, nb, up, sky, na, os, ag, w⟩ =>
  tk u s' ⟨a, B, sI, pins, σ, H, cls, d, e, I, nb, up, sky, na, os, ag, w I.len⟩
theorem OkS.tr {X : Cx} {W W' : WX} (ok : OkS Γ cv lvl X W) {pn : List (Addr × Obj)} {xe : Value → Shared → Prop} (tk : L2N.Takes (X.tr pn xe) W') (hp : PassesOwn (model X.prog X.w) X.A X.env xe) : OkS Γ cv lvl (X.tr pn xe) (fun cls d σ H => σ.length = X.N.length → W' cls d σ H) :=
  ⟨⟨ok.calm, ok.nd, ok.nN, takes_len tk, ok.room, ok.fns, ok.gls, ok.blt, ok.cls, ok.mts, ok.mks, ok.mfs⟩, hp, ok.fnA, ok.exc, ok.kind, ok.subs, ok.stk, ok.frm⟩
theorem hasV_eq {mg : Str → Option Value} {h : Str} {v v' : V} {u u' : Value} (a : HasV mg h v u) (b : HasV mg h v' u') : u = u' := by
  rcases a.2.2 with x | ⟨x, y, _⟩ <;> rcases b.2.2 with z | ⟨z, t, _⟩
  · exact Option.some.inj (x.symm.trans z)
  · rw [x] at z; cases z
  · rw [x] at z; cases z
  · exact Option.some.inj (y.symm.trans t)
/-- the suite's reading -/
def tSu (Γ : G) (K : PySem.W.Frag) (cv : Str → Value) (io : Option Nat) (t : HT) : Addr → Value → Option Addr → TS := fun a cls d D σ H => ∃ Ox c r C, (∀ a, Ox a → ∃ o, H a = some o) ∧ cls = .ref C ∧ cv c = .ref C ∧ d = none ∧ evH Γ c t = some r ∧ (∀ i, io = some i → σ[i]? = some (some (.ref a))) ∧ ∀ H' v, Same H H' → Rp K Ox H' v r → D.rt v H'
theorem st_try {X : Cx} {W : WX} (ok : OkS Γ cv lvl X W) {sc : Scope} (hsc : X.env.scope = sc) {body : List S} {sb : List Stmt} {h : Str} {io : Option Nat} {no : Option Str} {t : HT} {v : Expr} {np p1 p2 pos : Pos} {fu : Nat}
    (hb : ∀ (W' : WX) (pn : List (Addr × Obj)) (xe : Value → Shared → Prop), L2N.Takes (X.tr pn xe) W' → PassesOwn (model X.prog X.w) X.A X.env xe → PSs (X.tr pn xe) sb (tS X.K cv (fun cls d σ H => σ.length = X.N.length → W' cls d σ H) (evB Γ fu body)))
    (h1 : glB sc h = true) (h2 : okName h = true) (h3 : chkH sc no t v = true) (h4 : (Γ.sub.any fun t => decide (t.2.1 = h)) = true) (h5 : (io = none ∧ no = none) ∨ ∃ i n, io = some i ∧ no = some n ∧ Γ.N[i]? = some n ∧ sc.names.lookup n = some .local) :
    PS X (.Try sb [.ExceptHandler (some (.Name h np)) no [.Return (some v) p1] p2] [] [] pos) (tS X.K cv W (evS Γ fu (.tr body h io t))) := by
  obtain ⟨t0, m0, e0⟩ := List.any_eq_true.mp h4
  have e0 : t0.2.1 = h := of_decide_eq_true e0
  obtain ⟨v0, u0, C0, hv0, _⟩ := (ok.subs t0 m0).ex
  rw [e0] at hv0
  have hnm : Names X h u0 := ⟨gl_of hsc h1, (okName_of h2).1, hv0.2.2⟩
  have hsu : ∀ (a : Addr) (oe : Obj) (cls : Value) (d : Option Addr) (pn : List (Addr × Obj)), L2N.Zn cls d oe → (∃ vs, oe.data = .fields vs) → PSs (X.suite a ((a, oe) :: pn)) [.Return (some v) p1] (tSu Γ X.K cv io t a cls d) := by
    intro a oe cls d pn hz0 hf
    have hz := hz0.zc
    refine PSs.of fun D σ H ⟨Ox, c, r, C, hO, ec, hcv, ed, er, hs, q⟩ => ?_
    subst ec ed
    have hni : ∀ x, no = some x → ∃ i, (io.map fun i => (i, a)) = some (i, a) ∧ X.N[i]? = some x := fun x hx => by
      rcases h5 with ⟨_, z⟩ | ⟨i, n, z1, z2, z3, _⟩
      · rw [z] at hx; cases hx
      · rw [z2] at hx; cases hx; exact ⟨i, by rw [z1]; rfl, by rw [ok.nN]; exact z3⟩
    refine ⟨_, pss_one (ps_ret (sH (ni := io.map fun i => (i, a)) ok hsc hcv hz hf hni Ox t v h3)), hO, fun i b hb => ?_, r, er, q⟩
    cases io with
    | none => cases hb
    | some i0 => cases hb; exact hs _ rfl
  -- what the body's end asks
  have post : ∀ (D : Ends) (W' : WX) (O : Addr → Prop) (H0 : Ent) (P : Addr → Prop) (H : Hp) (out o : Out), (∀ a, O a → ∃ o, H0.H a = some o) → (∀ a, O a → ¬ H0.B a) → Post X.K cv W O H0 P H D out → (match (some o : Option Out) with
      | some (.exc c) => match subG Γ c h with
        | some true => (evH Γ c t).map Out.ret
        | some false => some (.exc c)
        | none => none
      | o => o) = some out → (∀ c H' σ', SameB H0 H' → σ'.length = X.N.length → (∃ b C, subG Γ c h = some b ∧ cv c = .ref C ∧ PySem.W.exmOne X.K (.ref C) u0 = some b ∧ (b = true → ∃ Ox r, (∀ a, Ox a → ∃ o, H' a = some o) ∧ evH Γ c t = some r ∧ ∀ H2 v, Same H' H2 → Rp X.K Ox H2 v r → D.rt v H2) ∧ (b = false → W (cv c) none σ' H')) → W' (cv c) none σ' H') →
      Post X.K cv (fun cls d σ H => σ.length = X.N.length → W' cls d σ H) O H0 P H D o := by
    intro D W' O H0 P H out o hO hB po e hW
    cases o with
    | nx ρ2 => cases e; exact po
    | bk ρ2 => cases e; exact po
    | ct ρ2 => cases e; exact po
    | rtm ρ2 => cases e; exact po
    | ret d => cases e; exact po
    | exc c =>
      intro H' σ' s' hl
      dsimp only at e
      cases e1 : subG Γ c h with
      | none => rw [e1] at e; cases e
      | some b =>
        obtain ⟨v1, u1, C1, hv1, q1, q2, q3, q4⟩ := (ok.subs _ (subG_mem e1)).ex
        have eu := hasV_eq hv0 hv1
        subst eu
        rw [e1] at e
        refine hW c H' σ' s' hl ⟨b, C1, e1, q1, q4, fun hb => ?_, fun hb => ?_⟩
        · subst hb
          dsimp only at e
          cases e2 : evH Γ c t with
          | none => rw [e2] at e; cases e
          | some r =>
            rw [e2] at e
            cases e
            exact ⟨O, r, fun a z => let ⟨o, e⟩ := hO a z; ⟨o, (s' _ _ e).1 (hB a z)⟩, rfl, fun H2 v s2 rr => po H2 v (s'.trans s2) rr⟩
        · subst hb
          cases e
          exact po H' σ' s'
  have len_ok : X.N.length = Γ.N.length := by rw [ok.nN]
  rcases h5 with ⟨rfl, rfl⟩ | ⟨i, n, rfl, rfl, hN, hl⟩
  · refine PS.weak (try_one ok.stk ok.frm hnm ok.tk hb hsu) fun D σ H ⟨O, H0, P, ρ, out, s, ev, po⟩ => ?_
    cases eo : evB Γ fu body ρ with
    | none => simp only [evS, eo] at ev; cases ev
    | some o =>
      simp only [evS, eo] at ev
      refine ⟨O, H0, P, ρ, o, s, eo, post D _ O H0 P H out o s.odom s.oB po ev fun c H' σ' s' hlen ⟨b, C, e1, e2, e3, e4, e5⟩ => ?_⟩
      refine ⟨b, by rw [e2]; exact e3, fun hb a ha => ?_, e5⟩
      obtain ⟨Ox, r, q1, q2, q3⟩ := e4 hb
      exact ⟨Ox, c, r, C, q1, e2, e2, rfl, q2, (fun i hi => by cases hi), q3⟩
  · refine PS.weak (L2N.ps_try_as (i := i) ok.stk ok.frm ok.nd (by rw [ok.nN]; exact hN) (by show X.env.scope.names.lookup n = _; rw [hsc]; exact hl) hnm ok.tk hb hsu) fun D σ H ⟨O, H0, P, ρ, out, s, ev, po⟩ => ?_
    cases eo : evB Γ fu body ρ with
    | none => simp only [evS, eo] at ev; cases ev
    | some o =>
      simp only [evS, eo] at ev
      refine ⟨O, H0, P, ρ, o, s, eo, post D _ O H0 P H out o s.odom s.oB po ev fun c H' σ' s' hlen ⟨b, C, e1, e2, e3, e4, e5⟩ => ?_⟩
      refine ⟨b, by rw [e2]; exact e3, fun hb a ha => ?_, e5⟩
      obtain ⟨Ox, r, q1, q2, q3⟩ := e4 hb
      refine ⟨Ox, c, r, C, q1, e2, e2, rfl, q2, fun j hj => ?_, q3⟩
      cases hj
      exact List.getElem?_set_self (by rw [hlen, len_ok]; exact (List.getElem?_eq_some_iff.mp hN).1)
theorem st_trk {X : Cx} {W : WX} (ok : OkS Γ cv lvl X W) {sc : Scope} (hsc : X.env.scope = sc) {body : List S} {sb : List Stmt} {h : Str} {io : Option Nat} {k j : Nat} {ht : List HT} {hs : List ExceptHandler} {pos : Pos} {fu : Nat}
    (hb : ∀ (W' : WX) (pn : List (Addr × Obj)) (xe : Value → Shared → Prop), L2N.Takes (X.tr pn xe) W' → PassesOwn (model X.prog X.w) X.A X.env xe → PSs (X.tr pn xe) sb (tS X.K cv (fun cls d σ H => σ.length = X.N.length → W' cls d σ H) (evB Γ fu body)))
    (g : chkHk Γ sc h io k j ht hs = true) : PS X (.Try sb hs [] [] pos) (tS X.K cv W (evS Γ fu (.trk body h io k j ht))) := by
  unfold chkHk at g
  split at g
  case h_2 => cases g
  simp only [Bool.and_eq_true, decide_eq_true_eq] at g
  obtain ⟨⟨⟨⟨⟨⟨⟨⟨⟨⟨⟨⟨⟨⟨⟨⟨⟨⟨⟨⟨⟨⟨⟨⟨⟨rfl, g1⟩, g2⟩, g3⟩, g4⟩, g5⟩, g6⟩, g7⟩, g8⟩, rfl⟩, rfl⟩, g9⟩, rfl⟩, g10⟩, rfl⟩, rfl⟩, g11⟩, g12⟩, g13⟩, g14⟩, rfl⟩, rfl⟩, rfl⟩, rfl⟩, rfl⟩, g15⟩ := g
  rename_i x np no p1 es p2 p3 p4 p5 p6 p7 y p8 scope p9 p10 k1 p11 p12 kn p13 apos k2 p14 cpos p15 p16 p17
  obtain ⟨t0, m0, e0⟩ := List.any_eq_true.mp g3
  have e0 : t0.2.1 = x := of_decide_eq_true e0
  obtain ⟨v0, u0, C0, hv0, _⟩ := (ok.subs t0 m0).ex
  rw [e0] at hv0
  have hnm : Names X x u0 := ⟨gl_of hsc g1, (okName_of g2).1, hv0.2.2⟩
  have h5 : (io = none ∧ no = none) ∨ ∃ i n, io = some i ∧ no = some n ∧ Γ.N[i]? = some n ∧ sc.names.lookup n = some .local := by
    cases io <;> cases no
    · exact .inl ⟨rfl, rfl⟩
    · cases g4
    · cases g4
    · simp only [ioOk, Bool.and_eq_true, decide_eq_true_eq] at g4
      exact .inr ⟨_, _, rfl, rfl, g4.1, g4.2⟩
  have hsu := suite_trk (p1 := p1) (p2 := p2) (p3 := p3) (p4 := p4) (p5 := p5) (p6 := p6) (p7 := p7) (p8 := p8) (p9 := p9) (p10 := p10) (p11 := p11) (p12 := p12) (p13 := p13) (p14 := p14) (p15 := p15) (p16 := p16) (apos := apos) (cpos := cpos) (k1 := k1) (k2 := k2) ok hsc h5 g5 g6 g7 g8 g9 g10 g11 g12 g13 g14 g15
  have len_ok : X.N.length = Γ.N.length := by rw [ok.nN]
  have post : ∀ (E : Ends) (W' : WX) (O : Addr → Prop) (H0 : Ent) (P : Addr → Prop) (H : Hp) (out o : Out), (∀ a, O a → ∃ o, H0.H a = some o) → (∀ a, O a → ¬ H0.B a) → Post X.K cv W O H0 P H E out → (match (some o : Option Out) with
      | some (.exc c) => match subG Γ c x with
        | some true => (trkD (evHs Γ c ht)).map Out.ret
        | some false => some (.exc c)
        | none => none
      | o => o) = some out → (∀ c H' σ', SameB H0 H' → σ'.length = X.N.length → (∃ b C, subG Γ c x = some b ∧ cv c = .ref C ∧ PySem.W.exmOne X.K (.ref C) u0 = some b ∧ (b = true → ∃ Ox r, (∀ a, Ox a → ∃ o, H' a = some o) ∧ trkD (evHs Γ c ht) = some r ∧ ∀ H2 v, Same H' H2 → Rp X.K Ox H2 v r → E.rt v H2) ∧ (b = false → W (cv c) none σ' H')) → W' (cv c) none σ' H') →
      Post X.K cv (fun cls d σ H => σ.length = X.N.length → W' cls d σ H) O H0 P H E o := by
    intro E W' O H0 P H out o hO hB po e hW
    cases o with
    | nx ρ2 => cases e; exact po
    | bk ρ2 => cases e; exact po
    | ct ρ2 => cases e; exact po
    | rtm ρ2 => cases e; exact po
    | ret d => cases e; exact po
    | exc c =>
      intro H' σ' s' hl
      dsimp only at e
      cases e1 : subG Γ c x with
      | none => rw [e1] at e; cases e
      | some b =>
        obtain ⟨v1, u1, C1, hv1, q1, q2, q3, q4⟩ := (ok.subs _ (subG_mem e1)).ex
        have eu := hasV_eq hv0 hv1
        subst eu
        rw [e1] at e
        refine hW c H' σ' s' hl ⟨b, C1, e1, q1, q4, fun hb => ?_, fun hb => ?_⟩
        · subst hb
          dsimp only at e
          cases e2 : trkD (evHs Γ c ht) with
          | none => rw [e2] at e; cases e
          | some r =>
            rw [e2] at e
            cases e
            exact ⟨O, r, fun a z => let ⟨o, e⟩ := hO a z; ⟨o, (s' _ _ e).1 (hB a z)⟩, rfl, fun H2 v s2 rr => po H2 v (s'.trans s2) rr⟩
        · subst hb
          cases e
          exact po H' σ' s'
  rcases id h5 with ⟨rfl, rfl⟩ | ⟨i, n, rfl, rfl, hN, hl⟩
  · refine PS.weak (try_one ok.stk ok.frm hnm ok.tk hb hsu) fun E σ H ⟨O, H0, P, ρ, out, s, ev, po⟩ => ?_
    cases eo : evB Γ fu body ρ with
    | none => simp only [evS, eo] at ev; cases ev
    | some o =>
      simp only [evS, eo] at ev
      refine ⟨O, H0, P, ρ, o, s, eo, post E _ O H0 P H out o s.odom s.oB po ev fun c H' σ' s' hlen ⟨b, C, e1, e2, e3, e4, e5⟩ => ?_⟩
      refine ⟨b, by rw [e2]; exact e3, fun hb a ha => ?_, e5⟩
      obtain ⟨Ox, r, q1, q2, q3⟩ := e4 hb
      exact ⟨Ox, c, C, r, q1, e2, e2, rfl, q2, (fun i hi => by cases hi), by rw [hlen, len_ok], q3⟩
  · refine PS.weak (L2N.ps_try_as (i := i) ok.stk ok.frm ok.nd (by rw [ok.nN]; exact hN) (by show X.env.scope.names.lookup n = _; rw [hsc]; exact hl) hnm ok.tk hb hsu) fun E σ H ⟨O, H0, P, ρ, out, s, ev, po⟩ => ?_
    cases eo : evB Γ fu body ρ with
    | none => simp only [evS, eo] at ev; cases ev
    | some o =>
      simp only [evS, eo] at ev
      refine ⟨O, H0, P, ρ, o, s, eo, post E _ O H0 P H out o s.odom s.oB po ev fun c H' σ' s' hlen ⟨b, C, e1, e2, e3, e4, e5⟩ => ?_⟩
      refine ⟨b, by rw [e2]; exact e3, fun hb a ha => ?_, e5⟩
      obtain ⟨Ox, r, q1, q2, q3⟩ := e4 hb
      refine ⟨Ox, c, C, r, q1, e2, e2, rfl, q2, fun j hj => ?_, by rw [List.length_set, hlen, len_ok], q3⟩
      cases hj
      exact List.getElem?_set_self (by rw [hlen, len_ok]; exact (List.getElem?_eq_some_iff.mp hN).1)
theorem st_par3 {X : Cx} {W : WX} (ok : OkS Γ cv lvl X W) {sc : Scope} (hsc : X.env.scope = sc) {i j l : Nat} {b : Bool} {e1 e2 e3 : T} {tgs : List Expr} {v : Expr} {pos : Pos} {fu : Nat} (h : chkP3 Γ sc i j l e1 e2 e3 tgs v = true) :
    PS X (.Assign tgs v pos) (tS X.K cv W (evS Γ fu (.par3 i j l b e1 e2 e3))) := by
  unfold chkP3 at h
  split at h
  · rename_i x px y py z pz k p a c d k2 p3
    simp only [Bool.and_eq_true, decide_eq_true_eq, Bool.not_eq_true'] at h
    obtain ⟨⟨⟨⟨⟨⟨⟨⟨⟨⟨⟨⟨⟨⟨⟨⟨⟨⟨⟨⟨⟨⟨h1, h2⟩, h3⟩, h4⟩, h5⟩, h6⟩, h7⟩, h8⟩, h9⟩, h10⟩, h11⟩, h12⟩, h13⟩, h14⟩, h15⟩, h16⟩, h17⟩, h18⟩, h19⟩, h20⟩, h21⟩, h22⟩, h23⟩ := h
    have A := a_cons (cv := cv) (W := W) h18 (snd e1 (.one a) X W sc ok.toOkX hsc h15).1 (a_cons h19 (snd e2 (.one c) X W sc ok.toOkX hsc h16).1 (a_cons h20 (snd e3 (.one d) X W sc ok.toOkX hsc h17).1 a_nil))
    refine PS.weak (ps_par3 ok.calm ok.nd (by rw [ok.nN]; exact h1) (by rw [ok.nN]; exact h2) (by rw [ok.nN]; exact h3) h4 h5 h6 (by rw [hsc]; exact h7) (by rw [hsc]; exact h8) (by rw [hsc]; exact h9) A (sw_par3 (by rw [hsc]; exact h23) (by rw [hsc]; exact h7) (by rw [hsc]; exact h8) (by rw [hsc]; exact h9) h10 h11 h12 h13 h14 h18 h19 h20 h21 h22)) fun E σ H ⟨O, H0, P, ρ, out, s, ev, po⟩ => ?_
    simp only [evS] at ev
    refine ⟨_, _, env_b s b, ?_⟩
    cases q1 : DE.ev Γ e1 (envB b ρ) with
    | none => rw [q1] at ev; cases ev
    | some r1 => cases r1 with
      | error c => rw [q1] at ev; cases ev; dsimp only; rw [q1]; exact fun H' s' => po H' σ (s.same.trans s')
      | ok d1 =>
        rw [q1] at ev
        cases q2 : DE.ev Γ e2 (envB b ρ) with
        | none => simp only [exE, q2] at ev; cases ev
        | some r2 => cases r2 with
          | error c => simp only [exE, q2] at ev; cases ev; dsimp only; rw [q1, bnd_ok, q2]; exact fun H' s' => po H' σ (s.same.trans s')
          | ok d2 =>
            cases q3 : DE.ev Γ e3 (envB b ρ) with
            | none => simp only [exE, q2, q3] at ev; cases ev
            | some r3 => cases r3 with
              | error c => simp only [exE, q2, q3] at ev; cases ev; dsimp only; rw [q1, bnd_ok, q2, bnd_ok, q3]; exact fun H' s' => po H' σ (s.same.trans s')
              | ok d3 =>
                simp only [exE, q2, q3] at ev
                obtain ⟨⟨k1, k2, k3⟩, rfl⟩ := if_some ev
                dsimp only
                rw [q1, bnd_ok, q2, bnd_ok, q3]
                intro H' vs s1 rs
                cases rs with | cons r1 rs => cases rs with | cons r2 rs => cases rs with | cons r3 rs => cases rs with | nil =>
                  exact ⟨_, _, _, rfl, po H' _ P (same_none s1) (.same s1) ((((s.mono s1).put0 (keep_b k1 r1) i).put0 (keep_b k2 r2) j).put0 (keep_b k3 r3) l)⟩
  · exact absurd h Bool.false_ne_true

theorem SE.re {K : PySem.W.Frag} {O P : Addr → Prop} {H0 : Ent} {H : Hp} {σ : L2.St} {ρ : List Sl} (s : SE K O H0 P H σ ρ) : SE K O ⟨H, P, H0.pin⟩ P H σ ρ :=
  ⟨SameB.self fun a z => (s.pnew a z).2, fun a z => s.dom a (.inl z), fun a z y => s.pO a y z, fun a z => ⟨.inl z, (s.pnew a z).2⟩, s.rep, s.pin⟩
theorem SE.sb {K : PySem.W.Frag} {O P : Addr → Prop} {H0 : Ent} {H H' : Hp} {σ : L2.St} {ρ : List Sl} (s : SE K O H0 P H σ ρ) (t : SameB ⟨H, P, H0.pin⟩ H') : SameB H0 H' :=
  s.same.seq (Ps := P) (fun a o e => t a o e) fun a z => (s.pnew a z).1
theorem SE.back {K : PySem.W.Frag} {O P P' : Addr → Prop} {H0 : Ent} {H H' : Hp} {σ σ' : L2.St} {ρ ρ' : List Sl} (s : SE K O H0 P H σ ρ) (t : SE K O ⟨H, P, H0.pin⟩ P' H' σ' ρ') : SE K O H0 P' H' σ' ρ' :=
  ⟨s.sb t.same, s.odom, s.oB, fun a z => ⟨(t.pnew a z).1.elim (fun y => (s.pnew a y).1) fun y => .inr (s.same.free y), (t.pnew a z).2⟩, t.rep, t.pin⟩
theorem slR_none {K : PySem.W.Frag} {OO P : Addr → Prop} {H : Hp} : ∀ (σ : L2.St), SlR K OO P H σ (List.replicate σ.length none) []
  | [] => .nil
  | v :: σ => .un v (slR_none σ)
def tSui (Γ : G) (K : PySem.W.Frag) (cv : Str → Value) (io : Option Nat) (ct t : HT) : Addr → Value → Option Addr → TS := fun a cls d D σ H => ∃ Ox c C b, (∀ a, Ox a → ∃ o, H a = some o) ∧ cls = .ref C ∧ cv c = .ref C ∧ d = none ∧ evH Γ c ct = some (.bl b) ∧ (∀ i, io = some i → σ[i]? = some (some (.ref a))) ∧
  (b = true → ∃ r, evH Γ c t = some r ∧ ∀ H' v, Same H H' → Rp K Ox H' v r → D.rt v H') ∧ (b = false → ∀ H', Same H H' → D.nx σ H')
theorem isE_true {sc : Scope} {no : Option Str} {c : HT} {e : Expr} (h1 : isIsE c = true) (h2 : chkH sc no c e = true) (env : PySem.Env) : ∀ whole, isTrue e env whole = (do let v ← whole; standAt e.pos; holding [v] (truthy v)) := by
  cases c <;> try exact absurd h1 Bool.false_ne_true
  cases e <;> first | exact absurd h2 Bool.false_ne_true | (intro whole; rfl)
theorem st_tri {X : Cx} {W : WX} (ok : OkS Γ cv lvl X W) {sc : Scope} (hsc : X.env.scope = sc) {body : List S} {sb : List Stmt} {h : Str} {io : Option Nat} {no : Option Str} {ct t : HT} {ec v : Expr} {np p1 p2 p3 pos : Pos} {fu : Nat}
    (hb : ∀ (W' : WX) (pn : List (Addr × Obj)) (xe : Value → Shared → Prop), L2N.Takes (X.tr pn xe) W' → PassesOwn (model X.prog X.w) X.A X.env xe → PSs (X.tr pn xe) sb (tS X.K cv (fun cls d σ H => σ.length = X.N.length → W' cls d σ H) (evB Γ fu body)))
    (h1 : glB sc h = true) (h2 : okName h = true) (hi : isIsE ct = true) (hc : chkH sc no ct ec = true) (h3 : chkH sc no t v = true) (h4 : (Γ.sub.any fun t => decide (t.2.1 = h)) = true) (h5 : (io = none ∧ no = none) ∨ ∃ i n, io = some i ∧ no = some n ∧ Γ.N[i]? = some n ∧ sc.names.lookup n = some .local) :
    PS X (.Try sb [.ExceptHandler (some (.Name h np)) no [.If ec [.Return (some v) p1] [] p3] p2] [] [] pos) (tS X.K cv W (evS Γ fu (.tri body h io ct t))) := by
  obtain ⟨t0, m0, e0⟩ := List.any_eq_true.mp h4
  have e0 : t0.2.1 = h := of_decide_eq_true e0
  obtain ⟨v0, u0, C0, hv0, _⟩ := (ok.subs t0 m0).ex
  rw [e0] at hv0
  have hnm : Names X h u0 := ⟨gl_of hsc h1, (okName_of h2).1, hv0.2.2⟩
  have hsu : ∀ (a : Addr) (oe : Obj) (cls : Value) (d : Option Addr) (pn : List (Addr × Obj)), L2N.Zn cls d oe → (∃ vs, oe.data = .fields vs) → PSs (X.suite a ((a, oe) :: pn)) [.If ec [.Return (some v) p1] [] p3] (tSui Γ X.K cv io ct t a cls d) := by
    intro a oe cls d pn hz0 hf
    have hz := hz0.zc
    refine PSs.of fun D σ H ⟨Ox, c, C, b, hO, ecl, hcv, ed, er, hs, q1, q2⟩ => ?_
    subst ecl ed
    have hni : ∀ x, no = some x → ∃ i, (io.map fun i => (i, a)) = some (i, a) ∧ X.N[i]? = some x := fun x hx => by
      rcases h5 with ⟨_, z⟩ | ⟨i, n, z1, z2, z3, _⟩
      · rw [z] at hx; cases hx
      · rw [z2] at hx; cases hx; exact ⟨i, by rw [z1]; rfl, by rw [ok.nN]; exact z3⟩
    have hb : ∀ i b, (io.map fun i => (i, a)) = some (i, b) → σ[i]? = some (some (.ref b)) := fun i b hb => by
      cases io with
      | none => cases hb
      | some i0 => cases hb; exact hs _ rfl
    refine ⟨_, pss_one (ps_if (pt_truth (sH (ni := io.map fun i => (i, a)) ok hsc hcv hz hf hni Ox ct ec hc) (isE_true hi hc _)) (pss_one (ps_ret (sH (ni := io.map fun i => (i, a)) ok hsc hcv hz hf hni Ox t v h3))) pss_nil), hO, hb, .bl b, er, fun H1 w s1 r => ⟨b, tru_v r rfl, ?_⟩⟩
    cases b with
    | true =>
      obtain ⟨r, e1, q⟩ := q1 rfl
      exact ⟨fun a z => let ⟨o, e⟩ := hO a z; ⟨o, s1 _ _ e⟩, hb, r, e1, fun H2 w s2 rr => q H2 w (s1.trans s2) rr⟩
    | false => exact q2 rfl H1 s1
  have len_ok : X.N.length = Γ.N.length := by rw [ok.nN]
  have post : ∀ (D : Ends) (W' : WX) (O : Addr → Prop) (H0 : Ent) (P : Addr → Prop) (H : Hp) (σ : L2.St) (ρ : List Sl) (out o : Out), SE X.K O H0 P H σ ρ → Post X.K cv W O H0 P H D out → (match (some o : Option Out) with
      | some (.exc c) => match subG Γ c h with
        | some true => match evH Γ c ct with
          | some (.bl true) => (evH Γ c t).map Out.ret
          | some (.bl false) => some (.nx (List.replicate Γ.N.length none))
          | _ => none
        | some false => some (.exc c)
        | none => none
      | o => o) = some out → (∀ c H' σ', SameB ⟨H, P, H0.pin⟩ H' → σ'.length = X.N.length → (∃ b C, subG Γ c h = some b ∧ cv c = .ref C ∧ PySem.W.exmOne X.K (.ref C) u0 = some b ∧ (b = true → ∃ b2, evH Γ c ct = some (.bl b2) ∧ (∀ a, O a → ∃ o, H' a = some o) ∧ (b2 = true → ∃ r, evH Γ c t = some r ∧ ∀ H2 v, Same H' H2 → Rp X.K O H2 v r → D.rt v H2) ∧ (b2 = false → ∀ H2 σ2, Same H' H2 → σ2.length = X.N.length → D.nx σ2 H2)) ∧ (b = false → W (cv c) none σ' H')) → W' (cv c) none σ' H') →
      Post X.K cv (fun cls d σ H => σ.length = X.N.length → W' cls d σ H) O ⟨H, P, H0.pin⟩ P H D o := by
    intro D W' O H0 P H σ ρ out o s po e hW
    cases o with
    | nx ρ2 => cases e; exact fun H2 σ2 P2 n2 r2 s2 => po H2 σ2 P2 n2 r2 (s.back s2)
    | bk ρ2 => cases e; exact fun H2 σ2 P2 n2 r2 s2 => po H2 σ2 P2 n2 r2 (s.back s2)
    | ct ρ2 => cases e; exact fun H2 σ2 P2 n2 r2 s2 => po H2 σ2 P2 n2 r2 (s.back s2)
    | rtm ρ2 => cases e; exact fun H2 σ2 P2 n2 r2 s2 => po H2 σ2 P2 n2 r2 (s.back s2)
    | ret d => cases e; exact fun H2 v s2 r => po H2 v (s.sb s2) r
    | exc c =>
      intro H' σ' s' hl
      have hdom : ∀ a, O a → ∃ o, H' a = some o := fun a z => let ⟨o, e⟩ := s.odom a z; ⟨o, (s.sb s' _ _ e).1 (s.oB a z)⟩
      dsimp only at e
      cases e1 : subG Γ c h with
      | none => rw [e1] at e; cases e
      | some b =>
        obtain ⟨v1, u1, C1, hv1, q1, q2, q3, q4⟩ := (ok.subs _ (subG_mem e1)).ex
        have eu := hasV_eq hv0 hv1
        subst eu
        rw [e1] at e
        refine hW c H' σ' s' hl ⟨b, C1, e1, q1, q4, fun hb => ?_, fun hb => ?_⟩
        · subst hb
          dsimp only at e
          split at e
          · rename_i e2
            refine ⟨true, e2, hdom, fun _ => ?_, fun z => absurd z Bool.noConfusion⟩
            cases e3 : evH Γ c t with
            | none => rw [e3] at e; cases e
            | some r =>
              rw [e3] at e
              cases e
              exact ⟨r, rfl, fun H2 v s2 rr => po H2 v ((s.sb s').trans s2) rr⟩
          · rename_i e2
            cases e
            refine ⟨false, e2, hdom, fun z => absurd z Bool.noConfusion, fun _ H2 σ2 s2 hl2 => ?_⟩
            have sb2 : SameB ⟨H, P, H0.pin⟩ H2 := SameB.trans s' s2
            refine po H2 σ2 (fun _ => False) (fun a z => SameB.free (E := ⟨H, P, H0.pin⟩) sb2 z) ⟨SameB.stay (fun a o e => sb2 a o e) (fun a z => (s.pnew a z).2) fun a z => .inr z, fun a z => z.elim⟩ ⟨s.sb sb2, s.odom, s.oB, fun a z => z.elim, ⟨[], ?_, .nil⟩, fun a d e1 e2 => ?_⟩
            · rw [← len_ok, ← hl2]; exact slR_none σ2
            · rw [List.getElem?_replicate] at e2
              split at e2 <;> cases e2
          · cases e
        · subst hb
          cases e
          exact po H' σ' (s.sb s')
  rcases h5 with ⟨rfl, rfl⟩ | ⟨i, n, rfl, rfl, hN, hl⟩
  · refine PS.weak (try_one ok.stk ok.frm hnm ok.tk hb hsu) fun D σ H ⟨O, H0, P, ρ, out, s, ev, po⟩ => ?_
    cases eo : evB Γ fu body ρ with
    | none => simp only [evS, eo] at ev; cases ev
    | some o =>
      simp only [evS, eo] at ev
      refine ⟨O, _, P, ρ, o, s.re, eo, post D _ O H0 P H σ ρ out o s po ev fun c H' σ' s' hlen ⟨b, C, e1, e2, e3, e4, e5⟩ => ?_⟩
      refine ⟨b, by rw [e2]; exact e3, fun hb a ha => ?_, e5⟩
      obtain ⟨b2, q1, q2, q3, q4⟩ := e4 hb
      exact ⟨O, c, C, b2, q2, e2, e2, rfl, q1, (fun i hi => by cases hi), q3, fun hb2 H2 s2 => q4 hb2 H2 σ' s2 hlen⟩
  · refine PS.weak (L2N.ps_try_as (i := i) ok.stk ok.frm ok.nd (by rw [ok.nN]; exact hN) (by show X.env.scope.names.lookup n = _; rw [hsc]; exact hl) hnm ok.tk hb hsu) fun D σ H ⟨O, H0, P, ρ, out, s, ev, po⟩ => ?_
    cases eo : evB Γ fu body ρ with
    | none => simp only [evS, eo] at ev; cases ev
    | some o =>
      simp only [evS, eo] at ev
      refine ⟨O, _, P, ρ, o, s.re, eo, post D _ O H0 P H σ ρ out o s po ev fun c H' σ' s' hlen ⟨b, C, e1, e2, e3, e4, e5⟩ => ?_⟩
      refine ⟨b, by rw [e2]; exact e3, fun hb a ha => ?_, e5⟩
      obtain ⟨b2, q1, q2, q3, q4⟩ := e4 hb
      refine ⟨O, c, C, b2, q2, e2, e2, rfl, q1, fun j hj => ?_, q3, fun hb2 H2 s2 => q4 hb2 H2 _ s2 ?_⟩
      · cases hj
        exact List.getElem?_set_self (by rw [hlen, len_ok]; exact (List.getElem?_eq_some_iff.mp hN).1)
      · rw [List.length_set, List.length_set]; exact hlen
mutual
theorem sS : ∀ (s : S) (st : Stmt) (X : Cx) (W : WX) (sc : Scope) (fu : Nat), OkS Γ cv lvl X W → X.env.scope = sc → chkS Γ sc s st = true → PS X st (tS X.K cv W (evS Γ fu s))
  | .tr body h io t, st, X, W, sc, fu, ok, hsc, hh => by
    cases st <;> try exact absurd hh Bool.false_ne_true
    rename_i sb hs oe fb pos
    cases oe <;> try exact absurd hh Bool.false_ne_true
    cases fb <;> try exact absurd hh Bool.false_ne_true
    have hh : chkHd Γ sc h io t hs = true ∧ chkB Γ sc body sb = true := by rw [← Bool.and_eq_true]; exact hh
    have hb : ∀ (W' : WX) (pn : List (Addr × Obj)) (xe : Value → Shared → Prop), L2N.Takes (X.tr pn xe) W' → PassesOwn (model X.prog X.w) X.A X.env xe → PSs (X.tr pn xe) sb (tS X.K cv (fun cls d σ H => σ.length = X.N.length → W' cls d σ H) (evB Γ fu body)) :=
      fun W' pn xe tk hp => sB body sb (X.tr pn xe) _ sc fu (ok.tr tk hp) hsc hh.2
    obtain ⟨x, np, no, v, p1, p2, rfl, g⟩ : ∃ x np no v p1 p2, hs = [.ExceptHandler (some (.Name x np)) no [.Return (some v) p1] p2] ∧ (decide (x = h) && glB sc x && okName x && chkH sc no t v && (Γ.sub.any fun t => decide (t.2.1 = h)) && ioOk Γ sc io no) = true := by
      have g := hh.1
      unfold chkHd at g
      split at g
      · exact ⟨_, _, _, _, _, _, rfl, g⟩
      · cases g
    simp only [Bool.and_eq_true, decide_eq_true_eq] at g
    obtain ⟨⟨⟨⟨⟨rfl, g1⟩, g2⟩, g3⟩, g4⟩, g5⟩ := g
    refine st_try ok hsc hb g1 g2 g3 g4 ?_
    cases io <;> cases no
    · exact .inl ⟨rfl, rfl⟩
    · cases g5
    · cases g5
    · simp only [ioOk, Bool.and_eq_true, decide_eq_true_eq] at g5
      exact .inr ⟨_, _, rfl, rfl, g5.1, g5.2⟩
  | .trk body h io k j ht, st, X, W, sc, fu, ok, hsc, hh => by
    cases st <;> try exact absurd hh Bool.false_ne_true
    rename_i sb hs oe fb pos
    cases oe <;> try exact absurd hh Bool.false_ne_true
    cases fb <;> try exact absurd hh Bool.false_ne_true
    have hh : chkHk Γ sc h io k j ht hs = true ∧ chkB Γ sc body sb = true := by rw [← Bool.and_eq_true]; exact hh
    exact st_trk ok hsc (fun W' pn xe tk hp => sB body sb (X.tr pn xe) _ sc fu (ok.tr tk hp) hsc hh.2) hh.1
  | .tri body h io ct t, st, X, W, sc, fu, ok, hsc, hh => by
    cases st <;> try exact absurd hh Bool.false_ne_true
    rename_i sb hs oe fb pos
    cases oe <;> try exact absurd hh Bool.false_ne_true
    cases fb <;> try exact absurd hh Bool.false_ne_true
    have hh : chkHi Γ sc h io ct t hs = true ∧ chkB Γ sc body sb = true := by rw [← Bool.and_eq_true]; exact hh
    have hb : ∀ (W' : WX) (pn : List (Addr × Obj)) (xe : Value → Shared → Prop), L2N.Takes (X.tr pn xe) W' → PassesOwn (model X.prog X.w) X.A X.env xe → PSs (X.tr pn xe) sb (tS X.K cv (fun cls d σ H => σ.length = X.N.length → W' cls d σ H) (evB Γ fu body)) :=
      fun W' pn xe tk hp => sB body sb (X.tr pn xe) _ sc fu (ok.tr tk hp) hsc hh.2
    have g := hh.1
    unfold chkHi at g
    split at g
    case h_2 => cases g
    simp only [Bool.and_eq_true, decide_eq_true_eq] at g
    obtain ⟨⟨⟨⟨⟨⟨⟨rfl, g1⟩, g2⟩, g3⟩, g4⟩, g5⟩, g6⟩, g7⟩ := g
    refine st_tri ok hsc hb g1 g2 g3 g4 g5 g6 ?_
    rename_i no _ _ _ _ _ _
    cases io <;> cases no
    · exact .inl ⟨rfl, rfl⟩
    · cases g7
    · cases g7
    · simp only [ioOk, Bool.and_eq_true, decide_eq_true_eq] at g7
      exact .inr ⟨_, _, rfl, rfl, g7.1, g7.2⟩
  | .asg i b e, st, X, W, sc, fu, ok, hsc, h => by
    cases st <;> try exact absurd h Bool.false_ne_true
    rename_i tgs v pos
    match tgs, h with
    | [.Name x p'], h =>
      simp only [chkS, Bool.and_eq_true] at h
      refine PS.weak (as_ok (n := 0) ok hsc h.1 h.2 rfl) fun E σ H ⟨O, H0, P, ρ, out, s, ev, po⟩ => ?_
      simp only [evS] at ev
      refine go_tF0 s ev po fun H1 w d e1 ek s1 s2 r => ?_
      obtain ⟨hk, rfl⟩ := if_some ek
      exact po H1 _ P (same_none s1) (.same s1) (s2.put0 (keep_b hk r) i)
  | .owr i e, st, X, W, sc, fu, ok, hsc, h => by
    cases st <;> try exact absurd h Bool.false_ne_true
    rename_i tgs v pos
    match tgs, h with
    | [.Name x p'], h =>
      simp only [chkS, Bool.and_eq_true] at h
      refine PS.weak (as_okG (n := 1) ok hsc h.1.1 h.1.2 h.2) fun E σ H ⟨O, H0, P, ρ, out, s, ev, po⟩ => ?_
      simp only [evS] at ev
      refine ⟨O, bor ρ, s.bor, ?_⟩
      dsimp only
      cases e1 : bnd (DE.ev Γ e (bor ρ)) (ownG 1) with
      | none => rw [e1] at ev; cases ev
      | some r => cases r with
        | error c => rw [e1] at ev; cases ev; exact fun H' s' => po H' σ (s.same.trans s')
        | ok d =>
          rw [e1] at ev
          obtain ⟨hk, rfl⟩ := if_some ev
          intro H1 w P1 fp s1 fr o nd
          have o2 : Ow X.K (fun a => (O a ∨ P a) ∨ P1 a) P1 H1 1 w d fp := by
            cases d <;> try (cases hk; done)
            cases o with | @ls n a xs ds fp2 g1 g2 g3 =>
              have e2 : fp2 = [] := Ows.fp0 g3
              subst e2
              exact .ls g1 g2 (.of0 (Rps.noL hk g3.to0))
          exact po H1 _ _ (same_none s1) (.setN s1 fr) (s.putN s1 fr o2 nd i (by decide))
  | .own i n e, st, X, W, sc, fu, ok, hsc, h => by
    cases st <;> try exact absurd h Bool.false_ne_true
    rename_i tgs v pos
    match tgs, h with
    | [.Name x p'], h =>
      simp only [chkS, Bool.and_eq_true, decide_eq_true_eq] at h
      refine PS.weak (as_okG (n := n) ok hsc h.1.1.1 h.1.1.2 h.1.2) fun E σ H ⟨O, H0, P, ρ, out, s, ev, po⟩ => ?_
      simp only [evS] at ev
      refine go_tFi s ev po fun H1 w d P1 fp e1 ek s1 fr o nd => ?_
      cases ek
      exact po H1 _ _ (same_none s1) (.setN s1 fr) (s.putN s1 fr o nd i (by omega))
  | .pat p b e, st, X, W, sc, fu, ok, hsc, h => by
    cases st <;> try exact absurd h Bool.false_ne_true
    rename_i tgs v pos
    match tgs, h with
    | [.Tuple ts k p2], h =>
      simp only [chkS, Bool.and_eq_true, Bool.not_eq_true'] at h
      obtain ⟨⟨⟨h1, h2⟩, h3⟩, h4⟩ := h
      refine PS.weak (ps_asg (snd e (.one v) X W sc ok.toOkX hsc h2).1 (pg_ok ok.calm ok.nd (def_loc ok hsc) p (.Tuple ts k p2) (by rw [ok.nN]; exact h1)) (sw_tup h3) (sub_off hsc h4)) fun E σ H ⟨O, H0, P, ρ, out, s, ev, po⟩ => ?_
      simp only [evS] at ev
      refine go_tD s ev po fun H1 w d e1 ek s1 s2 r => ?_
      obtain ⟨hk, ek⟩ := if_some' ek
      cases hp : pat p d with
      | none => rw [hp] at ek; cases ek
      | some l =>
        rw [hp] at ek
        cases ek
        exact ⟨_, d, l, keep_b hk r, hp, fun vl bd => po H1 _ P (same_none s1) (.same s1) (s2.setB bd)⟩
  | .par i j b e1 e2, st, X, W, sc, fu, ok, hsc, h => by
    cases st <;> try exact absurd h Bool.false_ne_true
    rename_i tgs v pos
    match tgs, v, h with
    | [.Tuple [.Name x px, .Name y py] k p], .Tuple [a, c] k2 p3, h =>
      simp only [chkS, Bool.and_eq_true, decide_eq_true_eq, Bool.not_eq_true'] at h
      obtain ⟨⟨⟨⟨⟨⟨⟨⟨⟨⟨⟨⟨⟨h1, h2⟩, h3⟩, h4⟩, h5⟩, h6⟩, h7⟩, h8⟩, h9⟩, h10⟩, h11⟩, h12⟩, h13⟩, h14⟩ := h
      have A := a_cons (cv := cv) (W := W) h10 (snd e1 (.one a) X W sc ok.toOkX hsc h8).1 (a_cons h11 (snd e2 (.one c) X W sc ok.toOkX hsc h9).1 a_nil)
      refine PS.weak (ps_par ok.calm ok.nd (by rw [ok.nN]; exact h1) (by rw [ok.nN]; exact h2) h3 (by rw [hsc]; exact h4) (by rw [hsc]; exact h5) A (sw_par (by rw [hsc]; exact h14) (by rw [hsc]; exact h4) (by rw [hsc]; exact h5) h6 h7 h10 h11 h12 h13)) fun E σ H ⟨O, H0, P, ρ, out, s, ev, po⟩ => ?_
      simp only [evS] at ev
      refine ⟨_, _, env_b s b, ?_⟩
      cases q1 : DE.ev Γ e1 (envB b ρ) with
      | none => rw [q1] at ev; cases ev
      | some r1 => cases r1 with
        | error c => rw [q1] at ev; cases ev; dsimp only; rw [q1]; exact fun H' s' => po H' σ (s.same.trans s')
        | ok d1 =>
          rw [q1] at ev
          cases q2 : DE.ev Γ e2 (envB b ρ) with
          | none => simp only [exE, q2] at ev; cases ev
          | some r2 => cases r2 with
            | error c => simp only [exE, q2] at ev; cases ev; dsimp only; rw [q1, bnd_ok, q2]; exact fun H' s' => po H' σ (s.same.trans s')
            | ok d2 =>
              simp only [exE, q2] at ev
              obtain ⟨⟨k1, k2⟩, rfl⟩ := if_some ev
              dsimp only
              rw [q1, bnd_ok, q2]
              intro H' vs s1 rs
              cases rs with | cons r1 rs => cases rs with | cons r2 rs => cases rs with | nil =>
                exact ⟨_, _, rfl, po H' _ P (same_none s1) (.same s1) (((s.mono s1).put0 (keep_b k1 r1) i).put0 (keep_b k2 r2) j)⟩
  | .app i n b e, st, X, W, sc, fu, ok, hsc, h => by
    cases st <;> try exact absurd h Bool.false_ne_true
    rename_i v pos
    match v, h with
    | .Call (.Attribute x m apos) [v] [] cpos, h => exact st_app ok hsc h
  | .apr o e, st, X, W, sc, fu, ok, hsc, h => by
    cases st <;> try exact absurd h Bool.false_ne_true
    rename_i v pos
    match v, h with
    | .Call (.Attribute x m apos) [v] [] cpos, h => exact st_apr ok hsc h
  | .ext o b e, st, X, W, sc, fu, ok, hsc, h => by
    cases st <;> try exact absurd h Bool.false_ne_true
    rename_i v pos
    match v, h with
    | .Call (.Attribute x m apos) [v] [] cpos, h => exact st_ext ok hsc h
  | .mcl i o b args, st, X, W, sc, fu, ok, hsc, h => by
    cases st <;> try exact absurd h Bool.false_ne_true
    rename_i v pos
    match v, h with
    | .Call (.Attribute (.Name x p1) m apos) (e1 :: es) [] cpos, h => exact st_mcl ok hsc h
  | .pop i o, st, X, W, sc, fu, ok, hsc, h => by
    cases st <;> try exact absurd h Bool.false_ne_true
    rename_i tgs v pos
    match tgs, v, h with
    | [.Name y p1], .Call (.Attribute x m apos) [] [] cpos, h => exact st_pop ok hsc h
  | .popA i k c o, st, X, W, sc, fu, ok, hsc, h => by
    cases st <;> try exact absurd h Bool.false_ne_true
    rename_i tgs v pos
    match tgs, v, h with
    | [.Name y p1], .BinOp (.Name z p2) .Add (.Subscript (.Call (.Attribute x m apos) [] [] cpos) (.Constant (.int c') kk p3) p4) p5, h => exact st_popA ok hsc h
  | .bad, st, X, W, sc, fu, ok, hsc, h => by
    refine ⟨fun pins s σ H E I hh => ?_⟩
    obtain ⟨O, H0, P, ρ, out, s1, ev, po⟩ := hh
    simp only [evS] at ev
    cases ev
  | .seta i f n b e, st, X, W, sc, fu, ok, hsc, h => by
    cases st <;> try exact absurd h Bool.false_ne_true
    rename_i tgs v pos
    match tgs, h with
    | [.Attribute (.Name x p1) g p2], h => exact st_seta ok hsc h
  | .augL o op ix e, st, X, W, sc, fu, ok, hsc, h => by
    cases st <;> try exact absurd h Bool.false_ne_true
    rename_i tg op' v pos
    match tg, h with
    | .Subscript x j p2, h => exact st_augL ok hsc h
  | .aug2 i op ix jx e, st, X, W, sc, fu, ok, hsc, h => by
    cases st <;> try exact absurd h Bool.false_ne_true
    rename_i tg op' v pos
    match tg, h with
    | .Subscript (.Subscript (.Name x p1) j p3) j2 p2, h => exact st_aug2 ok hsc h
  | .rtm, st, X, W, sc, fu, ok, hsc, h => by
    cases st <;> try exact absurd h Bool.false_ne_true
    rename_i v pos
    cases v <;> try exact absurd h Bool.false_ne_true
    refine PS.weak ps_retN fun E σ H ⟨O, H0, P, ρ, out, s, ev, po⟩ => ?_
    cases ev
    exact po H σ P (fun _ z => z) .refl s
  | .par3 i j l b e1 e2 e3, st, X, W, sc, fu, ok, hsc, h => by
    cases st <;> try exact absurd h Bool.false_ne_true
    exact st_par3 ok hsc h
  | .dset o b ix e, st, X, W, sc, fu, ok, hsc, h => by
    cases st <;> try exact absurd h Bool.false_ne_true
    rename_i tgs v pos
    match tgs, h with
    | [.Subscript x j p2], h => exact st_dset ok hsc h
  | .own2 i n j m e1 e2, st, X, W, sc, fu, ok, hsc, h => by
    cases st <;> try exact absurd h Bool.false_ne_true
    rename_i tgs v pos
    match tgs, v, h with
    | [.Tuple [.Name x px, .Name y py] k p], .Tuple [a, c] k2 p3, h =>
      simp only [chkS, Bool.and_eq_true, decide_eq_true_eq, Bool.not_eq_true'] at h
      obtain ⟨⟨⟨⟨⟨⟨⟨⟨⟨⟨⟨⟨⟨⟨⟨⟨⟨h1, h2⟩, h3⟩, h4⟩, h5⟩, h6⟩, h7⟩, h8⟩, h9⟩, h10⟩, h11⟩, h12⟩, h13⟩, h14⟩, h15⟩, h16⟩, h17⟩, h18⟩ := h
      have A := pa_cons (sndO n e1 a sc ok.toOkX hsc h8 h15) (pa_cons (sndO m e2 c sc ok.toOkX hsc h9 h16) pa_nil (stE h11 [] X.env)) (stE h10 [c] X.env)
      refine PS.weak (ps_par ok.calm ok.nd (by rw [ok.nN]; exact h1) (by rw [ok.nN]; exact h2) h3 (by rw [hsc]; exact h4) (by rw [hsc]; exact h5) A (sw_par (by rw [hsc]; exact h14) (by rw [hsc]; exact h4) (by rw [hsc]; exact h5) h6 h7 h10 h11 h12 h13)) fun E σ H ⟨O, H0, P, ρ, out, s, ev, po⟩ => ?_
      simp only [evS] at ev
      refine go_tFi s ev po fun H1 w d P1 fp q1 ek s1 fr o nd => ?_
      have s' : SE X.K O H0 (fun a => P a ∨ P1 a) H1 σ ρ := s.more s1 (fun a z => z.elim .inl fun z => .inr (fr a z)) fun _ => .inl
      refine go_tFi s' ek po fun H2 w2 d2 P2 fp2 q2 ek2 s2 fr2 o2 nd2 => ?_
      cases ek2
      refine ⟨_, _, rfl, po H2 _ _ (same_none (s1.trans s2)) ((Rel.setN s1 fr).trans (same_none s1) (Rel.setN s2 fr2)) ?_⟩
      exact (s.putN s1 fr o nd i (by omega)).putN s2 fr2 o2 nd2 j (by omega)
  | .set i b ix e, st, X, W, sc, fu, ok, hsc, h => by
    cases st <;> try exact absurd h Bool.false_ne_true
    rename_i tgs v pos
    match tgs, h with
    | [.Subscript x j p2], h => exact st_set ok hsc h
  | .setL i ix e, st, X, W, sc, fu, ok, hsc, h => by
    cases st <;> try exact absurd h Bool.false_ne_true
    rename_i tgs v pos
    match tgs, h with
    | [.Subscript (.Name x p1) j p2], h => exact st_setL ok hsc h
  | .set2 i b ix jx e, st, X, W, sc, fu, ok, hsc, h => by
    cases st <;> try exact absurd h Bool.false_ne_true
    rename_i tgs v pos
    match tgs, h with
    | [.Subscript (.Subscript (.Name x p1) j p3) j2 p2], h => exact st_set2 ok hsc h
  | .aug i op e, st, X, W, sc, fu, ok, hsc, h => by
    cases st <;> try exact absurd h Bool.false_ne_true
    rename_i tg op' v pos
    match tg, h with
    | .Name x p', h =>
      simp only [chkS, lcName, Bool.and_eq_true, Bool.or_eq_true, decide_eq_true_eq] at h
      obtain ⟨⟨⟨rfl, h0⟩, h1, h2⟩, h3⟩ := h
      have he := (snd e (.one v) X W sc ok.toOkX hsc h3).1
      have hi : X.N[i]? = some x := by rw [ok.nN]; exact h1
      have hx : L2.Loc X.env.scope x := by rw [hsc]; exact loc_of h2
      rcases h0 with rfl | rfl
      · refine PS.weak (ps_aug ok.nd hi hx he ip_add (.inl (ok.fnA x))) fun E σ H ⟨O, H0, P, ρ, out, s, ev, po⟩ => ?_
        simp only [evS] at ev
        split at ev
        case h_2 => cases ev
        rename_i a0 e0
        obtain ⟨fp, r, nd⟩ := s.rep
        obtain ⟨w, fp1, q1, q2, _⟩ := r.get e0
        cases q2 with | fz q2 => cases q2 with | int =>
          refine ⟨_, q1, go_tD (b := true) s ev po fun H1 u d e1 ek s1 s2 r => ?_⟩
          cases d <;> try (cases ek; done)
          cases r
          cases ek
          exact ⟨_, _, rfl, rfl, po H1 _ P (same_none s1) (.same s1) (s2.put0 (.int _) i)⟩
      · refine PS.weak (ps_aug ok.nd hi hx he ip_sub (.inl (ok.fnA x))) fun E σ H ⟨O, H0, P, ρ, out, s, ev, po⟩ => ?_
        simp only [evS] at ev
        split at ev
        case h_2 => cases ev
        rename_i a0 e0
        obtain ⟨fp, r, nd⟩ := s.rep
        obtain ⟨w, fp1, q1, q2, _⟩ := r.get e0
        cases q2 with | fz q2 => cases q2 with | int =>
          refine ⟨_, q1, go_tD (b := true) s ev po fun H1 u d e1 ek s1 s2 r => ?_⟩
          cases d <;> try (cases ek; done)
          cases r
          cases ek
          exact ⟨_, _, rfl, rfl, po H1 _ P (same_none s1) (.same s1) (s2.put0 (.int _) i)⟩
  | .frz _, st, X, W, sc, fu, ok, hsc, h => absurd h Bool.false_ne_true
  | .exp e, st, X, W, sc, fu, ok, hsc, h => by
    cases st <;> try exact absurd h Bool.false_ne_true
    rename_i v pos
    simp only [chkS, Bool.and_eq_true, Bool.not_eq_true'] at h
    have hs : swapsWith v none pos.line X.env = pure false := by
      have := h.2
      cases v <;> first | rfl | cases this
    refine PS.weak (ps_expr (snd e (.one v) X W sc ok.toOkX hsc h.1).1 hs) fun E σ H ⟨O, H0, P, ρ, out, s, ev, po⟩ => ?_
    simp only [evS] at ev
    refine go_tD (b := true) s ev po fun H1 w d e1 ek s1 s2 r => ?_
    cases ek
    exact po H1 σ P (same_none s1) (.same s1) s2
  | .ite c a b, st, X, W, sc, fu, ok, hsc, h => by
    cases st <;> try exact absurd h Bool.false_ne_true
    simp only [chkS, Bool.and_eq_true] at h
    refine PS.weak (ps_if ((snd c _ X W sc ok.toOkX hsc h.1.1.1).2 h.1.1.2) (sB a _ X W sc fu ok hsc h.1.2) (sB b _ X W sc fu ok hsc h.2)) fun E σ H ⟨O, H0, P, ρ, out, s, ev, po⟩ => ?_
    simp only [evS] at ev
    refine tB_go s ev po fun H1 k ek s1 s2 => ?_
    have po' : Post X.K cv W O H0 P H1 E out := by
      cases out with
      | nx ρ2 => exact fun H2 σ2 P2 n2 r2 s2 => po H2 σ2 P2 (fun a z => s1.free (n2 a z)) ((Rel.same s1).trans (same_none s1) r2) s2
      | bk ρ2 => exact fun H2 σ2 P2 n2 r2 s2 => po H2 σ2 P2 (fun a z => s1.free (n2 a z)) ((Rel.same s1).trans (same_none s1) r2) s2
      | ct ρ2 => exact fun H2 σ2 P2 n2 r2 s2 => po H2 σ2 P2 (fun a z => s1.free (n2 a z)) ((Rel.same s1).trans (same_none s1) r2) s2
      | ret d => exact po
      | exc c => exact po
      | rtm ρ2 => exact fun H2 σ2 P2 n2 r2 s2 => po H2 σ2 P2 (fun a z => s1.free (n2 a z)) ((Rel.same s1).trans (same_none s1) r2) s2
    cases k with
    | true => exact ⟨O, H0, P, ρ, out, s2, ek, po'⟩
    | false => exact ⟨O, H0, P, ρ, out, s2, ek, po'⟩
  | .for p k b args body, st, X, W, sc, fu, ok, hsc, h => by
    cases st <;> try exact absurd h Bool.false_ne_true
    rename_i tg it eb oe pos
    match oe, h with
    | [], h =>
      simp only [chkS, Bool.and_eq_true] at h
      exact st_for ok hsc h.1.1.1 h.1.1.2 h.1.2 (sB body eb X W sc fu ok hsc h.2)
  | .whl c body, st, X, W, sc, fu, ok, hsc, h => by
    cases st <;> try exact absurd h Bool.false_ne_true
    rename_i ec eb oe pos
    match oe, h with
    | [], h =>
      simp only [chkS, Bool.and_eq_true] at h
      exact st_whl ok ((snd c _ X W sc ok.toOkX hsc h.1.1).2 h.1.2) (sB body eb X W sc fu ok hsc h.2)
  | .ret e, st, X, W, sc, fu, ok, hsc, h => by
    cases st <;> try exact absurd h Bool.false_ne_true
    rename_i v pos
    cases v <;> try exact absurd h Bool.false_ne_true
    rename_i v
    refine PS.weak (ps_ret (snd e (.one v) X W sc ok.toOkX hsc h).1) fun E σ H ⟨O, H0, P, ρ, out, s, ev, po⟩ => ?_
    simp only [evS] at ev
    refine go_tD (b := true) s ev po fun H1 w d e1 ek s1 s2 r => ?_
    cases ek
    exact po H1 w (s.same.trans s1) (r.less fun a z => .inl z)
  | .retN, st, X, W, sc, fu, ok, hsc, h => by
    cases st <;> try exact absurd h Bool.false_ne_true
    rename_i v pos
    cases v <;> try exact absurd h Bool.false_ne_true
    refine PS.weak ps_retN fun E σ H ⟨O, H0, P, ρ, out, s, ev, po⟩ => ?_
    cases ev
    exact po H _ s.same .non
  | .rai c, st, X, W, sc, fu, ok, hsc, h => by
    cases st <;> try exact absurd h Bool.false_ne_true
    rename_i v v2 pos
    match v, v2, h with
    | some (.Call (.Name x p) [.Constant (.str m) j p2] [] p3), none, h =>
      simp only [chkS, Bool.and_eq_true, decide_eq_true_eq] at h
      obtain ⟨⟨⟨rfl, h1⟩, h2⟩, h3⟩ := h
      obtain ⟨C, e1, e2, e3, e4, e5, e6⟩ := (ok.exc x h3).ex
      refine PS.weak (L2N.ps_raise ok.calm ok.tk (L2N.pmk_own PySem.F.excBase_ValueError e4 e2 e3 (raises_own e5 e6) (gl_of hsc h1) (okName_of h2).1)) fun E σ H ⟨O, H0, P, ρ, out, s, ev, po⟩ => ?_
      cases ev
      have := po H σ s.same
      rw [e1] at this
      exact this
  | .forr i v ix e, st, X, W, sc, fu, ok, hsc, h => st_forF ok hsc h
  | .pss, st, X, W, sc, fu, ok, hsc, h => by
    cases st <;> try exact absurd h Bool.false_ne_true
    refine PS.weak ps_pass fun E σ H ⟨O, H0, P, ρ, out, s, ev, po⟩ => ?_
    cases ev
    exact po H σ P (fun _ z => z) .refl s
  | .brk, st, X, W, sc, fu, ok, hsc, h => by
    cases st <;> try exact absurd h Bool.false_ne_true
    refine PS.weak ps_break fun E σ H ⟨O, H0, P, ρ, out, s, ev, po⟩ => ?_
    cases ev
    exact po H σ P (fun _ z => z) .refl s
  | .cnt, st, X, W, sc, fu, ok, hsc, h => by
    cases st <;> try exact absurd h Bool.false_ne_true
    refine PS.weak ps_continue fun E σ H ⟨O, H0, P, ρ, out, s, ev, po⟩ => ?_
    cases ev
    exact po H σ P (fun _ z => z) .refl s
theorem sB : ∀ (ss : List S) (sts : List Stmt) (X : Cx) (W : WX) (sc : Scope) (fu : Nat), OkS Γ cv lvl X W → X.env.scope = sc → chkB Γ sc ss sts = true → PSs X sts (tS X.K cv W (evB Γ fu ss))
  | [], [], X, W, sc, fu, ok, hsc, h => pss_emp
  | [], _ :: _, X, W, sc, fu, ok, hsc, h => absurd h Bool.false_ne_true
  | s :: ss, sts, X, W, sc, fu, ok, hsc, h => by
    by_cases hf : ∃ i, s = .frz i
    · obtain ⟨i, rfl⟩ := hf
      have h : chkB Γ sc ss sts = true := by cases sts <;> exact h
      exact pss_frz (sB ss sts X W sc fu ok hsc h)
    · cases sts with
      | nil =>
        exfalso
        cases s <;> first | exact absurd h Bool.false_ne_true | exact hf ⟨_, rfl⟩
      | cons st sts =>
        have h : chkS Γ sc s st = true ∧ chkB Γ sc ss sts = true := by
          have h2 : (chkS Γ sc s st && chkB Γ sc ss sts) = true := by
            cases s <;> first | exact h | exact absurd ⟨_, rfl⟩ hf
          rwa [Bool.and_eq_true] at h2
        exact pss_seq (sS s st X W sc fu ok hsc h.1) (sB ss sts X W sc fu ok hsc h.2)
end
end
end DE
set_option linter.all false
set_option maxRecDepth 100000
set_option maxHeartbeats 600000
namespace DE
open PySem PySem.Spec PyProof.Rows L2
def initS (n : Nat) (ds : List D) : List Sl := ds.map (fun d => some (0, d)) ++ List.replicate (n - ds.length) none
def resO (o : Option Out) : M D := match o with
  | some (.ret d) => some (.ok d)
  | some (.nx _) => some (.ok .non)
  | some (.exc c) => some (.error c)
  | _ => none
/-- the end of a method that changes its object -/
def endM (ρ : List Sl) : M (DE.D × DE.D) := match ρ[0]? with
  | some (some (3, DE.D.obj c fs ds)) => some (.ok (DE.D.non, DE.D.obj c fs ds))
  | _ => none
def resM (o : Option Out) : M (DE.D × DE.D) := match o with
  | some (.nx ρ) => endM ρ
  | some (.rtm ρ) => endM ρ
  | some (.exc c) => some (.error c)
  | _ => none
def isO : DE.D → Bool
  | .obj _ _ _ => true
  | _ => false
def methF (Γ : G) (fu np : Nat) (body : List S) : MFn := fun dob ds => if ds.length = np ∧ isO dob = true then resM (evB Γ fu body (some (3, dob) :: initS (Γ.N.length - 1) ds)) else none
def defF (Γ : G) (fu np : Nat) (body : List S) : Fn := fun ds => if ds.length = np then resO (evB Γ fu body (initS Γ.N.length ds)) else none
theorem slR_init {K : PySem.W.Frag} {O P : Addr → Prop} {H : Hp} (k : Nat) : ∀ {vs : List V} {ds : List D}, Rps K (fun a => O a ∨ P a) H vs ds → SlR K (fun a => O a ∨ P a) P H (vs.map some ++ List.replicate k none) (ds.map (fun d => some (0, d)) ++ List.replicate k none) []
  | _, _, .nil => by
    induction k with
    | zero => exact .nil
    | succ k ih => exact .un none ih
  | _, _, .cons r rs => .som (fp := []) (fps := []) (.fz r) (slR_init k rs)
section
variable {Γ : G} {cv : Str → Value} {P : Program} {w : World} {K : PySem.W.Frag} {mg : Str → Option Value} {base : Heap}
/-- what the callees and the text's constants are -/
structure TopOk (Γ : G) (cv : Str → Value) (P : Program) (w : World) (K : PySem.W.Frag) (mg : Str → Option Value) (base : Heap) (k : Nat) : Prop where
  fns : ∀ (i : Nat) (p : FnI), Γ.fns[i]? = some p → ∃ f fd ps, ps.length = p.np ∧ mg p.name = some (.ref f) ∧ PySem.W.keepIn K (.ref f) = true ∧ FnOk P w K mg base (L2N.CX P w) k f fd ps (spD K cv p.np p.f) ∧ L2.Binds K fd ps []
  gls : ∀ (i : Nat) (p : Str × D), Γ.gls[i]? = some p → ∃ u v, mg p.1 = some u ∧ RelV v u ∧ ∀ O H, Rp K O H v p.2
  blt : ∀ x ∈ bltNames, mg x = none
  exc : ∀ c ∈ Γ.exs, ExcF K mg cv c
  subs : ∀ t ∈ Γ.sub, SubF K mg cv t
  cls : ∀ p ∈ Γ.cls, ClOk K p
  mts : ∀ (i : Nat) (p : MtI), Γ.mts[i]? = some p → MtOk P w K mg base cv k p
  mks : ∀ (i : Nat) (p : MkI), Γ.mks[i]? = some p → MkOk P w K mg base cv k p
  mfs : ∀ (i : Nat) (p : Str × Mfn), Γ.mfs[i]? = some p → mg p.1 = some (.builtin p.2.id)
theorem TopOk.mono {k j : Nat} (T : TopOk Γ cv P w K mg base k) (h : k ≤ j) : TopOk Γ cv P w K mg base j :=
  ⟨fun i p e => let ⟨f, fd, ps, h1, h2, h3, h4, h5⟩ := T.fns i p e; ⟨f, fd, ps, h1, h2, h3, h4.mono h, h5⟩, T.gls, T.blt, T.exc, T.subs, T.cls, fun i p e => let ⟨C, f, fd, ps, h1, h2, h3, h4, h5, h6⟩ := (T.mts i p e).ex; ⟨C, f, fd, ps, h1, h2, h3.mono h, h4, h5, h6⟩, fun i p e => let ⟨C, f, fd, ps, l, h1, h2, h3, h4, h5⟩ := (T.mks i p e).ex; ⟨C, f, fd, ps, l, h1, h2, Nat.le_trans h3 h, h4, h5⟩, T.mfs⟩
/-- a def of the text: its body's promise, whatever is told of exceptions -/
theorem fun_body {CX : CXT} {x qual : Str} {st : Stmt} {f : Addr} {fd : FuncData} {N ps : List Str} {k : Nat} {sp : Sp} (F : Fun K x qual st f fd) (S : FnScope N ps (defScope st)) (len : ∀ vs H Q E, sp vs H Q E → vs.length = ps.length)
    (hb : ∀ (cdv : Value) (A : Around) (outer : List PySem.Env) (s : Shared) (H : Hp) (vs : List V) (Q : VK) (E : XK), Room k (A.deeper (envOfC qual (defScope st) s.heap.objs.size f cdv)) → sp vs H Q E →
      ∃ t, PSs (cxOf CX P w K mg base N qual (defScope st) f cdv A outer s H E) (defBody st) t ∧ t { nx := fun _ H' => Q .non H', rt := Q } (L2.start N vs) H) : FnOk P w K mg base CX (k + 1) f fd ps sp := by
  obtain ⟨oc, od, kV, doc, pm, an, cdv, ct, osl, rfl, lk, hcd⟩ := F.ex
  exact fn_of lk hcd S len (hb cdv)
/-- A DEF OF THE TEXT, by the function that its body is -/
theorem def_ok {x qual : Str} {st : Stmt} {f : Addr} {fd : FuncData} {ps : List Str} {k : Nat} {body : List S} (F : Fun K x qual st f fd) (S : FnScope Γ.N ps (defScope st)) (fu np : Nat) (hp : ps.length = np) (hchk : chkB Γ (defScope st) body (defBody st) = true) (T : TopOk Γ cv P w K mg base k) :
    FnOk P w K mg base (L2N.CX P w) (k + 1) f fd ps (spD K cv np (defF Γ fu np body)) := by
  refine fun_body F S (fun vs H Q E h => ?_) fun cdv A outer s H vs Q E hr h => ?_
  · obtain ⟨O, ds, hl, _⟩ := h
    rw [hl, hp]
  · obtain ⟨O, ds, hl, dom, rs, g⟩ := h
    have ok : OkS Γ cv k (cxOf (L2N.CX P w) P w K mg base Γ.N qual (defScope st) f cdv A outer s H E) (fun cls d _ H => E cls d H) :=
      ⟨⟨rfl, S.nd, rfl, L2N.takes_of rfl rfl rfl rfl, hr, T.fns, T.gls, T.blt, T.cls, T.mts, T.mks, T.mfs⟩, passes_of (K := fun e s'' => L2N.CX P w outer H s E e s'') rfl, fun _ => rfl, T.exc, S.kind, T.subs, rfl, rfl⟩
    refine ⟨_, sB body (defBody st) _ _ (defScope st) fu ok rfl hchk, ?_⟩
    have hd : ds.length = np := by rw [← rs.length, hl]
    unfold defF at g
    rw [if_pos hd] at g
    have hse : SE K O ⟨H, fun _ => False, none⟩ (fun _ => False) H (L2.start Γ.N vs) (initS Γ.N.length ds) := by
      refine ⟨Same.toB (Same.refl _), dom, fun _ _ z => z, fun a z => z.elim, ⟨[], ?_, .nil⟩, fun _ _ e => by cases e⟩
      have := slR_init (O := O) (P := fun _ => False) (Γ.N.length - vs.length) (rs.less (O' := fun a => O a ∨ False) fun a z => z.elim id False.elim)
      unfold L2.start initS
      rw [← rs.length]
      exact this
    cases ho : evB Γ fu body (initS Γ.N.length ds) with
    | none => rw [ho] at g; exact g.elim
    | some o =>
      rw [ho] at g
      refine ⟨O, ⟨H, fun _ => False, none⟩, _, _, o, hse, ho, ?_⟩
      cases o with
      | ret d => exact fun H1 v s1 r => g H1 v s1.same r
      | nx ρ => exact fun H1 σ P1 n1 r1 s1 => g H1 .non s1.same.same .non
      | exc c => exact fun H1 σ s1 => g H1 s1.same
      | rtm ρ => exact g.elim
      | bk ρ => exact g.elim
      | ct ρ => exact g.elim
theorem Ow.lift {K : PySem.W.Frag} {OO P : Addr → Prop} {H : Hp} {n m : Nat} {v : V} {d : D} {fp : List Addr} (h : isO d = true) (o : Ow K OO P H (n + 1) v d fp) : ∃ a, v = .ref a ∧ Ow K OO P H (m + 1) (.ref a) d fp := by
  cases d <;> try exact absurd h Bool.false_ne_true
  cases o with | ob k1 k2 k3 k4 k5 => exact ⟨_, rfl, .ob k1 k2 k3 k4 k5⟩
/-- A METHOD THAT CHANGES ITS OBJECT, by the function that its body is -/
theorem meth_ok {x qual : Str} {st : Stmt} {f : Addr} {fd : FuncData} {ps : List Str} {k : Nat} {body : List S} (F : Fun K x qual st f fd) (S : FnScope Γ.N ps (defScope st)) (fu np : Nat) (hp : ps.length = np + 1) (hchk : chkB Γ (defScope st) body (defBody st) = true) (T : TopOk Γ cv P w K mg base k) :
    FnOk P w K mg base (L2N.CX P w) (k + 1) f fd ps (spM K cv np (methF Γ fu np body)) := by
  refine fun_body F S (fun vs H Q E h => ?_) fun cdv A outer s H vs Q E hr h => ?_
  · obtain ⟨O, Ps, a, ws, dob, args, fp, rfl, hl, _⟩ := h
    rw [List.length_cons, hl, hp]
  · obtain ⟨O, Ps, a, ws, dob, args, fp, rfl, hl, dom, hOP, hM, rs, ow, nq, g⟩ := h
    have ok : OkS Γ cv k (cxOf (L2N.CX P w) P w K mg base Γ.N qual (defScope st) f cdv A outer s H E) (fun cls d _ H => E cls d H) :=
      ⟨⟨rfl, S.nd, rfl, L2N.takes_of rfl rfl rfl rfl, hr, T.fns, T.gls, T.blt, T.cls, T.mts, T.mks, T.mfs⟩, passes_of (K := fun e s'' => L2N.CX P w outer H s E e s'') rfl, fun _ => rfl, T.exc, S.kind, T.subs, rfl, rfl⟩
    refine ⟨_, sB body (defBody st) _ _ (defScope st) fu ok rfl hchk, ?_⟩
    have hd : args.length = np := by rw [← rs.length, hl]
    by_cases hO : isO dob = true
    case neg =>
      unfold methF at g
      rw [if_neg (fun z => hO z.2)] at g
      exact g.elim
    unfold methF at g
    rw [if_pos ⟨hd, hO⟩] at g
    have hse : SE K O ⟨H, Ps, some a⟩ Ps H (L2.start Γ.N (.ref a :: ws)) (some (3, dob) :: initS (Γ.N.length - 1) args) := by
      obtain ⟨a', ea, ow3⟩ := Ow.lift (m := 2) hO ow
      cases ea
      refine ⟨SameB.self hM, dom, hOP, fun a z => ⟨.inl z, hM a z⟩, ⟨fp ++ [], ?_, by rw [List.append_nil]; exact nq⟩, fun a2 d e1 _ => by cases e1; rfl⟩
      have := slR_init (O := O) (P := Ps) (Γ.N.length - 1 - ws.length) rs
      have e1 : L2.start Γ.N (.ref a :: ws) = some (.ref a) :: (ws.map some ++ List.replicate (Γ.N.length - 1 - ws.length) none) := by
        unfold L2.start
        rw [List.length_cons, show Γ.N.length - (ws.length + 1) = Γ.N.length - 1 - ws.length from by omega]
        rfl
      rw [e1]
      unfold initS
      rw [← rs.length]
      exact .som ow3 this
    cases ho : evB Γ fu body (some (3, dob) :: initS (Γ.N.length - 1) args) with
    | none => rw [ho] at g; exact g.elim
    | some o =>
      rw [ho] at g
      refine ⟨O, ⟨H, Ps, some a⟩, _, _, o, hse, ho, ?_⟩
      have fin : ∀ (ρ : List Sl), (match endM ρ with
          | some (Except.ok r) => ∀ (H' : Hp) (v : V) (Pn : Addr → Prop) (fp' : List Addr), SameB ⟨H, Ps, none⟩ H' → (∀ b, Pn b → (Ps b ∨ H b = none) ∧ Mok H' b) → Ow K (fun b => O b ∨ Pn b) Pn H' 1 (.ref a) r.2 fp' → fp'.Nodup → Rp K (fun b => O b ∨ Pn b) H' v r.1 → Q v H'
          | some (Except.error c) => ∀ H', SameB ⟨H, Ps, none⟩ H' → E (cv c) none H'
          | none => False) → ∀ H' σ P', (∀ a, H' a = none → H a = none) → Rel K O Ps H P' H' → SE K O ⟨H, Ps, some a⟩ P' H' σ ρ → Q .non H' := fun ρ g H1 σ P1 n1 r1 s1 => by
        cases hd : ρ[0]? with
        | none => unfold endM at g; rw [hd] at g; exact g.elim
        | some x => cases x with
          | none => unfold endM at g; rw [hd] at g; exact g.elim
          | some x =>
            obtain ⟨n, d⟩ := x
            by_cases h3 : n = 3 ∧ isO d = true
            · obtain ⟨rfl, hO2⟩ := h3
              have g' : endM ρ = some (.ok (.non, d)) := by
                unfold endM; rw [hd]
                cases d <;> first | rfl | cases hO2
              rw [g'] at g
              obtain ⟨fq, rep, nd⟩ := s1.rep
              obtain ⟨v, fp1, h1, h2, h3, h4, _⟩ := SlR.mod rep nd hd
              have h5 := s1.pin a d rfl hd
              rw [h5] at h1
              cases h1
              obtain ⟨a2, ea, h6⟩ := Ow.lift (m := 0) hO2 h2
              cases ea
              exact g H1 .non P1 fp1 (fun b o e => s1.same b o e) (fun b z => s1.pnew b z) h6 h3 .non
            · have g' : endM ρ = none := by
                unfold endM; rw [hd]
                split
                · rename_i hh; cases hh; exact absurd ⟨rfl, rfl⟩ h3
                · rfl
              rw [g'] at g
              exact g.elim
      cases o with
      | ret d => exact g.elim
      | nx ρ => exact fin ρ g
      | exc c => exact fun H1 σ s1 => g H1 fun b o e => s1 b o e
      | bk ρ => exact g.elim
      | ct ρ => exact g.elim
      | rtm ρ => exact fin ρ g
/-- the law's own promise -/
def spLaw (K : PySem.W.Frag) : Sp := fun vs H Q _ => ∃ (a : Addr) (ns : List Int), vs = [.ref a] ∧ Only H ∧ SqL K H a (ns.map V.int) ∧ ns.length ≤ 63 ∧ (∀ z ∈ ns, Builtin.Int.intBits z ≤ 1048576) ∧ ∀ H', Q (.bl true) H'
theorem law_ok {k : Nat} {f : Addr} {fd : FuncData} {ps : List Str} {g : Fn} (F : FnOk P w K mg base (L2N.CX P w) k f fd ps (spD K cv 1 g))
    (hg : ∀ ns : List Int, ns.length ≤ 63 → (∀ z ∈ ns, Builtin.Int.intBits z ≤ 1048576) → g [.scr ns] = some (.ok (.bl true))) : FnOk P w K mg base (L2N.CX P w) k f fd ps (spLaw K) := by
  refine F.imp fun vs H Q E h => ?_
  obtain ⟨a, ns, rfl, hO, hS, h63, hb, q⟩ := h
  refine ⟨fun _ => False, [.scr ns], rfl, fun _ z => z.elim, .cons (.scr (.of hO hS)) .nil, ?_⟩
  rw [hg ns h63 hb]
  intro H' v s r
  cases r
  exact q H'
theorem fns_of {l : List FnI} {q : FnI → Prop} (h : ∀ p ∈ l, q p) : ∀ (i : Nat) (p : FnI), l[i]? = some p → q p := fun i p e => h p (List.mem_of_getElem? e)
theorem mts_of {l : List MtI} {q : MtI → Prop} (h : ∀ p ∈ l, q p) : ∀ (i : Nat) (p : MtI), l[i]? = some p → q p := fun i p e => h p (List.mem_of_getElem? e)
theorem mks_of {l : List MkI} {q : MkI → Prop} (h : ∀ p ∈ l, q p) : ∀ (i : Nat) (p : MkI), l[i]? = some p → q p := fun i p e => h p (List.mem_of_getElem? e)
theorem mfs_of {l : List (Str × Mfn)} {q : Str × Mfn → Prop} (h : ∀ p ∈ l, q p) : ∀ (i : Nat) (p : Str × Mfn), l[i]? = some p → q p := fun i p e => h p (List.mem_of_getElem? e)
theorem gls_of {l : List (Str × D)} {q : Str × D → Prop} (h : ∀ p ∈ l, q p) : ∀ (i : Nat) (p : Str × D), l[i]? = some p → q p := fun i p e => h p (List.mem_of_getElem? e)
theorem walk {l : PySem.W.OpenLaw} {k : Nat} {q : Program} {loose : List Str} {XP : (Str → Option Value) → Heap → Prop} {YP : World → Heap → Prop} {d : DefRec} {K : Params → PySem.W.Frag} (hn : l.most = some 63) (hdf : d.params.defaults = []) (hr : Room k callerA)
    (hY : ∀ (w : World) (h : Heap), YP w h → (K w.params).In h)
    (F : ∀ (w : World) (mg : Str → Option Value) (fa : Addr) (h : Heap), (K w.params).In h → h.Ns mainGlobals mg → mg d.name = some (.ref fa) →
      ∃ fd : FuncData, (∀ (s : Shared) (u : Value), BindsTo s fd ⟨[u], []⟩ [("script", u)]) ∧ ∀ base : Heap, (K w.params).In base → base.Ns mainGlobals mg → FnOk l.prog w (K w.params) mg base (L2N.CX l.prog w) k fa fd ["script"] (spLaw (K w.params))) :
    PySem.W.WalkO q loose XP YP l.row.toRowW d [] (fun f vs => PySem.call f vs) :=
  walk_ofB (n := 63) (k := k) (x := "script") (CX := fun w => L2N.CX l.prog w) (sp := fun w => spLaw (K w.params)) hn (by decide) hdf hr hY F (fun _ _ a ns hl hb hO hS => ⟨a, ns, rfl, hO, hS, hl, hb, fun _ => rfl⟩) fun _ _ _ _ _ z => by
    obtain ⟨_, _, _, _, _, _, _, _, _, _, _, _, y⟩ := z
    exact y
end
end DE
namespace DE
open PySem PySem.Spec PyProof.Rows L2
theorem kit_ref {K : PySem.W.Frag} {C C' : Addr} {b : Bool} (h1 : PySem.W.subIn K (.ref C) (.ref C') = some b) (h2 : PySem.W.hasDictIn K C' = true) (h3 : PySem.W.typeIn K (.ref C') = some (.type "type")) (hn : b = true ∨ C ≠ C') : PySem.W.kitOne K (.ref C) (.ref C') = some b := by
  have hk : PySem.W.kitCls K (.ref C) (.ref C') = some b := by
    obtain ⟨cd, hc, _⟩ := PySem.W.any_some h2
    have e2 : ((PySem.W.clsIn K C').isSome && PySem.W.typeIn K (.ref C') == some (.type "type")) = true := by rw [hc, h3] <;> rfl
    show (if ((PySem.W.clsIn K C').isSome && PySem.W.typeIn K (.ref C') == some (.type "type")) = true then PySem.W.subIn K (.ref C) (.ref C') else none) = some b
    rw [if_pos e2]; exact h1
  unfold PySem.W.kitOne
  by_cases e : (Value.ref C == Value.ref C') = true
  · rw [if_pos e]
    rcases hn with z | z
    · rw [z]
    · exact absurd (Value.ref.inj (eq_of_beq e)) z
  · rw [if_neg e]; exact hk
theorem kit_typ {K : PySem.W.Frag} {C : Addr} {T : String} {b : Bool} (h1 : PySem.W.subIn K (.ref C) (.type T) = some b) (hm : PySem.W.kitMeta T = true) : PySem.W.kitOne K (.ref C) (.type T) = some b := by
  show (if (Value.ref C == Value.type T) = true then some true else (if PySem.W.kitMeta T = true then PySem.W.subIn K (.ref C) (.type T) else none)) = some b
  rw [if_pos hm, if_neg (by intro z; have := eq_of_beq z; cases this)]
  exact h1
theorem exm_typ {K : PySem.W.Frag} {C : Addr} {T : String} {b : Bool} (h0 : PySem.W.subIn K (.type T) (.type "BaseException") = some true) (h1 : PySem.W.subIn K (.ref C) (.type T) = some b) (hm : PySem.W.kitMeta T = true) : PySem.W.exmOne K (.ref C) (.type T) = some b := by
  show (if (PySem.W.subIn K (.type T) (.type "BaseException") == some true) = true then (if PySem.W.kitMeta T = true then PySem.W.subIn K (.ref C) (.type T) else none) else none) = some b
  rw [if_pos (by rw [h0]; rfl), if_pos hm]
  exact h1
end DE
set_option linter.all false
set_option maxRecDepth 100000
set_option maxHeartbeats 4000000
namespace DE
open PySem PySem.Spec PyProof.Rows L2
/-! polynomials as functions of the place: what the loops of k20 to k23 make of lists -/
def tab (n : Nat) (f : Nat → Int) : List Int := (List.range n).map f
theorem tab_len (n : Nat) (f : Nat → Int) : (tab n f).length = n := by simp [tab]
theorem tab_get {n : Nat} {f : Nat → Int} {t : Nat} (h : t < n) : (tab n f)[t]? = some (f t) := by simp [tab, h]
theorem tab_ext {n : Nat} {f g : Nat → Int} (h : ∀ t, t < n → f t = g t) : tab n f = tab n g := by
  unfold tab
  exact List.map_congr_left fun t ht => h t (List.mem_range.mp ht)
theorem tab_set {n : Nat} {f : Nat → Int} {t : Nat} {v : Int} : (tab n f).set t v = tab n (fun s => if s = t then v else f s) := by
  apply List.ext_getElem?
  intro i
  rw [List.getElem?_set]
  by_cases hi : i < n
  · rw [tab_get hi, tab_get hi, tab_len]
    by_cases e : t = i
    · subst e; simp [hi]
    · rw [if_neg e, if_neg (fun z => e z.symm)]
  · have h1 : ∀ g, (tab n g)[i]? = none := fun g => List.getElem?_eq_none (by rw [tab_len]; omega)
    rw [h1, h1, tab_len]
    by_cases e : t = i
    · subst e; simp [hi]
    · rw [if_neg e]
theorem tab_pop {n : Nat} {f : Nat → Int} : (tab (n + 1) f).dropLast = tab n f := by
  unfold tab
  rw [List.range_succ, List.map_append]
  simp
theorem tab_take {n k : Nat} {f : Nat → Int} (h : k ≤ n) : (tab n f).take k = tab k f := by
  unfold tab
  rw [← List.map_take, List.take_range, Nat.min_eq_left h]
theorem tab_zero (n : Nat) : List.replicate n (0 : Int) = tab n fun _ => 0 := by
  apply List.ext_getElem?
  intro i
  by_cases hi : i < n
  · rw [tab_get hi]; simp [hi]
  · rw [List.getElem?_eq_none (by simp; omega), List.getElem?_eq_none (by rw [tab_len]; omega)]
/-- one row of the product, from its place j on -/
def sIn (i : Nat) (a : Int) : List Int → Nat → Nat → Int
  | [], _, _ => 0
  | b :: q, j, s => (if s = i + j then a * b else 0) + sIn i a q (j + 1) s
/-- the product, the rows from the place i on -/
def sOut (q : List Int) : List Int → Nat → Nat → Int
  | [], _, _ => 0
  | a :: p, i, s => sIn i a q 0 s + sOut q p (i + 1) s
theorem sIn_zero (i : Nat) : ∀ (q : List Int) (j s : Nat), sIn i 0 q j s = 0
  | [], _, _ => rfl
  | b :: q, j, s => by unfold sIn; rw [sIn_zero i q (j + 1) s, Int.zero_mul]; simp
/-- the product of p from the place i on and q from the place j on -/
def sTT (q : List Int) (j : Nat) : List Int → Nat → Nat → Int
  | [], _, _ => 0
  | a :: p, i, s => sIn i a q j s + sTT q j p (i + 1) s
theorem sOut_TT (q : List Int) : ∀ (p : List Int) (i s : Nat), sOut q p i s = sTT q 0 p i s
  | [], _, _ => rfl
  | a :: p, i, s => by unfold sOut sTT; rw [sOut_TT q p (i + 1) s]
theorem sTT_nil (j : Nat) : ∀ (p : List Int) (i s : Nat), sTT [] j p i s = 0
  | [], _, _ => rfl
  | a :: p, i, s => by unfold sTT; rw [sTT_nil j p (i + 1) s]; simp [sIn]
theorem sIn_cons (i : Nat) (a b : Int) (q : List Int) (j s : Nat) : sIn i a (b :: q) j s = (if s = i + j then a * b else 0) + sIn i a q (j + 1) s := rfl
theorem sTT_cons (b : Int) (q : List Int) (j : Nat) : ∀ (p : List Int) (i s : Nat), sTT (b :: q) j p i s = sIn j b p i s + sTT q (j + 1) p i s
  | [], _, _ => by simp [sTT, sIn]
  | a :: p, i, s => by
    unfold sTT
    rw [sTT_cons b q j p (i + 1) s, sIn_cons, sIn_cons, Int.mul_comm a b, Nat.add_comm i j]
    omega
theorem sTT_comm : ∀ (p q : List Int) (i j s : Nat), sTT q j p i s = sTT p i q j s
  | p, [], i, j, s => by rw [sTT_nil]; rfl
  | p, b :: q, i, j, s => by
    rw [sTT_cons]
    show _ = sIn j b p i s + sTT p i q (j + 1) s
    rw [sTT_comm p q i (j + 1) s]
theorem sOut_comm (p q : List Int) (s : Nat) : sOut q p 0 s = sOut p q 0 s := by rw [sOut_TT, sOut_TT]; exact sTT_comm p q 0 0 s
theorem sIn_far (i : Nat) (a : Int) : ∀ (q : List Int) (j s : Nat), i + j + q.length ≤ s → sIn i a q j s = 0
  | [], _, _, _ => rfl
  | b :: q, j, s, h => by
    rw [List.length_cons] at h
    unfold sIn
    rw [if_neg (by omega), sIn_far i a q (j + 1) s (by omega)]
    rfl
theorem sOut_far (q : List Int) : ∀ (p : List Int) (i s : Nat), i + p.length + q.length ≤ s + 1 → sOut q p i s = 0
  | [], _, _, _ => rfl
  | a :: p, i, s, h => by
    rw [List.length_cons] at h
    unfold sOut
    rw [sIn_far i a q 0 s (by omega), sOut_far q p (i + 1) s (by omega)]
    rfl
/-- one step of the division: the item s is taken off by the divisor, of degree d -/
def red (m : Nat → Int) (d : Nat) (f : Nat → Int) (s : Nat) : Nat → Int := fun t => if s ≤ t + d ∧ t < s then f t - f s * m (t + d - s) else f t
/-- n steps, from the item d + n - 1 on -/
def reds (m : Nat → Int) (d : Nat) (f : Nat → Int) : Nat → Nat → Int
  | 0 => f
  | n + 1 => reds m d (red m d f (d + n)) n
theorem red_zero {m : Nat → Int} {d s : Nat} {f : Nat → Int} (h : f s = 0) : red m d f s = f := by
  funext t
  unfold red
  split
  · rw [h]; simp
  · rfl
/-- below, only what stands below counts -/
theorem red_agree {m : Nat → Int} {d s : Nat} {f g : Nat → Int} (h : ∀ t, t ≤ s → f t = g t) : ∀ t, t < s → red m d f s t = red m d g s t := fun t ht => by
  unfold red
  rw [h t (Nat.le_of_lt ht), h s (Nat.le_refl _)]
theorem reds_agree {m : Nat → Int} {d : Nat} : ∀ {n : Nat} {f g : Nat → Int}, (∀ t, t < d + n → f t = g t) → ∀ t, t < d → reds m d f n t = reds m d g n t
  | 0, f, g, h, t, ht => h t ht
  | n + 1, f, g, h, t, ht => by
    unfold reds
    exact reds_agree (fun t ht => red_agree (fun t ht => h t (by omega)) t ht) t ht
/-- the law's steps leave 0 at their own place -/
def redz (m : Nat → Int) (d : Nat) (f : Nat → Int) (s : Nat) : Nat → Int := fun t => if t = s then 0 else red m d f s t
def redzs (m : Nat → Int) (d : Nat) (f : Nat → Int) : Nat → Nat → Int
  | 0 => f
  | n + 1 => redzs m d (redz m d f (d + n)) n
theorem redzs_eq {m : Nat → Int} {d : Nat} : ∀ {n : Nat} {f g : Nat → Int}, (∀ t, t < d + n → f t = g t) → ∀ t, t < d → redzs m d f n t = reds m d g n t
  | 0, f, g, h, t, ht => h t ht
  | n + 1, f, g, h, t, ht => by
    unfold redzs reds
    refine redzs_eq (fun t ht => ?_) t ht
    unfold redz
    rw [if_neg (by omega)]
    exact red_agree (fun t ht => h t (by omega)) t ht
theorem reds_more {m : Nat → Int} {d : Nat} : ∀ {k n : Nat} {f : Nat → Int}, (∀ s, d + n ≤ s → f s = 0) → reds m d f (n + k) = reds m d f n
  | 0, n, f, h => rfl
  | k + 1, n, f, h => by
    show reds m d (red m d f (d + (n + k))) (n + k) = _
    rw [red_zero (h _ (by omega))]
    exact reds_more h
end DE
set_option linter.all false
set_option maxRecDepth 100000
set_option maxHeartbeats 4000000
namespace DE
/-! ### the ring of polynomials modulo one of degree e + 1 -/
def Rg (e : Nat) (m : Nat → Int) : Type := Fin (e + 1) → Int
namespace Rg
variable {e : Nat} {m : Nat → Int}
theorem ext {f g : Rg e m} (h : ∀ i : Fin (e + 1), f i = g i) : f = g := funext h
def addR (f g : Rg e m) : Rg e m := fun i => f i + g i
def negR (f : Rg e m) : Rg e m := fun i => - f i
def zer : Rg e m := fun _ => 0
def sm (a : Int) (f : Rg e m) : Rg e m := fun i => a * f i
def bas (k : Nat) : Rg e m := fun i => if i.val = k then 1 else 0
/-- x times -/
def X (f : Rg e m) : Rg e m := fun i => (if h : i.val = 0 then 0 else f ⟨i.val - 1, by omega⟩) - f ⟨e, by omega⟩ * m i.val
theorem X_add (f g : Rg e m) : X (addR f g) = addR (X f) (X g) := ext fun i => by
  simp only [X, addR]
  split <;> grind
theorem X_sm (a : Int) (f : Rg e m) : X (sm a f) = sm a (X f) := ext fun i => by
  simp only [X, sm]
  split <;> grind
theorem X_zer : X (zer : Rg e m) = zer := ext fun i => by
  simp only [X, zer]
  split <;> grind
def mulL : List Int → Rg e m → Rg e m
  | [], _ => zer
  | b :: q, p => addR (sm b p) (mulL q (X p))
theorem mulL_cons (b : Int) (q : List Int) (p : Rg e m) : mulL (b :: q) p = addR (sm b p) (mulL q (X p)) := rfl
theorem addR_comm (f g : Rg e m) : addR f g = addR g f := ext fun i => by simp only [addR]; omega
theorem addR_assoc (f g h : Rg e m) : addR (addR f g) h = addR f (addR g h) := ext fun i => by simp only [addR]; omega
theorem addR_zer (f : Rg e m) : addR f zer = f := ext fun i => by simp only [addR, zer]; omega
theorem zer_addR (f : Rg e m) : addR zer f = f := ext fun i => by simp only [addR, zer]; omega
theorem mulL_add : ∀ (q : List Int) (p p' : Rg e m), mulL q (addR p p') = addR (mulL q p) (mulL q p')
  | [], p, p' => (addR_zer zer).symm
  | b :: q, p, p' => by
    unfold mulL
    rw [X_add, mulL_add q]
    exact ext fun i => by simp only [addR, sm]; grind
theorem mulL_sm (a : Int) : ∀ (q : List Int) (p : Rg e m), mulL q (sm a p) = sm a (mulL q p)
  | [], p => ext fun i => by simp [mulL, sm, zer]
  | b :: q, p => by
    unfold mulL
    rw [X_sm, mulL_sm a q]
    exact ext fun i => by simp only [addR, sm]; grind
theorem mulL_zer : ∀ (q : List Int), mulL q (zer : Rg e m) = zer
  | [] => rfl
  | b :: q => by
    unfold mulL
    rw [X_zer, mulL_zer q, addR_zer]
    exact ext fun i => by simp only [sm, zer]; omega
theorem mulL_X : ∀ (q : List Int) (p : Rg e m), mulL q (X p) = X (mulL q p)
  | [], p => X_zer.symm
  | b :: q, p => by
    unfold mulL
    rw [X_add, X_sm, mulL_X q]
theorem mulL_swap : ∀ (q r : List Int) (p : Rg e m), mulL q (mulL r p) = mulL r (mulL q p)
  | [], r, p => (mulL_zer r).symm
  | b :: q, r, p => by
    rw [mulL_cons, mulL_cons, mulL_add, mulL_sm, ← mulL_X r p, mulL_swap q r (X p)]
theorem X_bas {k : Nat} (h : k < e) : X (bas k : Rg e m) = bas (k + 1) := ext fun i => by
  simp only [X, bas]
  rw [if_neg (show ¬ e = k by omega), Int.zero_mul, Int.sub_zero]
  by_cases h0 : i.val = 0
  · rw [dif_pos h0, if_neg (by omega)]
  · rw [dif_neg h0]
    by_cases h1 : i.val = k + 1
    · rw [if_pos h1, if_pos (by omega)]
    · rw [if_neg h1, if_neg (by omega)]
theorem mulL_bas : ∀ (l : List Int) (k : Nat), k + l.length ≤ e + 1 → mulL l (bas k : Rg e m) = fun i => if k ≤ i.val then (l[i.val - k]?).getD 0 else 0
  | [], k, _ => ext fun i => by simp [mulL, zer]
  | b :: l, k, h => by
    rw [List.length_cons] at h
    unfold mulL
    have e1 : mulL l (X (bas k : Rg e m)) = fun i => if k + 1 ≤ i.val then (l[i.val - (k + 1)]?).getD 0 else 0 := by
      cases l with
      | nil => exact ext fun i => by simp [mulL, zer]
      | cons c l =>
        rw [List.length_cons] at h
        rw [X_bas (by omega)]
        exact mulL_bas (c :: l) (k + 1) (by rw [List.length_cons]; omega)
    rw [e1]
    refine ext fun i => ?_
    simp only [addR, sm, bas]
    by_cases h1 : i.val = k
    · rw [if_pos h1, if_neg (by omega), if_pos (by omega), h1, Nat.sub_self]
      simp
    · rw [if_neg h1]
      by_cases h2 : k + 1 ≤ i.val
      · rw [if_pos h2, if_pos (by omega), show i.val - k = (i.val - (k + 1)) + 1 by omega, List.getElem?_cons_succ]
        omega
      · rw [if_neg h2, if_neg (by omega)]; omega
def lst (f : Rg e m) : List Int := List.ofFn fun i : Fin (e + 1) => f i
theorem mulL_one (f : Rg e m) : mulL (lst f) (bas 0) = f := by
  rw [mulL_bas (lst f) 0 (by simp [lst])]
  refine ext fun i => ?_
  have h : i.val < (lst f).length := by simp [lst]
  rw [if_pos (Nat.zero_le _), Nat.sub_zero, List.getElem?_eq_getElem h]
  exact List.getElem_ofFn (f := fun i : Fin (e + 1) => f i) (h := h)
def mulR (p q : Rg e m) : Rg e m := mulL (lst q) p
theorem mulR_comm (p q : Rg e m) : mulR p q = mulR q p := by
  unfold mulR
  calc mulL (lst q) p = mulL (lst q) (mulL (lst p) (bas 0)) := by rw [mulL_one]
    _ = mulL (lst p) (mulL (lst q) (bas 0)) := mulL_swap _ _ _
    _ = mulL (lst p) q := by rw [mulL_one]
theorem mulR_assoc (p q r : Rg e m) : mulR (mulR p q) r = mulR p (mulR q r) := by
  rw [mulR_comm p (mulR q r), mulR_comm p q]
  show mulL (lst r) (mulL (lst p) q) = mulL (lst p) (mulL (lst r) q)
  exact mulL_swap _ _ _
theorem one_mulR (p : Rg e m) : mulR (bas 0) p = p := mulL_one p
theorem mulR_one (p : Rg e m) : mulR p (bas 0) = p := by rw [mulR_comm]; exact one_mulR p
theorem add_mulR (p q r : Rg e m) : mulR (addR p q) r = addR (mulR p r) (mulR q r) := mulL_add _ _ _
theorem mulR_add (p q r : Rg e m) : mulR r (addR p q) = addR (mulR r p) (mulR r q) := by rw [mulR_comm, add_mulR, mulR_comm p, mulR_comm q]
theorem zer_mulR (p : Rg e m) : mulR zer p = zer := mulL_zer _
theorem mulR_zer (p : Rg e m) : mulR p zer = zer := by rw [mulR_comm]; exact zer_mulR p
theorem sm_mulR (a : Int) (p q : Rg e m) : mulR (sm a p) q = sm a (mulR p q) := mulL_sm a _ _
def icast (a : Int) : Rg e m := sm a (bas 0)
instance : Add (Rg e m) := ⟨addR⟩
instance : Mul (Rg e m) := ⟨mulR⟩
instance : Neg (Rg e m) := ⟨negR⟩
instance : Sub (Rg e m) := ⟨fun a b => addR a (negR b)⟩
instance : NatCast (Rg e m) := ⟨fun n => icast n⟩
instance : IntCast (Rg e m) := ⟨icast⟩
instance {n : Nat} : OfNat (Rg e m) n := ⟨icast n⟩
def npw (a : Rg e m) : Nat → Rg e m
  | 0 => (1 : Rg e m)
  | n + 1 => npw a n * a
instance : HPow (Rg e m) Nat (Rg e m) := ⟨npw⟩
instance : SMul Nat (Rg e m) := ⟨fun n a => icast n * a⟩
instance : SMul Int (Rg e m) := ⟨fun n a => icast n * a⟩
theorem icast_add (a b : Int) : (icast (a + b) : Rg e m) = addR (icast a) (icast b) := ext fun i => by simp only [icast, sm, addR]; grind
theorem icast_neg (a : Int) : (icast (-a) : Rg e m) = negR (icast a) := ext fun i => by simp only [icast, sm, negR]; grind
theorem icast_zero : (icast 0 : Rg e m) = zer := ext fun i => by simp only [icast, sm, zer]; omega
theorem icast_one : (icast 1 : Rg e m) = bas 0 := ext fun i => by simp only [icast, sm]; omega
theorem negR_mulR (p q : Rg e m) : mulR (negR p) q = negR (mulR p q) := by
  have h : ∀ f : Rg e m, negR f = sm (-1) f := fun f => ext fun i => by simp only [negR, sm]; omega
  rw [h, h, sm_mulR]
instance instCR : Lean.Grind.CommRing (Rg e m) where
  add_zero a := (congrArg (addR a) icast_zero).trans (addR_zer a)
  add_comm := addR_comm
  add_assoc := addR_assoc
  mul_assoc := mulR_assoc
  mul_one a := (congrArg (mulR a) icast_one).trans (mulR_one a)
  one_mul a := (congrArg (fun z => mulR z a) icast_one).trans (one_mulR a)
  left_distrib a b c := mulR_add b c a
  right_distrib a b c := add_mulR a b c
  zero_mul a := (congrArg (fun z => mulR z a) icast_zero).trans ((zer_mulR a).trans icast_zero.symm)
  mul_zero a := (congrArg (fun z => mulR a z) icast_zero).trans ((mulR_zer a).trans icast_zero.symm)
  pow_zero a := rfl
  pow_succ a n := rfl
  ofNat_succ a := by
    show (icast ((a + 1 : Nat) : Int) : Rg e m) = addR (icast a) (icast 1)
    rw [← icast_add]; rfl
  ofNat_eq_natCast n := rfl
  nsmul_eq_natCast_mul n a := rfl
  neg_add_cancel a := by
    show addR (negR a) a = icast 0
    rw [icast_zero]
    exact ext fun i => by simp only [addR, negR, zer]; omega
  sub_eq_add_neg a b := rfl
  neg_zsmul i a := by
    show mulR (icast (-i)) a = negR (mulR (icast i) a)
    rw [icast_neg, negR_mulR]
  zsmul_natCast_eq_nsmul n a := rfl
  intCast_ofNat n := rfl
  intCast_neg i := icast_neg i
  mul_comm := mulR_comm
example (a b c : Rg e m) : (a + b) * c = b * c + a * c := by grind
def xx : Rg e m := X (bas 0)
theorem X_eq (p : Rg e m) : X p = xx * p := by
  show X p = mulR (X (bas 0)) p
  show X p = mulL (lst p) (X (bas 0))
  rw [mulL_X, mulL_one]
end Rg
end DE
set_option linter.all false
set_option maxRecDepth 100000
set_option maxHeartbeats 4000000
namespace DE
/-! ### tables of two rows by turns: what S and T become tells what each table becomes -/
theorem fm_neg (a : Int) {c : Int} (h : c < 0) : c < a.fmod c ∧ a.fmod c ≤ 0 := by
  have e := Int.neg_fmod_neg (-a) (-c)
  rw [Int.neg_neg, Int.neg_neg] at e
  have := Int.fmod_lt_of_pos (-a) (show 0 < -c by omega)
  have := Int.fmod_nonneg_of_pos (-a) (show 0 < -c by omega)
  omega
theorem fm_pos (a : Int) {c : Int} (h : 0 < c) : 0 ≤ a.fmod c ∧ a.fmod c < c := ⟨Int.fmod_nonneg_of_pos a h, Int.fmod_lt_of_pos a h⟩
theorem fd_sub (a c : Int) : a - a.fdiv c * c = a.fmod c := by
  have := Int.fmod_add_mul_fdiv a c
  have e := Int.mul_comm (a.fdiv c) c
  omega
theorem fd_uniq {a c q : Int} (h : (0 < c ∧ 0 ≤ a - q * c ∧ a - q * c < c) ∨ (c < 0 ∧ c < a - q * c ∧ a - q * c ≤ 0)) : a.fdiv c = q := by
  have e := fd_sub a c
  rcases h with ⟨h0, h1, h2⟩ | ⟨h0, h1, h2⟩
  · obtain ⟨h3, h4⟩ := fm_pos a h0
    rw [← e] at h3 h4
    have h5 : (a.fdiv c - q) * c < 1 * c := by grind
    have h6 : (-1) * c < (a.fdiv c - q) * c := by grind
    have := Int.lt_of_mul_lt_mul_right h5 (by omega)
    have := Int.lt_of_mul_lt_mul_right h6 (by omega)
    omega
  · obtain ⟨h3, h4⟩ := fm_neg a h0
    rw [← e] at h3 h4
    have h5 : (a.fdiv c - q) * (-c) < 1 * (-c) := by grind
    have h6 : (-1) * (-c) < (a.fdiv c - q) * (-c) := by grind
    have := Int.lt_of_mul_lt_mul_right h5 (by omega)
    have := Int.lt_of_mul_lt_mul_right h6 (by omega)
    omega
structure Tn (G : Type) where
  mul : G → G → G
  one : G
  s : G
  tp : Int → G
  assoc : ∀ x y z, mul (mul x y) z = mul x (mul y z)
  one_mul : ∀ x, mul one x = x
  mul_one : ∀ x, mul x one = x
  ss : mul s s = one
  tp0 : tp 0 = one
  tpa : ∀ j k, tp (j + k) = mul (tp j) (tp k)
  st3 : mul (mul (mul s (tp 1)) (mul s (tp 1))) (mul s (tp 1)) = one
namespace Tn
variable {G : Type} (g : Tn G)
theorem ss' (x : G) : g.mul g.s (g.mul g.s x) = x := by rw [← g.assoc, g.ss, g.one_mul]
theorem tt' (k : Int) (x : G) : g.mul (g.tp (-k)) (g.mul (g.tp k) x) = x := by rw [← g.assoc, ← g.tpa, Int.add_left_neg, g.tp0, g.one_mul]
theorem t't (k : Int) (x : G) : g.mul (g.tp k) (g.mul (g.tp (-k)) x) = x := by rw [← g.assoc, ← g.tpa, Int.add_right_neg, g.tp0, g.one_mul]
/-- T^-1 S T^-1 S T^-1 = S -/
theorem tri (x : G) : g.mul (g.tp (-1)) (g.mul g.s (g.mul (g.tp (-1)) (g.mul g.s (g.mul (g.tp (-1)) x)))) = g.mul g.s x := by
  have h : ∀ y, g.mul g.s (g.mul (g.tp 1) (g.mul g.s (g.mul (g.tp 1) (g.mul g.s (g.mul (g.tp 1) y))))) = y := fun y => by
    have := congrArg (fun z => g.mul z y) g.st3
    simp only [g.assoc, g.one_mul] at this
    exact this
  have h2 := h (g.mul (g.tp (-1)) (g.mul g.s (g.mul (g.tp (-1)) (g.mul g.s (g.mul (g.tp (-1)) x)))))
  rw [g.t't, g.ss', g.t't, g.ss', g.t't] at h2
  exact h2.symm
def rho (g : Tn G) (a b c d : Int) : G := if h : c = 0 then g.tp (a * b) else g.mul (g.tp (a.fdiv c)) (g.mul g.s (rho g (-c) (-d) (a - a.fdiv c * c) (b - a.fdiv c * d)))
termination_by c.natAbs
decreasing_by
  rw [fd_sub]
  rcases Int.lt_or_gt_of_ne h with h1 | h1
  · have := fm_neg a h1
    omega
  · have := fm_pos a h1
    omega
theorem rho_0 (a b d : Int) : g.rho a b 0 d = g.tp (a * b) := by rw [rho, dif_pos rfl]
theorem rho_c {c : Int} (h : c ≠ 0) (a b d : Int) : g.rho a b c d = g.mul (g.tp (a.fdiv c)) (g.mul g.s (g.rho (-c) (-d) (a - a.fdiv c * c) (b - a.fdiv c * d))) := by rw [rho, dif_neg h]
theorem unit {a d : Int} (h : a * d = 1) : a = d ∧ (a = 1 ∨ a = -1) := by
  rcases Int.le_total 0 a with h0 | h0
  · have e := Int.eq_one_of_mul_eq_one_right h0 h
    subst e
    omega
  · have e := Int.eq_one_of_mul_eq_one_right (a := -a) (b := -d) (by omega) (by rw [Int.neg_mul_neg]; exact h)
    have : a = -1 := by omega
    subst this
    omega
theorem fd_add {c : Int} (h : c ≠ 0) (a k : Int) : (a + k * c).fdiv c = a.fdiv c + k := Int.add_mul_fdiv_right _ _ h
theorem rho_T {a b c d : Int} (hd : a * d - b * c = 1) (k : Int) : g.rho (a + k * c) (b + k * d) c d = g.mul (g.tp k) (g.rho a b c d) := by
  by_cases h : c = 0
  · subst h
    rw [rho_0, rho_0, ← g.tpa]
    have h1 : a * d = 1 := by omega
    obtain ⟨rfl, h2⟩ := unit h1
    congr 1
    grind
  · rw [rho_c g h, rho_c g h, fd_add h, show a + k * c - (a.fdiv c + k) * c = a - a.fdiv c * c by grind, show b + k * d - (a.fdiv c + k) * d = b - a.fdiv c * d by grind, Int.add_comm (a.fdiv c) k, g.tpa, g.assoc]
theorem rho_neg : ∀ (n : Nat) (a b c d : Int), c.natAbs ≤ n → g.rho (-a) (-b) (-c) (-d) = g.rho a b c d := by
  intro n
  induction n with
  | zero =>
    intro a b c d hn
    have : c = 0 := by omega
    subst this
    rw [show (-0 : Int) = 0 from rfl, rho_0, rho_0, Int.neg_mul_neg]
  | succ n ih =>
    intro a b c d hn
    by_cases h : c = 0
    · exact (by subst h; rw [show (-0 : Int) = 0 from rfl, rho_0, rho_0, Int.neg_mul_neg])
    · rw [rho_c g h, rho_c g (show -c ≠ 0 by omega), Int.neg_fdiv_neg, show -a - a.fdiv c * -c = -(a - a.fdiv c * c) by grind, show -b - a.fdiv c * -d = -(b - a.fdiv c * d) by grind]
      rw [ih (-c) (-d) (a - a.fdiv c * c) (b - a.fdiv c * d) (by
        rw [fd_sub]
        rcases Int.lt_or_gt_of_ne h with h1 | h1
        · have := fm_neg a h1
          omega
        · have := fm_pos a h1
          omega)]
theorem rho_ng (a b c d : Int) : g.rho (-a) (-b) (-c) (-d) = g.rho a b c d := rho_neg g _ a b c d (Nat.le_refl _)
/-- the claim about S M, for one M -/
def SOk (a b c d : Int) : Prop := g.rho (-c) (-d) a b = g.mul g.s (g.rho a b c d)
theorem SOk_0 {a b c d : Int} (hd : a * d - b * c = 1) (h : a = 0 ∨ c = 0 ∨ a.fdiv c = 0 ∨ (-c).fdiv a = 0) : SOk g a b c d := by
  unfold SOk
  have hc0 : c = 0 → g.rho (-c) (-d) a b = g.mul g.s (g.rho a b c d) := fun h => by
    subst h
    have ha : a ≠ 0 := by intro z; subst z; omega
    rw [rho_c g ha, show (-0 : Int).fdiv a = 0 by rw [Int.neg_zero, Int.zero_fdiv], g.tp0, g.one_mul]
    rw [show (-0 : Int) - 0 * a = -0 by omega, show -d - 0 * b = -d by omega, rho_ng]
  have hc1 : c ≠ 0 → a.fdiv c = 0 → g.rho (-c) (-d) a b = g.mul g.s (g.rho a b c d) := fun hc h => by
    rw [rho_c g hc a b d, h, g.tp0, g.one_mul, g.ss', show a - 0 * c = a by omega, show b - 0 * d = b by omega]
  rcases h with h | h | h | h
  · by_cases hc : c = 0
    · exact hc0 hc
    · exact hc1 hc (by rw [h, Int.zero_fdiv])
  · exact hc0 h
  · by_cases hc : c = 0
    · exact hc0 hc
    · exact hc1 hc h
  · by_cases ha : a = 0
    · by_cases hc : c = 0
      · exact hc0 hc
      · exact hc1 hc (by rw [ha, Int.zero_fdiv])
    · rw [rho_c g ha, h, g.tp0, g.one_mul, show -c - 0 * a = -c by omega, show -d - 0 * b = -d by omega, rho_ng]
/-- a / c at least 1 -/
theorem SOk_1 {a b c d : Int} (hd : a * d - b * c = 1) (hs : (0 < c ∧ c ≤ a) ∨ (c < 0 ∧ a ≤ c)) (ih : SOk g (a - c) (b - d) c d) : SOk g a b c d := by
  have ha : a ≠ 0 := by omega
  have hc : c ≠ 0 := by omega
  unfold SOk at ih ⊢
  have q : (-c).fdiv a = -1 := fd_uniq (by omega)
  -- S T S M
  have e1 : g.rho (-c) (-d) a b = g.mul (g.tp (-1)) (g.mul g.s (g.rho (-a) (-b) (-c - -1 * a) (-d - -1 * b))) := by rw [rho_c g ha, q]
  have e2 : g.rho (a - c) (b - d) c d = g.mul (g.tp (-1)) (g.rho a b c d) := by
    have := rho_T g hd (-1)
    rw [show a + -1 * c = a - c by omega, show b + -1 * d = b - d by omega] at this
    exact this
  have e3 : g.rho (-a) (-b) (a - c) (b - d) = g.mul (g.tp (-1)) (g.rho (-c) (-d) (a - c) (b - d)) := by
    have := rho_T g (a := -c) (b := -d) (c := a - c) (d := b - d) (by grind) (-1)
    rw [show -c + -1 * (a - c) = -a by omega, show -d + -1 * (b - d) = -b by omega] at this
    exact this
  rw [e1, show -c - -1 * a = a - c by omega, show -d - -1 * b = b - d by omega, e3, ih, e2, g.tri]
theorem SOk_all : ∀ (n : Nat) (a b c d : Int), a.natAbs + c.natAbs ≤ n → a * d - b * c = 1 → SOk g a b c d := by
  intro n
  induction n with
  | zero => intro a b c d hn hd; exact SOk_0 g hd (by omega)
  | succ n ih =>
    intro a b c d hn hd
    by_cases h0 : a = 0 ∨ c = 0
    · exact SOk_0 g hd (by omega)
    · by_cases h1 : (0 < c ∧ c ≤ a) ∨ (c < 0 ∧ a ≤ c)
      · exact SOk_1 g hd h1 (ih _ _ _ _ (by omega) (by grind))
      · by_cases h2 : (0 < c ∧ 0 < a) ∨ (c < 0 ∧ a < 0)
        · exact SOk_0 g hd (.inr (.inr (.inl (fd_uniq (by omega)))))
        · -- unlike signs: S M has -c / a above 0
          by_cases h3 : (-c).fdiv a = 0
          · exact SOk_0 g hd (.inr (.inr (.inr h3)))
          · have h4 : (0 < a ∧ a ≤ -c) ∨ (a < 0 ∧ -c ≤ a) := by
              apply Classical.byContradiction
              intro z
              exact h3 (fd_uniq (by omega))
            have h5 := SOk_1 g (a := -c) (b := -d) (c := a) (d := b) (by grind) h4 (ih _ _ _ _ (by omega) (by grind))
            unfold SOk at h5 ⊢
            rw [rho_ng] at h5
            rw [h5, g.ss']
theorem rho_S {a b c d : Int} (hd : a * d - b * c = 1) : g.rho (-c) (-d) a b = g.mul g.s (g.rho a b c d) := SOk_all g _ a b c d (Nat.le_refl _) hd
/-- what S and T become tells what products become -/
theorem rho_mul : ∀ (n : Nat) (a b c d e f h i : Int), c.natAbs ≤ n → a * d - b * c = 1 → e * i - f * h = 1 → g.rho (a * e + b * h) (a * f + b * i) (c * e + d * h) (c * f + d * i) = g.mul (g.rho a b c d) (g.rho e f h i) := by
  intro n
  induction n with
  | zero =>
    intro a b c d e f h i hn h1 h2
    have : c = 0 := by omega
    subst this
    obtain ⟨rfl, h3⟩ := unit (show a * d = 1 by omega)
    rw [rho_0]
    rcases h3 with rfl | rfl
    · rw [show (1 : Int) * b = b by omega, ← rho_T g h2 b]
      congr 1 <;> grind
    · rw [show (-1 : Int) * b = -b by omega, ← rho_T g h2 (-b), ← rho_ng]
      congr 1 <;> grind
  | succ n ih =>
    intro a b c d e f h i hn h1 h2
    by_cases hc : c = 0
    · subst hc
      obtain ⟨rfl, h3⟩ := unit (show a * d = 1 by omega)
      rw [rho_0]
      rcases h3 with rfl | rfl
      · rw [show (1 : Int) * b = b by omega, ← rho_T g h2 b]
        congr 1 <;> grind
      · rw [show (-1 : Int) * b = -b by omega, ← rho_T g h2 (-b), ← rho_ng]
        congr 1 <;> grind
    · have hm : (a - a.fdiv c * c).natAbs ≤ n := by
        rw [fd_sub]
        rcases Int.lt_or_gt_of_ne hc with h1 | h1
        · have := fm_neg a h1
          omega
        · have := fm_pos a h1
          omega
      rw [rho_c g hc a b d, g.assoc, g.assoc, ← ih (-c) (-d) (a - a.fdiv c * c) (b - a.fdiv c * d) e f h i hm (by grind) h2]
      generalize hq : a.fdiv c = q
      have e1 := rho_S g (a := -c * e + -d * h) (b := -c * f + -d * i) (c := (a - q * c) * e + (b - q * d) * h) (d := (a - q * c) * f + (b - q * d) * i) (by grind)
      have e2 := rho_ng g ((a - q * c) * e + (b - q * d) * h) ((a - q * c) * f + (b - q * d) * i) (c * e + d * h) (c * f + d * i)
      have e3 := rho_T g (a := (a - q * c) * e + (b - q * d) * h) (b := (a - q * c) * f + (b - q * d) * i) (c := c * e + d * h) (d := c * f + d * i) (by grind) q
      rw [show -c * e + -d * h = -(c * e + d * h) by grind, show -c * f + -d * i = -(c * f + d * i) by grind] at e1
      rw [show -c * e + -d * h = -(c * e + d * h) by grind, show -c * f + -d * i = -(c * f + d * i) by grind, ← e1, e2, ← e3]
      congr 1 <;> grind
end Tn
end DE
set_option linter.all false
set_option maxRecDepth 100000
set_option maxHeartbeats 4000000
namespace DE
/-! ### turnings: three rows over a commutative ring -/
structure T3 (α : Type) where (a b c d e f g h i : α)
namespace T3
variable {α : Type} [Lean.Grind.CommRing α]
theorem ext' {x y : T3 α} (ha : x.a = y.a) (hb : x.b = y.b) (hc : x.c = y.c) (hd : x.d = y.d) (he : x.e = y.e) (hf : x.f = y.f) (hg : x.g = y.g) (hh : x.h = y.h) (hi : x.i = y.i) : x = y := by
  cases x; cases y; simp_all
def mul (x y : T3 α) : T3 α := ⟨x.a * y.a + x.b * y.d + x.c * y.g, x.a * y.b + x.b * y.e + x.c * y.h, x.a * y.c + x.b * y.f + x.c * y.i, x.d * y.a + x.e * y.d + x.f * y.g, x.d * y.b + x.e * y.e + x.f * y.h, x.d * y.c + x.e * y.f + x.f * y.i, x.g * y.a + x.h * y.d + x.i * y.g, x.g * y.b + x.h * y.e + x.i * y.h, x.g * y.c + x.h * y.f + x.i * y.i⟩
def one : T3 α := ⟨1, 0, 0, 0, 1, 0, 0, 0, 1⟩
theorem assoc (x y z : T3 α) : mul (mul x y) z = mul x (mul y z) := by apply ext' <;> simp only [mul] <;> grind
theorem one_mul (x : T3 α) : mul one x = x := by apply ext' <;> simp only [mul, one] <;> grind
theorem mul_one (x : T3 α) : mul x one = x := by apply ext' <;> simp only [mul, one] <;> grind
def ma : T3 α := ⟨-1, 1, 0, 0, 1, 0, 0, 0, 1⟩
def mb (x : α) : T3 α := ⟨1, 0, 0, 1, -1, x, 0, 0, 1⟩
def mc (x : α) : T3 α := ⟨1, 0, 0, 0, 1, 0, 0, x, -1⟩
theorem aa : mul ma ma = (one : T3 α) := by apply ext' <;> simp only [mul, one, ma] <;> grind
theorem bb (x : α) : mul (mb x) (mb x) = one := by apply ext' <;> simp only [mul, one, mb] <;> grind
theorem cc (x : α) : mul (mc x) (mc x) = one := by apply ext' <;> simp only [mul, one, mc] <;> grind
theorem ac2 (x : α) : mul (mul ma (mc x)) (mul ma (mc x)) = one := by apply ext' <;> simp only [mul, one, ma, mc] <;> grind
theorem ab3 (x : α) : mul (mul (mul ma (mb x)) (mul ma (mb x))) (mul ma (mb x)) = one := by apply ext' <;> simp only [mul, one, ma, mb] <;> grind
def pw (x : T3 α) : Nat → T3 α
  | 0 => one
  | n + 1 => mul (pw x n) x
theorem pw_add (x : T3 α) (n : Nat) : ∀ k, pw x (n + k) = mul (pw x n) (pw x k)
  | 0 => (mul_one _).symm
  | k + 1 => by
    show mul (pw x (n + k)) x = mul (pw x n) (mul (pw x k) x)
    rw [pw_add x n k, assoc]
theorem pw_mod {x : T3 α} {N : Nat} (h : pw x N = one) : ∀ n, pw x n = pw x (n % N) := by
  intro n
  induction n using Nat.strongRecOn with
  | ind n ih =>
    by_cases hn : n < N
    · rw [Nat.mod_eq_of_lt hn]
    · by_cases h0 : N = 0
      · subst h0; rw [Nat.mod_zero]
      · have e : n = N + (n - N) := by omega
        rw [e, pw_add, h, one_mul, ih (n - N) (by omega), Nat.add_mod_left]
/-- the power of t by an integer -/
def tpw (x : α) (N : Nat) (k : Int) : T3 α := pw (mul (mc x) (mb x)) (k % (N : Int)).toNat
theorem tpw_add {x : α} {N : Nat} (h0 : 0 < N) (h : pw (mul (mc x) (mb x)) N = one) (j k : Int) : tpw x N (j + k) = mul (tpw x N j) (tpw x N k) := by
  unfold tpw
  rw [← pw_add, pw_mod h ((j % (N : Int)).toNat + (k % (N : Int)).toNat)]
  congr 1
  have h1 := Int.emod_nonneg j (show (N : Int) ≠ 0 by omega)
  have h2 := Int.emod_nonneg k (show (N : Int) ≠ 0 by omega)
  have h3 : ((((j % (N : Int)).toNat + (k % (N : Int)).toNat) % N : Nat) : Int) = (j + k) % (N : Int) := by
    rw [Int.natCast_emod, Int.natCast_add, Int.toNat_of_nonneg h1, Int.toNat_of_nonneg h2]
    exact (Int.add_emod j k N).symm
  have h4 := Int.emod_nonneg (j + k) (show (N : Int) ≠ 0 by omega)
  show ((j + k) % (N : Int)).toNat = _
  omega
theorem st_ab (x : α) : mul (mul ma (mc x)) (mul (mc x) (mb x)) = mul ma (mb x) := by
  rw [assoc, ← assoc (mc x), cc, one_mul]
/-- S and T as turnings -/
def tn (x : α) (N : Nat) (h0 : 1 < N) (h : pw (mul (mc x) (mb x)) N = one) : Tn (T3 α) where
  mul := mul
  one := one
  s := mul ma (mc x)
  tp := tpw x N
  assoc := assoc
  one_mul := one_mul
  mul_one := mul_one
  ss := ac2 x
  tp0 := by unfold tpw; rw [show (0 : Int) % (N : Int) = 0 from Int.zero_emod _]; rfl
  tpa := tpw_add (by omega) h
  st3 := by
    have e : tpw x N 1 = mul (mc x) (mb x) := by
      unfold tpw
      rw [show (1 : Int) % (N : Int) = 1 from Int.emod_eq_of_lt (by omega) (by omega)]
      exact one_mul _
    rw [e, st_ab, ab3]
end T3
end DE
set_option linter.all false
set_option maxRecDepth 100000
set_option maxHeartbeats 4000000
namespace DE
def fM (ms : List Int) : Nat → Int := fun t => (ms[t]?).getD 0
/-! what the loops make of lists, in the ring -/
def shf (f : Nat → Int) : Nat → Int := fun t => if t = 0 then 0 else f (t - 1)
def toR {e : Nat} {m : Nat → Int} (f : Nat → Int) : Rg e m := fun i => f i.val
theorem lst_toR {e : Nat} {m : Nat → Int} (f : Nat → Int) : Rg.lst (toR f : Rg e m) = tab (e + 1) f := by
  apply List.ext_getElem?
  intro i
  unfold Rg.lst
  by_cases h : i < e + 1
  · rw [tab_get h, List.getElem?_eq_getElem (by simpa using h), List.getElem_ofFn]; rfl
  · rw [List.getElem?_eq_none (by simp; omega), List.getElem?_eq_none (by rw [tab_len]; omega)]
theorem lst_len {e : Nat} {m : Nat → Int} (P : Rg e m) : (Rg.lst P).length = e + 1 := by unfold Rg.lst; simp
theorem lst_get {e : Nat} {m : Nat → Int} (P : Rg e m) {i : Nat} (h : i < e + 1) : (Rg.lst P)[i]? = some (P ⟨i, h⟩) := by
  unfold Rg.lst
  rw [List.getElem?_eq_getElem (by simpa using h), List.getElem_ofFn]
theorem lst_inj {e : Nat} {m : Nat → Int} {P Q : Rg e m} (h : Rg.lst P = Rg.lst Q) : P = Q := Rg.ext fun i => by
  have h1 := lst_get P i.isLt
  rw [h, lst_get Q i.isLt] at h1
  exact (Option.some.inj h1).symm
/-- the polynomial with these items -/
def ofL {e : Nat} {m : Nat → Int} (l : List Int) : Rg e m := fun i => (l[i.val]?).getD 0
theorem lst_ofL {e : Nat} {m : Nat → Int} {l : List Int} (h : l.length = e + 1) : Rg.lst (ofL l : Rg e m) = l := by
  apply List.ext_getElem?
  intro i
  by_cases hi : i < e + 1
  · rw [lst_get _ hi]
    show some ((l[i]?).getD 0) = _
    rw [List.getElem?_eq_getElem (by omega)]; rfl
  · rw [List.getElem?_eq_none (by rw [lst_len]; omega), List.getElem?_eq_none (by omega)]
theorem ofL_lst {e : Nat} {m : Nat → Int} (P : Rg e m) : ofL (Rg.lst P) = P := lst_inj (lst_ofL (lst_len P))
section
variable {m : Nat → Int} {d : Nat}
theorem red_shf {f : Nat → Int} {n : Nat} : ∀ t, red m d (shf f) (d + (n + 1)) t = shf (red m d f (d + n)) t ∨ d + n + 1 ≤ t := fun t => by
  by_cases ht : d + n + 1 ≤ t
  · exact .inr ht
  · left
    unfold red shf
    by_cases h0 : t = 0
    · subst h0
      rw [if_neg (by omega), if_pos rfl, if_pos rfl]
    · rw [if_neg h0, if_neg (show ¬ d + (n + 1) = 0 by omega)]
      by_cases h1 : d + (n + 1) ≤ t + d ∧ t < d + (n + 1)
      · rw [if_pos h1]
        by_cases h2 : d + n ≤ t - 1 + d ∧ t - 1 < d + n
        · rw [if_neg h0]
          dsimp only
          rw [if_pos h2, show d + (n + 1) - 1 = d + n by omega, show t + d - (d + (n + 1)) = t - 1 + d - (d + n) by omega]
        · exact absurd h1 (by omega)
      · rw [if_neg h1]
        by_cases h2 : d + n ≤ t - 1 + d ∧ t - 1 < d + n
        · exact absurd h2 (by omega)
        · rw [if_neg h0]
          dsimp only
          rw [if_neg h2]
theorem reds_shf : ∀ (n : Nat) (f : Nat → Int) (t : Nat), t < d → reds m d (shf f) (n + 1) t = red m d (shf (reds m d f n)) d t
  | 0, f, t, ht => rfl
  | n + 1, f, t, ht => by
    show reds m d (red m d (shf f) (d + (n + 1))) (n + 1) t = red m d (shf (reds m d (red m d f (d + n)) n)) d t
    rw [← reds_shf n _ t ht]
    exact reds_agree (fun s hs => (red_shf s).elim id fun z => by omega) t ht
theorem red_add {f g : Nat → Int} {s : Nat} : red m d (fun t => f t + g t) s = fun t => red m d f s t + red m d g s t := by
  funext t
  unfold red
  split
  · grind
  · rfl
theorem reds_add : ∀ (n : Nat) (f g : Nat → Int), reds m d (fun t => f t + g t) n = fun t => reds m d f n t + reds m d g n t
  | 0, f, g => rfl
  | n + 1, f, g => by
    unfold reds
    rw [red_add]
    exact reds_add n _ _
theorem red_sm {f : Nat → Int} {a : Int} {s : Nat} : red m d (fun t => a * f t) s = fun t => a * red m d f s t := by
  funext t
  unfold red
  split
  · grind
  · rfl
theorem reds_sm (a : Int) : ∀ (n : Nat) (f : Nat → Int), reds m d (fun t => a * f t) n = fun t => a * reds m d f n t
  | 0, f => rfl
  | n + 1, f => by
    unfold reds
    rw [red_sm]
    exact reds_sm a n _
theorem reds_zero : ∀ (n : Nat), reds m d (fun _ => 0) n = fun _ => 0
  | 0 => rfl
  | n + 1 => by
    unfold reds
    rw [red_zero (f := fun _ => 0) rfl]
    exact reds_zero n
end
section
variable {e : Nat} {m : Nat → Int}
theorem toR_X (f : Nat → Int) : (toR (red m (e + 1) (shf f) (e + 1)) : Rg e m) = Rg.X (toR f) := Rg.ext fun i => by
  have hi := i.isLt
  show red m (e + 1) (shf f) (e + 1) i.val = (if h : i.val = 0 then 0 else f (i.val - 1)) - f e * m i.val
  unfold red shf
  rw [if_pos ⟨by omega, hi⟩, if_neg (show ¬ e + 1 = 0 by omega), Nat.add_sub_cancel, show i.val + (e + 1) - (e + 1) = i.val by omega]
  by_cases h : i.val = 0
  · rw [if_pos h, dif_pos h]
  · rw [if_neg h, dif_neg h]
theorem toR_shf (n : Nat) (f : Nat → Int) : (toR (reds m (e + 1) (shf f) (n + 1)) : Rg e m) = Rg.X (toR (reds m (e + 1) f n)) := by
  rw [← toR_X]
  exact Rg.ext fun i => reds_shf n f i.val i.isLt
theorem sIn_cons' (i : Nat) (a b : Int) (q : List Int) (j s : Nat) : sIn i a (b :: q) j s = (if s = i + j then a * b else 0) + sIn i a q (j + 1) s := rfl
theorem sIn_shf (i : Nat) (a : Int) : ∀ (q : List Int) (j s : Nat), sIn (i + 1) a q j s = shf (sIn i a q j) s
  | [], j, s => by unfold shf sIn; split <;> rfl
  | b :: q, j, s => by
    rw [sIn_cons', sIn_shf i a q (j + 1) s]
    unfold shf
    by_cases h : s = 0
    · rw [if_pos h, if_pos h, if_neg (by omega)]; rfl
    · rw [if_neg h, if_neg h, sIn_cons']
      by_cases h2 : s = i + 1 + j
      · rw [if_pos h2, if_pos (by omega)]
      · rw [if_neg h2, if_neg (by omega)]
theorem sOut_shf (q : List Int) : ∀ (p : List Int) (i s : Nat), sOut q p (i + 1) s = shf (sOut q p i) s
  | [], i, s => by unfold shf sOut; split <;> rfl
  | a :: p, i, s => by
    unfold sOut
    rw [sIn_shf, sOut_shf q p (i + 1) s]
    unfold shf
    split
    · rfl
    · rfl
theorem sIn_fM (a : Int) : ∀ (q : List Int) (j s : Nat), sIn 0 a q j s = if j ≤ s then a * fM q (s - j) else 0
  | [], j, s => by unfold sIn fM; simp
  | b :: q, j, s => by
    unfold sIn
    rw [sIn_fM a q (j + 1) s]
    unfold fM
    by_cases h : s = j
    · subst h
      rw [if_pos (by omega), if_neg (by omega), if_pos (by omega), Nat.sub_self]; simp
    · rw [if_neg (by omega)]
      by_cases h2 : j + 1 ≤ s
      · rw [if_pos h2, if_pos (by omega), show s - j = s - (j + 1) + 1 by omega, List.getElem?_cons_succ]; omega
      · rw [if_neg h2, if_neg (by omega)]; rfl
theorem sOut_cons (q : List Int) (a : Int) (p : List Int) : sOut q (a :: p) 0 = fun s => a * fM q s + shf (sOut q p 0) s := by
  funext s
  show sIn 0 a q 0 s + sOut q p (0 + 1) s = _
  rw [sIn_fM, sOut_shf, if_pos (Nat.zero_le _), Nat.sub_zero]
theorem reds_low {q : List Int} (h : q.length ≤ e + 1) (n : Nat) : reds m (e + 1) (fM q) n = fM q := by
  have := reds_more (m := m) (d := e + 1) (k := n) (n := 0) (f := fM q) (fun s hs => by unfold fM; rw [List.getElem?_eq_none (by omega)]; rfl)
  rw [Nat.zero_add] at this
  exact this
theorem toR_prod {q : List Int} (h : q.length ≤ e + 1) : ∀ (p : List Int) (n : Nat), p.length ≤ n → (toR (reds m (e + 1) (sOut q p 0) n) : Rg e m) = Rg.mulL p (ofL q)
  | [], n, _ => by
    show toR (reds m (e + 1) (fun _ => 0) n) = _
    rw [reds_zero]; rfl
  | a :: p, 0, hn => by rw [List.length_cons] at hn; omega
  | a :: p, n + 1, hn => by
    rw [List.length_cons] at hn
    rw [sOut_cons, reds_add, reds_sm, reds_low h]
    have e1 : (toR (fun t => a * fM q t + reds m (e + 1) (shf (sOut q p 0)) (n + 1) t) : Rg e m) = Rg.addR (Rg.sm a (ofL q)) (toR (reds m (e + 1) (shf (sOut q p 0)) (n + 1))) := rfl
    rw [e1, toR_shf, toR_prod h p n (by omega), Rg.mulL_cons, Rg.mulL_X]
theorem prod_lst (P Q : Rg e m) {n : Nat} (hn : e ≤ n) : tab (e + 1) (reds m (e + 1) (sOut (Rg.lst Q) (Rg.lst P) 0) n) = Rg.lst (P * Q) := by
  have h1 : reds m (e + 1) (sOut (Rg.lst Q) (Rg.lst P) 0) n = reds m (e + 1) (sOut (Rg.lst Q) (Rg.lst P) 0) (n + (e + 1)) := by
    refine (reds_more fun s hs => sOut_far _ _ _ _ ?_).symm
    rw [lst_len, lst_len]; omega
  rw [h1, ← lst_toR (m := m), toR_prod (by rw [lst_len]; exact Nat.le_refl _) _ _ (by rw [lst_len]; omega), ofL_lst]
  congr 1
  show Rg.mulR Q P = Rg.mulR P Q
  exact Rg.mulR_comm _ _
theorem x_lst (P : Rg e m) : tab (e + 1) (reds m (e + 1) (fM (0 :: Rg.lst P)) 1) = Rg.lst (Rg.xx * P) := by
  have h1 : fM (0 :: Rg.lst P) = shf (fM (Rg.lst P)) := by
    funext t
    unfold fM shf
    cases t with
    | zero => rfl
    | succ t => simp
  rw [h1, ← lst_toR (m := m), toR_shf, ← Rg.X_eq]
  congr 2
  exact ofL_lst P
end
end DE
set_option linter.all false
set_option maxRecDepth 100000
set_option maxHeartbeats 4000000
namespace DE
/-- now and then of v_polynomial after k turns -/
def vStep (s : List Int × List Int) : List Int × List Int := (s.2, (List.range (s.2.length + 1)).map fun t => ((0 :: s.2)[t]?).getD 0 - (s.1[t]?).getD 0)
def vS : Nat → List Int × List Int
  | 0 => ([], [1])
  | k + 1 => vStep (vS k)
def vL (k : Nat) : List Int := (vS k).1
theorem vS_2 (k : Nat) : (vS k).2 = vL (k + 1) := rfl
theorem vL_s (k : Nat) : vL (k + 2) = tab ((vL (k + 1)).length + 1) fun t => fM (0 :: vL (k + 1)) t - fM (vL k) t := rfl
theorem vL_ln : ∀ k, (vL k).length = k ∧ (vL (k + 1)).length = k + 1
  | 0 => ⟨rfl, rfl⟩
  | k + 1 => ⟨(vL_ln k).2, by rw [vL_s, tab_len, (vL_ln k).2]⟩
theorem fM_tab {n t : Nat} {f : Nat → Int} (h : t < n) : fM (tab n f) t = f t := by unfold fM; rw [tab_get h]; rfl
theorem fM_far {l : List Int} {t : Nat} (h : l.length ≤ t) : fM l t = 0 := by unfold fM; rw [List.getElem?_eq_none h]; rfl
theorem fM_0 (l : List Int) : ∀ t, fM (0 :: l) t = shf (fM l) t
  | 0 => rfl
  | t + 1 => by unfold shf fM; simp
theorem vL_at (k t : Nat) : fM (vL (k + 2)) t = shf (fM (vL (k + 1))) t - fM (vL k) t := by
  rw [vL_s]
  by_cases h : t < (vL (k + 1)).length + 1
  · rw [fM_tab h, fM_0]
  · rw [fM_far (by rw [tab_len]; omega), fM_far (l := vL k) (by have := vL_ln k; omega)]
    unfold shf
    rw [if_neg (by omega), fM_far (by omega)]; rfl
theorem vL_lead : ∀ k, fM (vL (k + 1)) k = 1
  | 0 => rfl
  | k + 1 => by
    rw [vL_at, fM_far (l := vL k) (by have := vL_ln k; omega)]
    unfold shf
    rw [if_neg (by omega), Nat.add_sub_cancel, vL_lead k]; rfl
section
variable {α : Type} [Lean.Grind.CommRing α]
/-- V(k) in a ring -/
def vv (x : α) : Nat → α × α
  | 0 => (0, 1)
  | k + 1 => ((vv x k).2, x * (vv x k).2 - (vv x k).1)
theorem vv_inv (x : α) : ∀ k, (vv x k).2 * (vv x k).2 - x * (vv x k).1 * (vv x k).2 + (vv x k).1 * (vv x k).1 = 1
  | 0 => by simp only [vv]; grind
  | k + 1 => by
    have := vv_inv x k
    simp only [vv]
    grind
/-- the powers of t -/
theorem t_pow (x : α) : ∀ k, T3.pw ((T3.mc x).mul (T3.mb x)) k = ⟨1, 0, 0, (vv x k).1 * (vv x k).1, (x * (vv x k).1 - (vv x k).2) * (x * (vv x k).1 - (vv x k).2) - (vv x k).1 * (vv x k).1, (vv x k).1 * (2 * (vv x k).2 - x * (vv x k).1), (vv x k).1 * (vv x k).2, -((vv x k).1 * (2 * (vv x k).2 - x * (vv x k).1)), (vv x k).2 * (vv x k).2 - (vv x k).1 * (vv x k).1⟩
  | 0 => by
    show T3.one = _
    apply T3.ext' <;> simp only [T3.one, vv] <;> grind
  | k + 1 => by
    have h := vv_inv x k
    show (T3.pw ((T3.mc x).mul (T3.mb x)) k).mul ((T3.mc x).mul (T3.mb x)) = _
    rw [t_pow x k]
    apply T3.ext' <;> simp only [T3.mul, T3.mc, T3.mb, vv] <;> generalize (vv x k).1 = p at h ⊢ <;> generalize (vv x k).2 = q at h ⊢ <;> grind
theorem t_one {x : α} {N : Nat} (h : (vv x N).1 = 0) : T3.pw ((T3.mc x).mul (T3.mb x)) N = T3.one := by
  have h2 := vv_inv x N
  rw [t_pow, h]
  rw [h] at h2
  apply T3.ext' <;> simp only [T3.one] <;> grind
end
/-- in the ring V(N) is 0 -/
theorem vv_low (e : Nat) (m : Nat → Int) : ∀ k, k < e + 1 → (vv (Rg.xx : Rg e m) k) = ((ofL (vL k) : Rg e m), (ofL (vL (k + 1)) : Rg e m))
  | 0, _ => by
    show ((0 : Rg e m), (1 : Rg e m)) = _
    congr 1
    · exact Rg.ext fun i => by show (0 : Int) * _ = (([] : List Int)[i.val]?).getD 0; simp
    · exact Rg.ext fun i => by
        show (1 : Int) * (if i.val = 0 then 1 else 0) = (([1] : List Int)[i.val]?).getD 0
        by_cases h : i.val = 0
        · rw [h]; rfl
        · rw [if_neg h, List.getElem?_eq_none (by simp; omega)]; rfl
  | k + 1, h => by
    show ((vv (Rg.xx : Rg e m) k).2, Rg.xx * (vv (Rg.xx : Rg e m) k).2 - (vv (Rg.xx : Rg e m) k).1) = _
    rw [vv_low e m k (by omega)]
    congr 1
    dsimp only
    rw [← Rg.X_eq]
    refine Rg.ext fun i => ?_
    have hi := i.isLt
    show ((if h : i.val = 0 then 0 else fM (vL (k + 1)) (i.val - 1)) - fM (vL (k + 1)) e * m i.val) + -(fM (vL k) i.val) = fM (vL (k + 2)) i.val
    rw [vL_at, fM_far (l := vL (k + 1)) (t := e) (by have := vL_ln k; omega)]
    unfold shf
    by_cases h0 : i.val = 0
    · rw [dif_pos h0, if_pos h0]; omega
    · rw [dif_neg h0, if_neg h0]; omega
theorem vv_top (e : Nat) : (vv (Rg.xx : Rg e (fM (vL (e + 2)))) (e + 2)).1 = 0 := by
  show Rg.xx * (vv (Rg.xx : Rg e (fM (vL (e + 2)))) e).2 - (vv (Rg.xx : Rg e (fM (vL (e + 2)))) e).1 = 0
  rw [vv_low e _ e (by omega)]
  dsimp only
  rw [← Rg.X_eq]
  refine Rg.ext fun i => ?_
  have hi := i.isLt
  show ((if h : i.val = 0 then 0 else fM (vL (e + 1)) (i.val - 1)) - fM (vL (e + 1)) e * fM (vL (e + 2)) i.val) + -(fM (vL e) i.val) = (0 : Int) * _
  rw [vL_lead, vL_at]
  unfold shf
  by_cases h0 : i.val = 0
  · rw [dif_pos h0, if_pos h0]; omega
  · rw [dif_neg h0, if_neg h0]; omega
theorem tN (e : Nat) : T3.pw ((T3.mc (Rg.xx : Rg e (fM (vL (e + 2))))).mul (T3.mb Rg.xx)) (e + 2) = T3.one := t_one (vv_top e)
end DE
set_option linter.all false
set_option maxRecDepth 100000
set_option maxHeartbeats 4000000
set_option exponentiation.threshold 4000
namespace DE
open PySem PySem.Spec PyProof.Rows L2
structure A2 where (a b c d : Int)
def A2.D (x : A2) : DE.D := .tup [.tup [.int x.a, .int x.b], .tup [.int x.c, .int x.d]]
def A2.mul (x y : A2) : A2 := ⟨x.a * y.a + x.b * y.c, x.a * y.b + x.b * y.d, x.c * y.a + x.d * y.c, x.c * y.b + x.d * y.d⟩
def A2.det (x : A2) : Int := x.a * x.d - x.b * x.c
def A2.adj (x : A2) : A2 := ⟨x.d, -x.b, -x.c, x.a⟩
def A2.one : A2 := ⟨1, 0, 0, 1⟩
def A2.stp (i j : Nat) (k : Int) : A2 := ⟨1, if i = 0 ∧ j = 1 then k else 0, if i = 1 ∧ j = 0 then k else 0, 1⟩
theorem A2.ext' {x y : A2} (ha : x.a = y.a) (hb : x.b = y.b) (hc : x.c = y.c) (hd : x.d = y.d) : x = y := by
  cases x; cases y; simp_all
theorem A2.mul_assoc (x y z : A2) : (x.mul y).mul z = x.mul (y.mul z) := by
  apply A2.ext' <;> simp only [A2.mul] <;> grind
theorem A2.one_mul (x : A2) : A2.one.mul x = x := by apply A2.ext' <;> simp [A2.mul, A2.one]
theorem A2.mul_one (x : A2) : x.mul A2.one = x := by apply A2.ext' <;> simp [A2.mul, A2.one]
theorem A2.det_mul (x y : A2) : (x.mul y).det = x.det * y.det := by simp only [A2.mul, A2.det]; grind
theorem A2.det_one : A2.one.det = 1 := by rfl
theorem A2.mul_adj {x : A2} (h : x.det = 1) : x.mul x.adj = A2.one := by
  simp only [A2.det] at h
  apply A2.ext' <;> simp only [A2.mul, A2.adj, A2.one] <;> grind
theorem A2.adj_mul {x : A2} (h : x.det = 1) : x.adj.mul x = A2.one := by
  simp only [A2.det] at h
  apply A2.ext' <;> simp only [A2.mul, A2.adj, A2.one] <;> grind
theorem A2.det_adj {x : A2} (h : x.det = 1) : x.adj.det = 1 := by
  have := congrArg A2.det (A2.mul_adj h)
  rw [A2.det_mul, h, A2.det_one, Int.one_mul] at this
  exact this
theorem A2.det_stp01 (k : Int) : (A2.stp 0 1 k).det = 1 := by simp [A2.stp, A2.det]
theorem A2.det_stp10 (k : Int) : (A2.stp 1 0 k).det = 1 := by simp [A2.stp, A2.det]
structure A2.Sz (B : Nat) (x : A2) : Prop where
  a : x.a.natAbs ≤ B
  b : x.b.natAbs ≤ B
  c : x.c.natAbs ≤ B
  d : x.d.natAbs ≤ B
theorem A2.Sz.mono {B C : Nat} {x : A2} (h : B ≤ C) (s : x.Sz B) : x.Sz C := ⟨Nat.le_trans s.a h, Nat.le_trans s.b h, Nat.le_trans s.c h, Nat.le_trans s.d h⟩
theorem nm2 {a b c d : Int} {B C : Nat} (h1 : a.natAbs ≤ B) (h2 : b.natAbs ≤ C) (h3 : c.natAbs ≤ B) (h4 : d.natAbs ≤ C) : (a * b + c * d).natAbs ≤ 2 * (B * C) := by
  have e1 : (a * b).natAbs ≤ B * C := by rw [Int.natAbs_mul]; exact Nat.mul_le_mul h1 h2
  have e2 : (c * d).natAbs ≤ B * C := by rw [Int.natAbs_mul]; exact Nat.mul_le_mul h3 h4
  omega
theorem nmm {a b c d : Int} {B C : Nat} (h1 : a.natAbs ≤ B) (h2 : b.natAbs ≤ C) (h3 : c.natAbs ≤ B) (h4 : d.natAbs ≤ C) : (a * b - c * d).natAbs ≤ 2 * (B * C) := by
  have e1 : (a * b).natAbs ≤ B * C := by rw [Int.natAbs_mul]; exact Nat.mul_le_mul h1 h2
  have e2 : (c * d).natAbs ≤ B * C := by rw [Int.natAbs_mul]; exact Nat.mul_le_mul h3 h4
  omega
theorem nm3 {a b c d e f : Int} {B C : Nat} (h1 : a.natAbs ≤ B) (h2 : b.natAbs ≤ C) (h3 : c.natAbs ≤ B) (h4 : d.natAbs ≤ C) (h5 : e.natAbs ≤ B) (h6 : f.natAbs ≤ C) : (a * b + (c * d + e * f)).natAbs ≤ 3 * (B * C) := by
  have e1 : (a * b).natAbs ≤ B * C := by rw [Int.natAbs_mul]; exact Nat.mul_le_mul h1 h2
  have e2 : (c * d).natAbs ≤ B * C := by rw [Int.natAbs_mul]; exact Nat.mul_le_mul h3 h4
  have e3 : (e * f).natAbs ≤ B * C := by rw [Int.natAbs_mul]; exact Nat.mul_le_mul h5 h6
  omega
theorem neg_na {a : Int} {B : Nat} (h : a.natAbs ≤ B) : (-a).natAbs ≤ B := by rwa [Int.natAbs_neg]
/-- alike modulo N, an item -/
def Cg (N x y : Int) : Prop := ∃ q, x = y + N * q
theorem Cg.refl (N x : Int) : Cg N x x := ⟨0, by simp⟩
theorem Cg.of {N x y : Int} (h : x = y) : Cg N x y := h ▸ Cg.refl N x
theorem Cg.symm {N x y : Int} (h : Cg N x y) : Cg N y x := by obtain ⟨q, e⟩ := h; exact ⟨-q, by grind⟩
theorem Cg.trans {N x y z : Int} (h : Cg N x y) (h' : Cg N y z) : Cg N x z := by obtain ⟨q, e⟩ := h; obtain ⟨r, e'⟩ := h'; exact ⟨q + r, by grind⟩
theorem Cg.add {N x y x' y' : Int} (h : Cg N x y) (h' : Cg N x' y') : Cg N (x + x') (y + y') := by obtain ⟨q, e⟩ := h; obtain ⟨r, e'⟩ := h'; exact ⟨q + r, by grind⟩
theorem Cg.sub {N x y x' y' : Int} (h : Cg N x y) (h' : Cg N x' y') : Cg N (x - x') (y - y') := by obtain ⟨q, e⟩ := h; obtain ⟨r, e'⟩ := h'; exact ⟨q - r, by grind⟩
theorem Cg.neg {N x y : Int} (h : Cg N x y) : Cg N (-x) (-y) := by obtain ⟨q, e⟩ := h; exact ⟨-q, by grind⟩
theorem Cg.mul {N x y x' y' : Int} (h : Cg N x y) (h' : Cg N x' y') : Cg N (x * x') (y * y') := by obtain ⟨q, e⟩ := h; obtain ⟨r, e'⟩ := h'; exact ⟨y * r + q * y' + N * q * r, by grind⟩
theorem Cg.zero {N k : Int} : Cg N (N * k) 0 := ⟨k, by simp⟩
theorem Cg.zero' {N k : Int} : Cg N (k * N) 0 := ⟨k, by grind⟩
theorem Cg.fmod {N x y : Int} (h : Cg N x y) : x.fmod N = y.fmod N := by obtain ⟨q, e⟩ := h; rw [e, Int.add_mul_fmod_self_left]
theorem Cg.fm (N x : Int) : Cg N (x.fmod N) x := ⟨-(x.fdiv N), by have := Int.fmod_add_mul_fdiv x N; grind⟩
theorem Cg.of_fmod {N x y : Int} (h : x.fmod N = y.fmod N) : Cg N x y := (Cg.fm N x).symm.trans (h ▸ Cg.fm N y)
theorem Cg.iff {N x y : Int} : x.fmod N = y.fmod N ↔ Cg N x y := ⟨Cg.of_fmod, Cg.fmod⟩
theorem A2.Sz.mul {B C : Nat} {x y : A2} (s : x.Sz B) (t : y.Sz C) : (x.mul y).Sz (2 * (B * C)) := ⟨nm2 s.a t.a s.b t.c, nm2 s.a t.b s.b t.d, nm2 s.c t.a s.d t.c, nm2 s.c t.b s.d t.d⟩
theorem A2.Sz.adj {B : Nat} {x : A2} (s : x.Sz B) : x.adj.Sz B := ⟨s.d, neg_na s.b, neg_na s.c, s.a⟩
theorem A2.Sz.one : A2.one.Sz 1 := ⟨by decide, by decide, by decide, by decide⟩
theorem A2.Sz.stp {i j : Nat} {k : Int} {B : Nat} (h : k.natAbs ≤ B) (h1 : 1 ≤ B) : (A2.stp i j k).Sz B := by
  constructor <;> simp only [A2.stp] <;> (try split) <;> omega
structure A2.Cg (N : Int) (x y : A2) : Prop where
  a : DE.Cg N x.a y.a
  b : DE.Cg N x.b y.b
  c : DE.Cg N x.c y.c
  d : DE.Cg N x.d y.d
theorem A2.Cg.refl (N : Int) (x : A2) : A2.Cg N x x := ⟨DE.Cg.refl _ _, DE.Cg.refl _ _, DE.Cg.refl _ _, DE.Cg.refl _ _⟩
theorem A2.Cg.symm {N : Int} {x y : A2} (h : A2.Cg N x y) : A2.Cg N y x := ⟨h.a.symm, h.b.symm, h.c.symm, h.d.symm⟩
theorem A2.Cg.trans {N : Int} {x y z : A2} (h : A2.Cg N x y) (k : A2.Cg N y z) : A2.Cg N x z := ⟨h.a.trans k.a, h.b.trans k.b, h.c.trans k.c, h.d.trans k.d⟩
theorem A2.Cg.mul {N : Int} {x y x' y' : A2} (h : A2.Cg N x y) (k : A2.Cg N x' y') : A2.Cg N (x.mul x') (y.mul y') := ⟨(h.a.mul k.a).add (h.b.mul k.c), (h.a.mul k.b).add (h.b.mul k.d), (h.c.mul k.a).add (h.d.mul k.c), (h.c.mul k.b).add (h.d.mul k.d)⟩
theorem A2.Cg.stp {N k : Int} {i j : Nat} (h : DE.Cg N k 0) : A2.Cg N (A2.stp i j k) A2.one := by
  constructor <;> simp only [A2.stp, A2.one] <;> first | exact DE.Cg.refl _ _ | (split <;> first | exact h | exact DE.Cg.refl _ _)
theorem A2.Cg.conj {N : Int} {x y : A2} (hx : x.det = 1) (h : A2.Cg N y A2.one) : A2.Cg N ((x.mul y).mul x.adj) A2.one := by
  have := ((A2.Cg.refl N x).mul h).mul (A2.Cg.refl N x.adj)
  rw [A2.mul_one, A2.mul_adj hx] at this
  exact this
def A2.red (N : Int) (x : A2) : A2 := ⟨x.a.fmod N, x.b.fmod N, x.c.fmod N, x.d.fmod N⟩
theorem A2.Cg.red {N : Int} {x y : A2} (h : A2.Cg N x y) : x.red N = y.red N := by
  apply A2.ext' <;> simp only [A2.red]
  · exact h.a.fmod
  · exact h.b.fmod
  · exact h.c.fmod
  · exact h.d.fmod
theorem A2.Cg.of_red {N : Int} {x y : A2} (h : x.red N = y.red N) : A2.Cg N x y := by
  simp only [A2.red, A2.mk.injEq] at h
  exact ⟨DE.Cg.of_fmod h.1, DE.Cg.of_fmod h.2.1, DE.Cg.of_fmod h.2.2.1, DE.Cg.of_fmod h.2.2.2⟩
theorem A2.shp_D (x : A2) : shp x.D = true := rfl
theorem A2.noL_D (x : A2) : x.D.noL = true := rfl
instance : DecidableEq A2 := fun x y => by
  cases x; cases y
  simp only [A2.mk.injEq]
  infer_instance
theorem A2.eqD_D (x y : A2) : eqD x.D y.D = decide (x = y) := by
  cases x; cases y
  simp only [A2.mk.injEq, Bool.decide_and]
  simp [A2.D, eqD, D.toP, PyData.eqv, PyData.eqvAll, D.toPs, Bool.and_assoc]
  rfl
structure A3 where (a b c d e f g h i : Int)
def A3.D (x : A3) : DE.D := .tup [.tup [.int x.a, .int x.b, .int x.c], .tup [.int x.d, .int x.e, .int x.f], .tup [.int x.g, .int x.h, .int x.i]]
def A3.mul (x y : A3) : A3 := ⟨x.a * y.a + (x.b * y.d + x.c * y.g), x.a * y.b + (x.b * y.e + x.c * y.h), x.a * y.c + (x.b * y.f + x.c * y.i), x.d * y.a + (x.e * y.d + x.f * y.g), x.d * y.b + (x.e * y.e + x.f * y.h), x.d * y.c + (x.e * y.f + x.f * y.i), x.g * y.a + (x.h * y.d + x.i * y.g), x.g * y.b + (x.h * y.e + x.i * y.h), x.g * y.c + (x.h * y.f + x.i * y.i)⟩
def A3.det (x : A3) : Int := x.a * (x.e * x.i - x.f * x.h) + (x.b * (x.f * x.g - x.d * x.i) + x.c * (x.d * x.h - x.e * x.g))
def A3.adj (x : A3) : A3 := ⟨(x.e * x.i - x.f * x.h), (x.h * x.c - x.i * x.b), (x.b * x.f - x.c * x.e), (x.f * x.g - x.d * x.i), (x.i * x.a - x.g * x.c), (x.c * x.d - x.a * x.f), (x.d * x.h - x.e * x.g), (x.g * x.b - x.h * x.a), (x.a * x.e - x.b * x.d)⟩
def A3.one : A3 := ⟨1, 0, 0, 0, 1, 0, 0, 0, 1⟩
def A3.stp (i j : Nat) (k : Int) : A3 := ⟨1, if i = 0 ∧ j = 1 then k else 0, if i = 0 ∧ j = 2 then k else 0, if i = 1 ∧ j = 0 then k else 0, 1, if i = 1 ∧ j = 2 then k else 0, if i = 2 ∧ j = 0 then k else 0, if i = 2 ∧ j = 1 then k else 0, 1⟩
theorem A3.ext' {x y : A3} (ha : x.a = y.a) (hb : x.b = y.b) (hc : x.c = y.c) (hd : x.d = y.d) (he : x.e = y.e) (hf : x.f = y.f) (hg : x.g = y.g) (hh : x.h = y.h) (hi : x.i = y.i) : x = y := by
  cases x; cases y; simp_all
theorem A3.mul_assoc (x y z : A3) : (x.mul y).mul z = x.mul (y.mul z) := by
  apply A3.ext' <;> simp only [A3.mul] <;> grind
theorem A3.one_mul (x : A3) : A3.one.mul x = x := by apply A3.ext' <;> simp [A3.mul, A3.one]
theorem A3.mul_one (x : A3) : x.mul A3.one = x := by apply A3.ext' <;> simp [A3.mul, A3.one]
theorem A3.det_mul (x y : A3) : (x.mul y).det = x.det * y.det := by simp only [A3.mul, A3.det]; grind
theorem A3.det_one : A3.one.det = 1 := by rfl
theorem A3.mul_adj {x : A3} (h : x.det = 1) : x.mul x.adj = A3.one := by
  simp only [A3.det] at h
  apply A3.ext' <;> simp only [A3.mul, A3.adj, A3.one] <;> grind
theorem A3.adj_mul {x : A3} (h : x.det = 1) : x.adj.mul x = A3.one := by
  simp only [A3.det] at h
  apply A3.ext' <;> simp only [A3.mul, A3.adj, A3.one] <;> grind
theorem A3.det_adj {x : A3} (h : x.det = 1) : x.adj.det = 1 := by
  have := congrArg A3.det (A3.mul_adj h)
  rw [A3.det_mul, h, A3.det_one, Int.one_mul] at this
  exact this
theorem A3.det_stp01 (k : Int) : (A3.stp 0 1 k).det = 1 := by simp [A3.stp, A3.det]
theorem A3.det_stp02 (k : Int) : (A3.stp 0 2 k).det = 1 := by simp [A3.stp, A3.det]
theorem A3.det_stp10 (k : Int) : (A3.stp 1 0 k).det = 1 := by simp [A3.stp, A3.det]
theorem A3.det_stp12 (k : Int) : (A3.stp 1 2 k).det = 1 := by simp [A3.stp, A3.det]
theorem A3.det_stp20 (k : Int) : (A3.stp 2 0 k).det = 1 := by simp [A3.stp, A3.det]
theorem A3.det_stp21 (k : Int) : (A3.stp 2 1 k).det = 1 := by simp [A3.stp, A3.det]
structure A3.Sz (B : Nat) (x : A3) : Prop where
  a : x.a.natAbs ≤ B
  b : x.b.natAbs ≤ B
  c : x.c.natAbs ≤ B
  d : x.d.natAbs ≤ B
  e : x.e.natAbs ≤ B
  f : x.f.natAbs ≤ B
  g : x.g.natAbs ≤ B
  h : x.h.natAbs ≤ B
  i : x.i.natAbs ≤ B
theorem A3.Sz.mono {B C : Nat} {x : A3} (h : B ≤ C) (s : x.Sz B) : x.Sz C := ⟨Nat.le_trans s.a h, Nat.le_trans s.b h, Nat.le_trans s.c h, Nat.le_trans s.d h, Nat.le_trans s.e h, Nat.le_trans s.f h, Nat.le_trans s.g h, Nat.le_trans s.h h, Nat.le_trans s.i h⟩
theorem A3.Sz.mul {B C : Nat} {x y : A3} (s : x.Sz B) (t : y.Sz C) : (x.mul y).Sz (3 * (B * C)) := ⟨nm3 s.a t.a s.b t.d s.c t.g, nm3 s.a t.b s.b t.e s.c t.h, nm3 s.a t.c s.b t.f s.c t.i, nm3 s.d t.a s.e t.d s.f t.g, nm3 s.d t.b s.e t.e s.f t.h, nm3 s.d t.c s.e t.f s.f t.i, nm3 s.g t.a s.h t.d s.i t.g, nm3 s.g t.b s.h t.e s.i t.h, nm3 s.g t.c s.h t.f s.i t.i⟩
theorem A3.Sz.adj {B : Nat} {x : A3} (s : x.Sz B) : x.adj.Sz (2 * (B * B)) := ⟨nmm s.e s.i s.f s.h, nmm s.h s.c s.i s.b, nmm s.b s.f s.c s.e, nmm s.f s.g s.d s.i, nmm s.i s.a s.g s.c, nmm s.c s.d s.a s.f, nmm s.d s.h s.e s.g, nmm s.g s.b s.h s.a, nmm s.a s.e s.b s.d⟩
theorem A3.Sz.one : A3.one.Sz 1 := ⟨by decide, by decide, by decide, by decide, by decide, by decide, by decide, by decide, by decide⟩
theorem A3.Sz.stp {i j : Nat} {k : Int} {B : Nat} (h : k.natAbs ≤ B) (h1 : 1 ≤ B) : (A3.stp i j k).Sz B := by
  constructor <;> simp only [A3.stp] <;> (try split) <;> omega
structure A3.Cg (N : Int) (x y : A3) : Prop where
  a : DE.Cg N x.a y.a
  b : DE.Cg N x.b y.b
  c : DE.Cg N x.c y.c
  d : DE.Cg N x.d y.d
  e : DE.Cg N x.e y.e
  f : DE.Cg N x.f y.f
  g : DE.Cg N x.g y.g
  h : DE.Cg N x.h y.h
  i : DE.Cg N x.i y.i
theorem A3.Cg.refl (N : Int) (x : A3) : A3.Cg N x x := ⟨DE.Cg.refl _ _, DE.Cg.refl _ _, DE.Cg.refl _ _, DE.Cg.refl _ _, DE.Cg.refl _ _, DE.Cg.refl _ _, DE.Cg.refl _ _, DE.Cg.refl _ _, DE.Cg.refl _ _⟩
theorem A3.Cg.symm {N : Int} {x y : A3} (h : A3.Cg N x y) : A3.Cg N y x := ⟨h.a.symm, h.b.symm, h.c.symm, h.d.symm, h.e.symm, h.f.symm, h.g.symm, h.h.symm, h.i.symm⟩
theorem A3.Cg.trans {N : Int} {x y z : A3} (h : A3.Cg N x y) (k : A3.Cg N y z) : A3.Cg N x z := ⟨h.a.trans k.a, h.b.trans k.b, h.c.trans k.c, h.d.trans k.d, h.e.trans k.e, h.f.trans k.f, h.g.trans k.g, h.h.trans k.h, h.i.trans k.i⟩
theorem A3.Cg.mul {N : Int} {x y x' y' : A3} (h : A3.Cg N x y) (k : A3.Cg N x' y') : A3.Cg N (x.mul x') (y.mul y') := ⟨(h.a.mul k.a).add ((h.b.mul k.d).add (h.c.mul k.g)), (h.a.mul k.b).add ((h.b.mul k.e).add (h.c.mul k.h)), (h.a.mul k.c).add ((h.b.mul k.f).add (h.c.mul k.i)), (h.d.mul k.a).add ((h.e.mul k.d).add (h.f.mul k.g)), (h.d.mul k.b).add ((h.e.mul k.e).add (h.f.mul k.h)), (h.d.mul k.c).add ((h.e.mul k.f).add (h.f.mul k.i)), (h.g.mul k.a).add ((h.h.mul k.d).add (h.i.mul k.g)), (h.g.mul k.b).add ((h.h.mul k.e).add (h.i.mul k.h)), (h.g.mul k.c).add ((h.h.mul k.f).add (h.i.mul k.i))⟩
theorem A3.Cg.stp {N k : Int} {i j : Nat} (h : DE.Cg N k 0) : A3.Cg N (A3.stp i j k) A3.one := by
  constructor <;> simp only [A3.stp, A3.one] <;> first | exact DE.Cg.refl _ _ | (split <;> first | exact h | exact DE.Cg.refl _ _)
theorem A3.Cg.conj {N : Int} {x y : A3} (hx : x.det = 1) (h : A3.Cg N y A3.one) : A3.Cg N ((x.mul y).mul x.adj) A3.one := by
  have := ((A3.Cg.refl N x).mul h).mul (A3.Cg.refl N x.adj)
  rw [A3.mul_one, A3.mul_adj hx] at this
  exact this
def A3.red (N : Int) (x : A3) : A3 := ⟨x.a.fmod N, x.b.fmod N, x.c.fmod N, x.d.fmod N, x.e.fmod N, x.f.fmod N, x.g.fmod N, x.h.fmod N, x.i.fmod N⟩
theorem A3.Cg.red {N : Int} {x y : A3} (h : A3.Cg N x y) : x.red N = y.red N := by
  apply A3.ext' <;> simp only [A3.red]
  · exact h.a.fmod
  · exact h.b.fmod
  · exact h.c.fmod
  · exact h.d.fmod
  · exact h.e.fmod
  · exact h.f.fmod
  · exact h.g.fmod
  · exact h.h.fmod
  · exact h.i.fmod
theorem A3.Cg.of_red {N : Int} {x y : A3} (h : x.red N = y.red N) : A3.Cg N x y := by
  simp only [A3.red, A3.mk.injEq] at h
  exact ⟨DE.Cg.of_fmod h.1, DE.Cg.of_fmod h.2.1, DE.Cg.of_fmod h.2.2.1, DE.Cg.of_fmod h.2.2.2.1, DE.Cg.of_fmod h.2.2.2.2.1, DE.Cg.of_fmod h.2.2.2.2.2.1, DE.Cg.of_fmod h.2.2.2.2.2.2.1, DE.Cg.of_fmod h.2.2.2.2.2.2.2.1, DE.Cg.of_fmod h.2.2.2.2.2.2.2.2⟩
theorem A3.shp_D (x : A3) : shp x.D = true := rfl
theorem A3.noL_D (x : A3) : x.D.noL = true := rfl
instance : DecidableEq A3 := fun x y => by
  cases x; cases y
  simp only [A3.mk.injEq]
  infer_instance
theorem A3.eqD_D (x y : A3) : eqD x.D y.D = decide (x = y) := by
  cases x; cases y
  simp only [A3.mk.injEq, Bool.decide_and]
  simp [A3.D, eqD, D.toP, PyData.eqv, PyData.eqvAll, D.toPs, Bool.and_assoc]
  rfl
end DE
set_option linter.all false
set_option maxRecDepth 100000
set_option maxHeartbeats 4000000
namespace DE
abbrev RN (e : Nat) := Rg e (fM (vL (e + 2)))
/-- S and T as turnings for N = e + 2 -/
def tnE (e : Nat) : Tn (T3 (RN e)) := T3.tn Rg.xx (e + 2) (by omega) (tN e)
section
variable {G : Type} (g : Tn G)
def Tn.rA (x : A2) : G := g.rho x.a x.b x.c x.d
theorem Tn.rA_mul {x y : A2} (hx : x.det = 1) (hy : y.det = 1) : g.rA (x.mul y) = g.mul (g.rA x) (g.rA y) := g.rho_mul _ _ _ _ _ _ _ _ _ (Nat.le_refl _) hx hy
theorem Tn.rA_one : g.rA A2.one = g.one := by
  show g.rho 1 0 0 1 = _
  rw [g.rho_0]; exact g.tp0
theorem Tn.rA_up (k : Int) : g.rA (A2.stp 0 1 k) = g.tp k := by
  show g.rho 1 k 0 1 = _
  rw [g.rho_0, Int.one_mul]
def sA : A2 := ⟨0, -1, 1, 0⟩
theorem Tn.rA_s : g.rA sA = g.s := by
  have := g.rho_S (a := 1) (b := 0) (c := 0) (d := 1) (by decide)
  rw [g.rho_0, Int.one_mul, g.tp0, g.mul_one] at this
  exact this
theorem Tn.rA_s' : g.rA ⟨0, 1, -1, 0⟩ = g.s := by
  have := g.rho_ng 0 (-1) 1 0
  exact this.trans g.rA_s
theorem Tn.rA_dn (k : Int) : g.rA (A2.stp 1 0 k) = g.mul (g.mul g.s (g.tp (-k))) g.s := by
  have e : A2.stp 1 0 k = (sA.mul (A2.stp 0 1 (-k))).mul ⟨0, 1, -1, 0⟩ := by apply A2.ext' <;> simp [A2.stp, A2.mul, sA]
  rw [e, g.rA_mul (by rw [A2.det_mul, A2.det_stp01]; rfl) (by decide), g.rA_mul (by decide) (A2.det_stp01 _), g.rA_s, g.rA_s', g.rA_up]
theorem Tn.rA_neg (x : A2) : g.rA ⟨-x.a, -x.b, -x.c, -x.d⟩ = g.rA x := g.rho_ng _ _ _ _
theorem Tn.rA_adj {x : A2} (hx : x.det = 1) : g.mul (g.rA x) (g.rA x.adj) = g.one ∧ g.mul (g.rA x.adj) (g.rA x) = g.one := by
  rw [← g.rA_mul hx (A2.det_adj hx), ← g.rA_mul (A2.det_adj hx) hx, A2.mul_adj hx, A2.adj_mul hx, g.rA_one]
  exact ⟨rfl, rfl⟩
/-- a step of two rows: the upper one (0, 1), or (1, 0) -/
def St2 := Bool × Int
def St2.A (s : Bool × Int) : A2 := if s.1 then A2.stp 0 1 s.2 else A2.stp 1 0 s.2
def St2.D (s : Bool × Int) : DE.D := if s.1 then .tup [.int 0, .int 1, .int s.2] else .tup [.int 1, .int 0, .int s.2]
theorem St2.det (s : Bool × Int) : (St2.A s).det = 1 := by unfold St2.A; split; exact A2.det_stp01 _; exact A2.det_stp10 _
def wA : List (Bool × Int) → A2
  | [] => A2.one
  | s :: w => (St2.A s).mul (wA w)
theorem wA_det : ∀ w, (wA w).det = 1
  | [] => rfl
  | s :: w => by show ((St2.A s).mul (wA w)).det = 1; rw [A2.det_mul, St2.det, wA_det w]; rfl
theorem wA_app : ∀ v w, wA (v ++ w) = (wA v).mul (wA w)
  | [], w => (A2.one_mul _).symm
  | s :: v, w => by show (St2.A s).mul (wA (v ++ w)) = ((St2.A s).mul (wA v)).mul (wA w); rw [wA_app v w, A2.mul_assoc]
end
/-! ### mirrors for steps -/
inductive Mi | a | b | c
def Mi.int : Mi → Int | .a => 0 | .b => 1 | .c => 2
def Mi.T {α : Type} [Lean.Grind.CommRing α] (x : α) : Mi → T3 α | .a => T3.ma | .b => T3.mb x | .c => T3.mc x
def prodM {α : Type} [Lean.Grind.CommRing α] (x : α) : List Mi → T3 α
  | [] => T3.one
  | k :: ks => (k.T x).mul (prodM x ks)
theorem prodM_app {α : Type} [Lean.Grind.CommRing α] (x : α) : ∀ (k l : List Mi), prodM x (k ++ l) = (prodM x k).mul (prodM x l)
  | [], l => (T3.one_mul _).symm
  | k :: ks, l => by
    show (k.T x).mul (prodM x (ks ++ l)) = ((k.T x).mul (prodM x ks)).mul (prodM x l)
    rw [prodM_app x ks l, T3.assoc]
section
variable {α : Type} [Lean.Grind.CommRing α] (x : α)
theorem pw_one (t : T3 α) : T3.pw t 1 = t := T3.one_mul t
theorem pw_l (t : T3 α) (n : Nat) : T3.pw t (n + 1) = t.mul (T3.pw t n) := by
  rw [Nat.add_comm, T3.pw_add, pw_one]
theorem prodM_cb : ∀ n, prodM x (List.replicate n [Mi.c, Mi.b]).flatten = T3.pw ((T3.mc x).mul (T3.mb x)) n
  | 0 => rfl
  | n + 1 => by
    rw [List.replicate_succ, List.flatten_cons, prodM_app, prodM_cb n, pw_l]
    congr 1
    show (T3.mc x).mul ((T3.mb x).mul T3.one) = _
    rw [T3.mul_one]
theorem prodM_bc : ∀ n, prodM x (List.replicate n [Mi.b, Mi.c]).flatten = T3.pw ((T3.mb x).mul (T3.mc x)) n
  | 0 => rfl
  | n + 1 => by
    rw [List.replicate_succ, List.flatten_cons, prodM_app, prodM_bc n, pw_l]
    congr 1
    show (T3.mb x).mul ((T3.mc x).mul T3.one) = _
    rw [T3.mul_one]
theorem bc_cb : ((T3.mb x).mul (T3.mc x)).mul ((T3.mc x).mul (T3.mb x)) = T3.one := by
  rw [T3.assoc, ← T3.assoc (T3.mc x), T3.cc, T3.one_mul, T3.bb]
theorem pw_bc_cb : ∀ n, (T3.pw ((T3.mb x).mul (T3.mc x)) n).mul (T3.pw ((T3.mc x).mul (T3.mb x)) n) = T3.one
  | 0 => T3.one_mul _
  | n + 1 => by
    rw [pw_l ((T3.mc x).mul (T3.mb x)) n]
    show ((T3.pw _ n).mul ((T3.mb x).mul (T3.mc x))).mul (((T3.mc x).mul (T3.mb x)).mul _) = _
    rw [T3.assoc, ← T3.assoc ((T3.mb x).mul (T3.mc x)), bc_cb, T3.one_mul, pw_bc_cb n]
theorem pw_back {N r : Nat} (h : r ≤ N) (hN : T3.pw ((T3.mc x).mul (T3.mb x)) N = T3.one) : T3.pw ((T3.mb x).mul (T3.mc x)) (N - r) = T3.pw ((T3.mc x).mul (T3.mb x)) r := by
  have h1 := pw_bc_cb x (N - r)
  have h2 : (T3.pw ((T3.mc x).mul (T3.mb x)) (N - r)).mul (T3.pw ((T3.mc x).mul (T3.mb x)) r) = T3.one := by rw [← T3.pw_add, Nat.sub_add_cancel h, hN]
  calc T3.pw ((T3.mb x).mul (T3.mc x)) (N - r) = (T3.pw ((T3.mb x).mul (T3.mc x)) (N - r)).mul ((T3.pw ((T3.mc x).mul (T3.mb x)) (N - r)).mul (T3.pw ((T3.mc x).mul (T3.mb x)) r)) := by rw [h2, T3.mul_one]
    _ = _ := by rw [← T3.assoc, h1, T3.one_mul]
end
/-- the places of a power of T -/
def trn (N : Nat) (k : Int) : List Mi := if 2 * (k % (N : Int)).toNat ≤ N then (List.replicate (k % (N : Int)).toNat [Mi.c, Mi.b]).flatten else (List.replicate (N - (k % (N : Int)).toNat) [Mi.b, Mi.c]).flatten
theorem rep_len {α : Type} (a b : α) : ∀ n, (List.replicate n [a, b]).flatten.length = 2 * n
  | 0 => rfl
  | n + 1 => by rw [List.replicate_succ, List.flatten_cons, List.length_append, rep_len a b n]; simp; omega
theorem trn_len {N : Nat} (h : 0 < N) (k : Int) : (trn N k).length ≤ 2 * N := by
  have h1 := Int.emod_lt_of_pos k (show (0 : Int) < N by omega)
  have h2 := Int.emod_nonneg k (show (N : Int) ≠ 0 by omega)
  unfold trn
  split <;> rw [rep_len] <;> omega
theorem trn_prod (e : Nat) (k : Int) : prodM (Rg.xx : RN e) (trn (e + 2) k) = (tnE e).tp k := by
  have h1 := Int.emod_lt_of_pos k (show (0 : Int) < ((e + 2 : Nat) : Int) by omega)
  have h2 := Int.emod_nonneg k (show ((e + 2 : Nat) : Int) ≠ 0 by omega)
  show _ = T3.pw ((T3.mc Rg.xx).mul (T3.mb Rg.xx)) (k % ((e + 2 : Nat) : Int)).toNat
  unfold trn
  split
  · exact prodM_cb _ _
  · rw [prodM_bc]
    exact pw_back _ (by omega) (tN e)
/-- the places of a word -/
def plc (N : Nat) : List (Bool × Int) → List Mi
  | [] => []
  | s :: w => (if s.1 then trn N s.2 else [.a, .c] ++ trn N (-s.2) ++ [.a, .c]) ++ plc N w
theorem ac_prod (e : Nat) : prodM (Rg.xx : RN e) [.a, .c] = (tnE e).s := by
  show T3.ma.mul ((T3.mc Rg.xx).mul T3.one) = T3.ma.mul (T3.mc Rg.xx)
  rw [T3.mul_one]
theorem plc_prod (e : Nat) : ∀ w, prodM (Rg.xx : RN e) (plc (e + 2) w) = (tnE e).rA (wA w)
  | [] => ((tnE e).rA_one).symm
  | s :: w => by
    show prodM (Rg.xx : RN e) ((if s.1 then trn (e + 2) s.2 else [.a, .c] ++ trn (e + 2) (-s.2) ++ [.a, .c]) ++ plc (e + 2) w) = (tnE e).rA ((St2.A s).mul (wA w))
    rw [prodM_app, plc_prod e w, (tnE e).rA_mul (St2.det s) (wA_det w)]
    show T3.mul _ _ = T3.mul _ _
    congr 1
    unfold St2.A
    split
    · rw [trn_prod, (tnE e).rA_up]
    · rw [prodM_app, prodM_app, trn_prod, ac_prod, (tnE e).rA_dn]; rfl
theorem plc_len {N : Nat} (h : 0 < N) : ∀ w, (plc N w).length ≤ (2 * N + 4) * w.length
  | [] => Nat.le_refl _
  | s :: w => by
    have h1 := trn_len h s.2
    have h2 := trn_len h (-s.2)
    have h3 := plc_len h w
    show ((if s.1 then trn N s.2 else [.a, .c] ++ trn N (-s.2) ++ [.a, .c]) ++ plc N w).length ≤ _
    rw [List.length_append, List.length_cons, Nat.mul_succ]
    split
    · omega
    · simp only [List.length_append, List.length_cons, List.length_nil]; omega
end DE
set_option linter.all false
set_option maxRecDepth 100000
set_option maxHeartbeats 4000000
namespace DE
open PySem PySem.Spec PyProof.Rows L2
/-! ### the defs of the text -/
def topS (i : Nat) : Stmt := PySem.Challenge.pw_rowsteps_k24_n_to_five.main.body.getD i (.Pass ⟨0, 0, 0, 0⟩)
def c_OTHERS : D := (.tup [(.tup [(.int (1)), (.int (2))]), (.tup [(.int (2)), (.int (0))]), (.tup [(.int (0)), (.int (1))])])
def c_MOST_modulo : D := (.int (60))
def c_LEAST : D := (.int (2))
def c_MOST_turning : D := (.int (30))
def c_MOST_POLYNOMIAL : D := (.int (60))
def c_A : D := (.int (0))
def c_B : D := (.int (1))
def c_C : D := (.int (2))
abbrev sd_is_number : Stmt := topS 6
def bd_is_number : List S := [.ret (.and (.isi .int (.var 0)) (.nt (.isi .bool (.var 0))))]
def gd_is_number : G := { N := ["value"], fns := [], gls := [] }
def fd_is_number : Fn := defF gd_is_number 5000 1 bd_is_number
abbrev sd_is_row : Stmt := topS 7
def bd_is_row : List S := [.ret (.and (.isi .tuple (.var 0)) (.and (.cmp .Eq (.blt .len [(.var 0)]) (.var 1)) (.blt .all [(.lc (.nm 2) .seq [(.var 0)] [] (.call 0 [(.var 2)]) [("item", 2)])])))]
def gd_is_row : G := { N := ["value", "n", "item"], fns := [⟨"is_number", 1, fd_is_number⟩], gls := [] }
def fd_is_row : Fn := defF gd_is_row 5000 2 bd_is_row
abbrev sd_has_shape : Stmt := topS 8
def bd_has_shape : List S := [.ite (.or (.nt (.isi .tuple (.var 0))) (.cmp .NotIn (.blt .len [(.var 0)]) (.tup [(.cst (.int (2))), (.cst (.int (3)))]))) [.ret (.cst (.bl false))] [], .asg 1 false (.blt .len [(.var 0)]), .ret (.blt .all [(.lc (.nm 2) .seq [(.var 0)] [] (.call 0 [(.var 2), (.var 1)]) [("row", 2)])])]
def gd_has_shape : G := { N := ["value", "n", "row"], fns := [⟨"is_row", 2, fd_is_row⟩], gls := [] }
def fd_has_shape : Fn := defF gd_has_shape 5000 1 bd_has_shape
abbrev sd_cofactor : Stmt := topS 10
def bd_cofactor : List S := [.pat (.tp [(.nm 3), (.nm 4)]) false (.idx (.glo 0) (.var 1)), .pat (.tp [(.nm 5), (.nm 6)]) false (.idx (.glo 0) (.var 2)), .ret (.bin .Sub (.bin .Mult (.idx (.idx (.var 0) (.var 3)) (.var 5)) (.idx (.idx (.var 0) (.var 4)) (.var 6))) (.bin .Mult (.idx (.idx (.var 0) (.var 3)) (.var 6)) (.idx (.idx (.var 0) (.var 4)) (.var 5))))]
def gd_cofactor : G := { N := ["rows", "i", "j", "up", "down", "left", "right"], fns := [], gls := [("OTHERS", c_OTHERS)] }
def fd_cofactor : Fn := defF gd_cofactor 5000 3 bd_cofactor
abbrev sd_determinant : Stmt := topS 11
def bd_determinant : List S := [.ite (.cmp .Eq (.blt .len [(.var 0)]) (.cst (.int (2)))) [.ret (.bin .Sub (.bin .Mult (.idx (.idx (.var 0) (.cst (.int (0)))) (.cst (.int (0)))) (.idx (.idx (.var 0) (.cst (.int (1)))) (.cst (.int (1))))) (.bin .Mult (.idx (.idx (.var 0) (.cst (.int (0)))) (.cst (.int (1)))) (.idx (.idx (.var 0) (.cst (.int (1)))) (.cst (.int (0))))))] [], .ret (.blt .sum [(.lc (.nm 1) .rng1 [(.cst (.int (3)))] [] (.bin .Mult (.idx (.idx (.var 0) (.cst (.int (0)))) (.var 1)) (.call 0 [(.var 0), (.cst (.int (0))), (.var 1)])) [("j", 1)])])]
def gd_determinant : G := { N := ["rows", "j"], fns := [⟨"cofactor", 3, fd_cofactor⟩], gls := [] }
def fd_determinant : Fn := defF gd_determinant 5000 1 bd_determinant
abbrev sd_is_table : Stmt := topS 9
def bd_is_table : List S := [.ret (.and (.call 0 [(.var 0)]) (.cmp .Eq (.call 1 [(.var 0)]) (.cst (.int (1)))))]
def gd_is_table : G := { N := ["value"], fns := [⟨"has_shape", 1, fd_has_shape⟩, ⟨"determinant", 1, fd_determinant⟩], gls := [] }
def fd_is_table : Fn := defF gd_is_table 5000 1 bd_is_table
abbrev sd_check_table : Stmt := topS 12
def bd_check_table : List S := [.ite (.nt (.call 0 [(.var 0)])) [.rai "BadTable"] []]
def gd_check_table : G := { N := ["value"], fns := [⟨"is_table", 1, fd_is_table⟩], gls := [], exs := ["BadTable"] }
def fd_check_table : Fn := defF gd_check_table 5000 1 bd_check_table
abbrev sd_check_table_of : Stmt := topS 13
def bd_check_table_of : List S := [.exp (.call 0 [(.var 1)]), .ite (.cmp .NotEq (.blt .len [(.var 1)]) (.var 0)) [.rai "BadTable"] []]
def gd_check_table_of : G := { N := ["n", "value"], fns := [⟨"check_table", 1, fd_check_table⟩], gls := [], exs := ["BadTable"] }
def fd_check_table_of : Fn := defF gd_check_table_of 5000 2 bd_check_table_of
abbrev sd_check_number : Stmt := topS 14
def bd_check_number : List S := [.ite (.or (.nt (.call 0 [(.var 0)])) (.or (.cmp .Lt (.var 0) (.var 1)) (.cmp .Gt (.var 0) (.var 2)))) [.rai "BadNumber"] []]
def gd_check_number : G := { N := ["value", "low", "high"], fns := [⟨"is_number", 1, fd_is_number⟩], gls := [], exs := ["BadNumber"] }
def fd_check_number : Fn := defF gd_check_number 5000 3 bd_check_number
abbrev sd_check_size : Stmt := topS 15
def bd_check_size : List S := [.exp (.call 0 [(.var 0), (.cst (.int (2))), (.cst (.int (3)))])]
def gd_check_size : G := { N := ["n"], fns := [⟨"check_number", 3, fd_check_number⟩], gls := [] }
def fd_check_size : Fn := defF gd_check_size 5000 1 bd_check_size
abbrev sd_identity : Stmt := topS 16
def bd_identity : List S := [.exp (.call 0 [(.var 0)]), .ret (.blt .tuple [(.lc (.nm 1) .rng1 [(.var 0)] [] (.blt .tuple [(.lc (.nm 2) .rng1 [(.var 0)] [] (.ite (.cmp .Eq (.var 1) (.var 2)) (.cst (.int (1))) (.cst (.int (0)))) [("j", 2)])]) [("i", 1)])])]
def gd_identity : G := { N := ["n", "i", "j"], fns := [⟨"check_size", 1, fd_check_size⟩], gls := [] }
def fd_identity : Fn := defF gd_identity 5000 1 bd_identity
abbrev sd_Clearing_init : Stmt := inClass (topS 18) 0
def bd_Clearing_init : List S := [.seta 0 "rows" 1 false (.blt .list [(.var 1)]), .seta 0 "word" 1 false (.lst [])]
def gd_Clearing_init : G := { N := ["self", "table"], fns := [], gls := [], cls := [("Clearing", ["rows", "word"])] }
def fd_Clearing_init : MFn := methF gd_Clearing_init 5000 1 bd_Clearing_init
abbrev sd_Clearing_take : Stmt := inClass (topS 18) 1
def bd_Clearing_take : List S := [.ite (.cmp .Eq (.var 3) (.cst (.int (0)))) [.rtm] [], .set (.fl 0 "rows") true (.var 1) (.blt .tuple [(.lc (.tp [(.nm 4), (.nm 5)]) .zip [(.idx (.fld (.var 0) "rows") (.var 1)), (.idx (.fld (.var 0) "rows") (.var 2))] [] (.bin .Sub (.var 4) (.bin .Mult (.var 3) (.var 5))) [("item", 4), ("other", 5)])]), .app (.fl 0 "word") 0 false (.tup [(.var 1), (.var 2), (.var 3)])]
def gd_Clearing_take : G := { N := ["self", "i", "j", "k", "item", "other"], fns := [], gls := [], cls := [("Clearing", ["rows", "word"])] }
def fd_Clearing_take : MFn := methF gd_Clearing_take 5000 3 bd_Clearing_take
abbrev sd_Clearing_clear_item : Stmt := inClass (topS 18) 2
def bd_Clearing_clear_item : List S := [.whl (.cmp .NotEq (.idx (.idx (.fld (.var 0) "rows") (.var 1)) (.var 2)) (.cst (.int (0)))) [.mcl 0 0 true [(.var 2), (.var 1), (.bin .FloorDiv (.idx (.idx (.fld (.var 0) "rows") (.var 2)) (.var 2)) (.idx (.idx (.fld (.var 0) "rows") (.var 1)) (.var 2)))], .ite (.cmp .Eq (.idx (.idx (.fld (.var 0) "rows") (.var 2)) (.var 2)) (.cst (.int (0)))) [.mcl 0 0 false [(.var 2), (.var 1), (.neg (.cst (.int (1))))]] [], .mcl 0 0 true [(.var 1), (.var 2), (.bin .FloorDiv (.idx (.idx (.fld (.var 0) "rows") (.var 1)) (.var 2)) (.idx (.idx (.fld (.var 0) "rows") (.var 2)) (.var 2)))]]]
def gd_Clearing_clear_item : G := { N := ["self", "i", "j"], fns := [], gls := [], cls := [("Clearing", ["rows", "word"])], mks := [⟨"Clearing", "take", 3, fd_Clearing_take⟩] }
def fd_Clearing_clear_item : MFn := methF gd_Clearing_clear_item 5000 2 bd_Clearing_clear_item
abbrev sd_Clearing_clear_below : Stmt := inClass (topS 18) 3
def bd_Clearing_clear_below : List S := [.for (.nm 2) .rng2 true [(.bin .Add (.var 1) (.cst (.int (1)))), (.blt .len [(.fld (.var 0) "rows")])] [.mcl 0 0 false [(.var 2), (.var 1)]], .ite (.cmp .Eq (.idx (.idx (.fld (.var 0) "rows") (.var 1)) (.var 1)) (.neg (.cst (.int (1))))) [.mcl 1 0 false [(.bin .Add (.var 1) (.cst (.int (1)))), (.var 1), (.cst (.int (1)))], .mcl 1 0 false [(.var 1), (.bin .Add (.var 1) (.cst (.int (1)))), (.neg (.cst (.int (2))))], .mcl 1 0 false [(.bin .Add (.var 1) (.cst (.int (1)))), (.var 1), (.cst (.int (1)))]] []]
def gd_Clearing_clear_below : G := { N := ["self", "j", "i"], fns := [], gls := [], cls := [("Clearing", ["rows", "word"])], mks := [⟨"Clearing", "clear_item", 2, fd_Clearing_clear_item⟩, ⟨"Clearing", "take", 3, fd_Clearing_take⟩] }
def fd_Clearing_clear_below : MFn := methF gd_Clearing_clear_below 5000 1 bd_Clearing_clear_below
abbrev sd_Clearing_clear_above : Stmt := inClass (topS 18) 4
def bd_Clearing_clear_above : List S := [.for (.nm 2) .rng1 false [(.var 1)] [.mcl 0 0 true [(.var 2), (.var 1), (.idx (.idx (.fld (.var 0) "rows") (.var 2)) (.var 1))]]]
def gd_Clearing_clear_above : G := { N := ["self", "j", "i"], fns := [], gls := [], cls := [("Clearing", ["rows", "word"])], mks := [⟨"Clearing", "take", 3, fd_Clearing_take⟩] }
def fd_Clearing_clear_above : MFn := methF gd_Clearing_clear_above 5000 1 bd_Clearing_clear_above
abbrev sd_word_of : Stmt := topS 19
def bd_word_of : List S := [.exp (.call 0 [(.var 0)]), .asg 1 false (.blt .len [(.var 0)]), .own 2 1 (.new 0 [(.var 0)]), .for (.nm 3) .rng1 false [(.bin .Sub (.var 1) (.cst (.int (1))))] [.mcl 1 2 false [(.var 3)]], .for (.nm 3) .rng2 false [(.cst (.int (1))), (.var 1)] [.mcl 2 2 false [(.var 3)]], .frz 2, .ret (.fld (.var 2) "word")]
def gd_word_of : G := { N := ["table", "n", "clearing", "j"], fns := [⟨"check_table", 1, fd_check_table⟩], gls := [], cls := [("Clearing", ["rows", "word"])], mks := [⟨"Clearing", "__init__", 1, fd_Clearing_init⟩, ⟨"Clearing", "clear_below", 1, fd_Clearing_clear_below⟩, ⟨"Clearing", "clear_above", 1, fd_Clearing_clear_above⟩] }
def fd_word_of : Fn := defF gd_word_of 5000 1 bd_word_of
abbrev sd_reduced : Stmt := topS 22
def bd_reduced : List S := [.ret (.blt .tuple [(.lc (.nm 2) .seq [(.var 1)] [] (.blt .tuple [(.lc (.nm 3) .seq [(.var 2)] [] (.bin .Mod (.var 3) (.var 0)) [("item", 3)])]) [("row", 2)])])]
def gd_reduced : G := { N := ["N", "rows", "row", "item"], fns := [], gls := [] }
def fd_reduced : Fn := defF gd_reduced 5000 2 bd_reduced
abbrev sd_is_alike : Stmt := topS 23
def bd_is_alike : List S := [.exp (.call 0 [(.var 0), (.cst (.int (1))), (.glo 0)]), .exp (.call 1 [(.var 1)]), .exp (.call 2 [(.blt .len [(.var 1)]), (.var 2)]), .ret (.cmp .Eq (.call 3 [(.var 0), (.var 1)]) (.call 3 [(.var 0), (.var 2)]))]
def gd_is_alike : G := { N := ["N", "first", "second"], fns := [⟨"check_number", 3, fd_check_number⟩, ⟨"check_table", 1, fd_check_table⟩, ⟨"check_table_of", 2, fd_check_table_of⟩, ⟨"reduced", 2, fd_reduced⟩], gls := [("MOST_modulo", c_MOST_modulo)] }
def fd_is_alike : Fn := defF gd_is_alike 5000 3 bd_is_alike
abbrev sd_check_order : Stmt := topS 31
def bd_check_order : List S := [.exp (.call 0 [(.var 0), (.glo 0), (.glo 1)])]
def gd_check_order : G := { N := ["N"], fns := [⟨"check_number", 3, fd_check_number⟩], gls := [("LEAST", c_LEAST), ("MOST_turning", c_MOST_turning)] }
def fd_check_order : Fn := defF gd_check_order 5000 1 bd_check_order
abbrev sd_v_polynomial : Stmt := topS 32
def bd_v_polynomial : List S := [.exp (.call 0 [(.var 0), (.cst (.int (0))), (.glo 0)]), .par 2 3 false (.lst []) (.lst [(.cst (.int (1)))]), .for (.nm 1) .rng1 false [(.var 0)] [.own 4 1 (.lsx [(.cst (.int (0))), (.var 3)]), .for (.tp [(.nm 5), (.nm 6)]) .enum false [(.var 2)] [.augL (.sl 4) .Sub (.var 5) (.var 6)], .frz 4, .par 2 3 false (.var 3) (.var 4)], .ret (.blt .tuple [(.var 2)])]
def gd_v_polynomial : G := { N := ["k", "_", "now", "then", "following", "at", "item"], fns := [⟨"check_number", 3, fd_check_number⟩], gls := [("MOST_POLYNOMIAL", c_MOST_POLYNOMIAL)] }
def fd_v_polynomial : Fn := defF gd_v_polynomial 5000 1 bd_v_polynomial
abbrev sd_lowered : Stmt := topS 33
def bd_lowered : List S := [.own 2 1 (.blt .list [(.var 1)]), .asg 3 false (.bin .Sub (.blt .len [(.var 0)]) (.cst (.int (1)))), .whl (.cmp .Gt (.blt .len [(.var 2)]) (.var 3)) [.pop 4 (.sl 2), .for (.nm 5) .rng1 false [(.var 3)] [.augL (.sl 2) .Sub (.bin .Add (.bin .Sub (.blt .len [(.var 2)]) (.var 3)) (.var 5)) (.bin .Mult (.var 4) (.idx (.var 0) (.var 5)))]], .frz 2, .ret (.blt .tuple [(.var 2)])]
def gd_lowered : G := { N := ["modulus", "items", "left", "degree", "top", "at"], fns := [], gls := [] }
def fd_lowered : Fn := defF gd_lowered 5000 2 bd_lowered
abbrev sd_poly_sum : Stmt := topS 34
def bd_poly_sum : List S := [.ret (.blt .tuple [(.lc (.tp [(.nm 2), (.nm 3)]) .zip [(.var 0), (.var 1)] [] (.bin .Add (.var 2) (.var 3)) [("item", 2), ("other", 3)])])]
def gd_poly_sum : G := { N := ["p", "q", "item", "other"], fns := [], gls := [] }
def fd_poly_sum : Fn := defF gd_poly_sum 5000 2 bd_poly_sum
abbrev sd_opposite : Stmt := topS 35
def bd_opposite : List S := [.ret (.blt .tuple [(.lc (.nm 1) .seq [(.var 0)] [] (.neg (.var 1)) [("item", 1)])])]
def gd_opposite : G := { N := ["p", "item"], fns := [], gls := [] }
def fd_opposite : Fn := defF gd_opposite 5000 1 bd_opposite
abbrev sd_times_x : Stmt := topS 36
def bd_times_x : List S := [.ret (.call 0 [(.var 0), (.lsx [(.cst (.int (0))), (.var 1)])])]
def gd_times_x : G := { N := ["modulus", "p"], fns := [⟨"lowered", 2, fd_lowered⟩], gls := [] }
def fd_times_x : Fn := defF gd_times_x 5000 2 bd_times_x
abbrev sd_constant : Stmt := topS 37
def bd_constant : List S := [.ret (.bin .Add (.tup [(.var 1)]) (.bin .Mult (.tup [(.cst (.int (0)))]) (.bin .Sub (.var 0) (.cst (.int (2))))))]
def gd_constant : G := { N := ["N", "number"], fns := [], gls := [] }
def fd_constant : Fn := defF gd_constant 5000 2 bd_constant
abbrev sd_unit_turning : Stmt := topS 38
def bd_unit_turning : List S := [.exp (.call 0 [(.var 0)]), .ret (.blt .tuple [(.lc (.nm 1) .seq [(.call 1 [(.cst (.int (3)))])] [] (.blt .tuple [(.lc (.nm 2) .seq [(.var 1)] [] (.call 2 [(.var 0), (.var 2)]) [("number", 2)])]) [("row", 1)])])]
def gd_unit_turning : G := { N := ["N", "row", "number"], fns := [⟨"check_order", 1, fd_check_order⟩, ⟨"identity", 1, fd_identity⟩, ⟨"constant", 2, fd_constant⟩], gls := [] }
def fd_unit_turning : Fn := defF gd_unit_turning 5000 1 bd_unit_turning
abbrev sd_mirrored : Stmt := topS 39
def bd_mirrored : List S := [.pat (.tp [(.nm 3), (.nm 4), (.nm 5)]) false (.var 1), .ite (.cmp .Eq (.var 2) (.glo 0)) [.ret (.tup [(.call 0 [(.var 3)]), (.call 1 [(.var 3), (.var 4)]), (.var 5)])] [], .ite (.cmp .Eq (.var 2) (.glo 1)) [.ret (.tup [(.call 1 [(.var 3), (.var 4)]), (.call 0 [(.var 4)]), (.call 1 [(.var 5), (.call 2 [(.var 0), (.var 4)])])])] [], .ret (.tup [(.var 3), (.call 1 [(.var 4), (.call 2 [(.var 0), (.var 5)])]), (.call 0 [(.var 5)])])]
def gd_mirrored : G := { N := ["modulus", "row", "place", "first", "second", "third"], fns := [⟨"opposite", 1, fd_opposite⟩, ⟨"poly_sum", 2, fd_poly_sum⟩, ⟨"times_x", 2, fd_times_x⟩], gls := [("A", c_A), ("B", c_B)] }
def fd_mirrored : Fn := defF gd_mirrored 5000 3 bd_mirrored
abbrev sd_mirrored_along : Stmt := topS 40
def bd_mirrored_along : List S := [.for (.nm 3) .seq false [(.var 2)] [.asg 1 false (.call 0 [(.var 0), (.var 1), (.var 3)])], .ret (.var 1)]
def gd_mirrored_along : G := { N := ["modulus", "row", "places", "place"], fns := [⟨"mirrored", 3, fd_mirrored⟩], gls := [] }
def fd_mirrored_along : Fn := defF gd_mirrored_along 5000 3 bd_mirrored_along
abbrev sd_product_of_mirrors : Stmt := topS 41
def bd_product_of_mirrors : List S := [.asg 2 false (.call 0 [(.var 0)]), .ret (.blt .tuple [(.lc (.nm 3) .seq [(.call 1 [(.var 0)])] [] (.call 2 [(.var 2), (.var 3), (.var 1)]) [("row", 3)])])]
def gd_product_of_mirrors : G := { N := ["N", "places", "modulus", "row"], fns := [⟨"v_polynomial", 1, fd_v_polynomial⟩, ⟨"unit_turning", 1, fd_unit_turning⟩, ⟨"mirrored_along", 3, fd_mirrored_along⟩], gls := [] }
def fd_product_of_mirrors : Fn := defF gd_product_of_mirrors 5000 2 bd_product_of_mirrors
abbrev sd_turns : Stmt := topS 42
def bd_turns : List S := [.asg 1 false (.bin .Mod (.var 1) (.var 0)), .ret (.ite (.cmp .LtE (.bin .Mult (.cst (.int (2))) (.var 1)) (.var 0)) (.bin .Mult (.lst [(.glo 0), (.glo 1)]) (.var 1)) (.bin .Mult (.lst [(.glo 1), (.glo 0)]) (.bin .Sub (.var 0) (.var 1))))]
def gd_turns : G := { N := ["N", "k"], fns := [], gls := [("C", c_C), ("B", c_B)] }
def fd_turns : Fn := defF gd_turns 5000 2 bd_turns
abbrev sd_places_of : Stmt := topS 43
def bd_places_of : List S := [.own 2 1 (.lst []), .for (.tp [(.nm 3), (.nm 4), (.nm 5)]) .seq false [(.call 0 [(.var 1)])] [.ite (.cmp .Eq (.var 3) (.cst (.int (0)))) [.ext (.sl 2) false (.call 1 [(.var 0), (.var 5)])] [.ext (.sl 2) false (.bin .Add (.bin .Add (.lst [(.glo 0), (.glo 1)]) (.call 1 [(.var 0), (.neg (.var 5))])) (.lst [(.glo 0), (.glo 1)]))]], .frz 2, .ret (.var 2)]
def gd_places_of : G := { N := ["N", "table", "places", "i", "_", "k"], fns := [⟨"word_of", 1, fd_word_of⟩, ⟨"turns", 2, fd_turns⟩], gls := [("A", c_A), ("C", c_C)] }
def fd_places_of : Fn := defF gd_places_of 5000 2 bd_places_of
abbrev sd_turned : Stmt := topS 44
def bd_turned : List S := [.exp (.call 0 [(.var 0)]), .exp (.call 1 [(.cst (.int (2))), (.var 1)]), .ret (.call 2 [(.var 0), (.call 3 [(.var 0), (.var 1)])])]
def gd_turned : G := { N := ["N", "table"], fns := [⟨"check_order", 1, fd_check_order⟩, ⟨"check_table_of", 2, fd_check_table_of⟩, ⟨"product_of_mirrors", 2, fd_product_of_mirrors⟩, ⟨"places_of", 2, fd_places_of⟩], gls := [] }
def fd_turned : Fn := defF gd_turned 5000 2 bd_turned
abbrev sd_is_made : Stmt := topS 45
def bd_is_made : List S := [.exp (.call 0 [(.var 0)]), .exp (.call 1 [(.cst (.int (2))), (.var 1)]), .ret (.and (.call 2 [(.var 0), (.var 1), (.call 3 [(.cst (.int (2)))])]) (.cmp .Eq (.call 4 [(.var 0), (.var 1)]) (.call 5 [(.var 0)])))]
def gd_is_made : G := { N := ["N", "table"], fns := [⟨"check_order", 1, fd_check_order⟩, ⟨"check_table_of", 2, fd_check_table_of⟩, ⟨"is_alike", 3, fd_is_alike⟩, ⟨"identity", 1, fd_identity⟩, ⟨"turned", 2, fd_turned⟩, ⟨"unit_turning", 1, fd_unit_turning⟩], gls := [] }
def fd_is_made : Fn := defF gd_is_made 5000 2 bd_is_made
abbrev sd_law_draws : Stmt := topS 47
def bd_law_draws : List S := [.own 2 1 (.lst []), .asg 3 false (.cst (.int (7))), .for (.nm 4) .seq false [(.slc (.var 0) none (some (.cst (.int (63)))))] [.asg 6 false (.blt .abs [(.var 4)]), .asg 3 false (.bin .Mod (.blt .int [(.bin .Add (.bin .Add (.bin .Mult (.var 3) (.cst (.int (48271)))) (.var 6)) (.cst (.int (11))))]) (.cst (.int (2147483647)))), .ite (.cmp .GtE (.var 6) (.bin .Pow (.cst (.int (10))) (.cst (.int (18))))) [.for (.nm 5) .rng1 false [(.cst (.int (60)))] [.ite (.cmp .Gt (.var 6) (.cst (.int (0)))) [.app (.sl 2) 0 false (.bin .Mod (.blt .int [(.var 6)]) (.cst (.int (1009)))), .asg 6 false (.bin .FloorDiv (.var 6) (.cst (.int (1009))))] []]] [.app (.sl 2) 0 false (.bin .Mod (.bin .FloorDiv (.blt .int [(.bin .Add (.bin .Mult (.var 3) (.cst (.int (16807)))) (.cst (.int (5))))]) (.cst (.int (3)))) (.cst (.int (65521))))]], .for (.nm 5) .rng1 false [(.var 1)] [.ite (.cmp .Lt (.blt .len [(.var 2)]) (.var 1)) [.asg 3 false (.bin .Mod (.blt .int [(.bin .Add (.bin .Add (.bin .Mult (.var 3) (.cst (.int (69621)))) (.var 5)) (.cst (.int (1))))]) (.cst (.int (2147483647)))), .app (.sl 2) 0 false (.bin .Mod (.bin .FloorDiv (.blt .int [(.var 3)]) (.cst (.int (7)))) (.cst (.int (65521))))] []], .frz 2, .ret (.slc (.var 2) none (some (.var 1)))]
def gd_law_draws : G := { N := ["script", "many", "draws", "seed", "cell", "k", "number"], fns := [], gls := [] }
def fd_law_draws : Fn := defF gd_law_draws 5000 2 bd_law_draws
abbrev sd_law_mul : Stmt := topS 48
def bd_law_mul : List S := [.pat (.tp [(.tp [(.nm 2), (.nm 3)]), (.tp [(.nm 4), (.nm 5)])]) false (.var 0), .pat (.tp [(.tp [(.nm 6), (.nm 7)]), (.tp [(.nm 8), (.nm 9)])]) false (.var 1), .ret (.tup [(.tup [(.bin .Add (.bin .Mult (.var 2) (.var 6)) (.bin .Mult (.var 3) (.var 8))), (.bin .Add (.bin .Mult (.var 2) (.var 7)) (.bin .Mult (.var 3) (.var 9)))]), (.tup [(.bin .Add (.bin .Mult (.var 4) (.var 6)) (.bin .Mult (.var 5) (.var 8))), (.bin .Add (.bin .Mult (.var 4) (.var 7)) (.bin .Mult (.var 5) (.var 9)))])])]
def gd_law_mul : G := { N := ["first", "second", "a", "b", "c", "d", "e", "f", "g", "h"], fns := [], gls := [] }
def fd_law_mul : Fn := defF gd_law_mul 5000 2 bd_law_mul
abbrev sd_law_back : Stmt := topS 49
def bd_law_back : List S := [.ret (.tup [(.tup [(.idx (.idx (.var 0) (.cst (.int (1)))) (.cst (.int (1)))), (.neg (.idx (.idx (.var 0) (.cst (.int (0)))) (.cst (.int (1)))))]), (.tup [(.neg (.idx (.idx (.var 0) (.cst (.int (1)))) (.cst (.int (0))))), (.idx (.idx (.var 0) (.cst (.int (0)))) (.cst (.int (0))))])])]
def gd_law_back : G := { N := ["table"], fns := [], gls := [] }
def fd_law_back : Fn := defF gd_law_back 5000 1 bd_law_back
abbrev sd_law_word : Stmt := topS 50
def bd_law_word : List S := [.own 2 1 (.lst []), .for (.nm 3) .rng1 false [(.var 1)] [.app (.sl 2) 0 false (.idx (.cst (.str "stuttuus")) (.bin .Mod (.blt .int [(.bin .FloorDiv (.idx (.var 0) (.bin .Mod (.blt .int [(.var 3)]) (.blt .len [(.var 0)]))) (.bin .Add (.var 3) (.cst (.int (1)))))]) (.cst (.int (8)))))], .frz 2, .ret (.var 2)]
def gd_law_word : G := { N := ["draws", "many", "letters", "k"], fns := [], gls := [] }
def fd_law_word : Fn := defF gd_law_word 5000 2 bd_law_word
abbrev sd_law_table : Stmt := topS 51
def bd_law_table : List S := [.asg 1 false (.dsp [.inr "s", .inr "t", .inr "u"] [(.tup [(.tup [(.cst (.int (0))), (.neg (.cst (.int (1))))]), (.tup [(.cst (.int (1))), (.cst (.int (0)))])]), (.tup [(.tup [(.cst (.int (1))), (.cst (.int (1)))]), (.tup [(.cst (.int (0))), (.cst (.int (1)))])]), (.tup [(.tup [(.cst (.int (1))), (.neg (.cst (.int (1))))]), (.tup [(.cst (.int (0))), (.cst (.int (1)))])])]), .asg 2 false (.tup [(.tup [(.cst (.int (1))), (.cst (.int (0)))]), (.tup [(.cst (.int (0))), (.cst (.int (1)))])]), .for (.nm 3) .seq false [(.var 0)] [.asg 2 false (.call 0 [(.var 2), (.idx (.var 1) (.var 3))])], .ret (.var 2)]
def gd_law_table : G := { N := ["word", "tables", "found", "letter"], fns := [⟨"_law_mul", 2, fd_law_mul⟩], gls := [] }
def fd_law_table : Fn := defF gd_law_table 5000 1 bd_law_table
abbrev sd_law_is_one : Stmt := topS 52
def bd_law_is_one : List S := [.ret (.and (.cmp .Eq (.bin .Mod (.blt .int [(.bin .Sub (.idx (.idx (.var 1) (.cst (.int (0)))) (.cst (.int (0)))) (.cst (.int (1))))]) (.var 0)) (.cst (.int (0)))) (.and (.cmp .Eq (.bin .Mod (.blt .int [(.bin .Sub (.idx (.idx (.var 1) (.cst (.int (1)))) (.cst (.int (1)))) (.cst (.int (1))))]) (.var 0)) (.cst (.int (0)))) (.and (.cmp .Eq (.bin .Mod (.blt .int [(.idx (.idx (.var 1) (.cst (.int (0)))) (.cst (.int (1))))]) (.var 0)) (.cst (.int (0)))) (.cmp .Eq (.bin .Mod (.blt .int [(.idx (.idx (.var 1) (.cst (.int (1)))) (.cst (.int (0))))]) (.var 0)) (.cst (.int (0)))))))]
def gd_law_is_one : G := { N := ["N", "table"], fns := [], gls := [] }
def fd_law_is_one : Fn := defF gd_law_is_one 5000 2 bd_law_is_one
abbrev sd_law_reached : Stmt := topS 53
def bd_law_reached : List S := [.asg 1 false (.tup [(.tup [(.cst (.int (1))), (.cst (.int (0)))]), (.tup [(.cst (.int (0))), (.cst (.int (1)))])]), .own2 3 1 4 1 (.lst [(.tup [(.var 1), (.cst (.str ""))])]) (.dsq (.var 1) (.cst (.str ""))), .for (.nm 2) .rng1 false [(.cst (.int (400)))] [.ite (.cmp .Lt (.var 2) (.blt .len [(.var 3)])) [.pat (.tp [(.nm 6), (.nm 7)]) true (.idx (.var 3) (.var 2)), .for (.nm 5) .seq false [(.lst [(.cst (.str "s")), (.cst (.str "t"))])] [.asg 8 false (.call 0 [(.var 6), (.call 1 [(.lst [(.var 5)])])]), .asg 9 false (.tup [(.tup [(.bin .Mod (.blt .int [(.idx (.idx (.var 8) (.cst (.int (0)))) (.cst (.int (0))))]) (.var 0)), (.bin .Mod (.blt .int [(.idx (.idx (.var 8) (.cst (.int (0)))) (.cst (.int (1))))]) (.var 0))]), (.tup [(.bin .Mod (.blt .int [(.idx (.idx (.var 8) (.cst (.int (1)))) (.cst (.int (0))))]) (.var 0)), (.bin .Mod (.blt .int [(.idx (.idx (.var 8) (.cst (.int (1)))) (.cst (.int (1))))]) (.var 0))])]), .ite (.cmp .NotIn (.var 9) (.var 4)) [.dset (.sl 4) false (.var 9) (.bin .Add (.var 7) (.var 5)), .app (.sl 3) 0 false (.tup [(.var 9), (.bin .Add (.var 7) (.var 5))])] []]] []], .frz 3, .frz 4, .ret (.var 4)]
def gd_law_reached : G := { N := ["N", "one", "at", "found", "known", "letter", "table", "word", "longer", "name"], fns := [⟨"_law_mul", 2, fd_law_mul⟩, ⟨"_law_table", 1, fd_law_table⟩], gls := [] }
def fd_law_reached : Fn := defF gd_law_reached 5000 1 bd_law_reached
abbrev sd_law_lift : Stmt := topS 54
def bd_law_lift : List S := [.asg 3 false (.call 0 [(.var 2)]), .asg 4 false (.tup [(.tup [(.bin .Mod (.blt .int [(.idx (.idx (.var 3) (.cst (.int (0)))) (.cst (.int (0))))]) (.var 0)), (.bin .Mod (.blt .int [(.idx (.idx (.var 3) (.cst (.int (0)))) (.cst (.int (1))))]) (.var 0))]), (.tup [(.bin .Mod (.blt .int [(.idx (.idx (.var 3) (.cst (.int (1)))) (.cst (.int (0))))]) (.var 0)), (.bin .Mod (.blt .int [(.idx (.idx (.var 3) (.cst (.int (1)))) (.cst (.int (1))))]) (.var 0))])]), .ret (.call 1 [(.var 3), (.call 2 [(.call 0 [(.blt .list [(.idx (.var 1) (.var 4))])])])])]
def gd_law_lift : G := { N := ["N", "known", "word", "table", "name"], fns := [⟨"_law_table", 1, fd_law_table⟩, ⟨"_law_mul", 2, fd_law_mul⟩, ⟨"_law_back", 1, fd_law_back⟩], gls := [] }
def fd_law_lift : Fn := defF gd_law_lift 5000 3 bd_law_lift
abbrev sd_law : Stmt := topS 55
def bd_law : List S := [.asg 1 false (.call 0 [(.var 0), (.cst (.int (60)))]), .asg 2 false (.bin .Add (.cst (.int (2))) (.bin .Mod (.blt .int [(.idx (.var 1) (.cst (.int (0))))]) (.cst (.int (4))))), .asg 3 false (.call 1 [(.var 2)]), .ite (.cmp .NotEq (.blt .len [(.var 3)]) (.idx (.lst [(.cst (.int (6))), (.cst (.int (24))), (.cst (.int (48))), (.cst (.int (120)))]) (.bin .Sub (.var 2) (.cst (.int (2)))))) [.ret (.cst (.bl false))] [], .for (.nm 4) .rng1 false [(.cst (.int (3)))] [.asg 5 false (.call 2 [(.slc (.var 1) (some (.bin .Add (.cst (.int (1))) (.bin .Mult (.cst (.int (12))) (.var 4)))) none), (.bin .Mod (.blt .int [(.idx (.var 1) (.bin .Add (.cst (.int (1))) (.bin .Mult (.cst (.int (12))) (.var 4))))]) (.cst (.int (31))))]), .asg 6 false (.call 3 [(.var 2), (.var 3), (.var 5)]), .ite (.or (.nt (.call 4 [(.var 2), (.var 6)])) (.cmp .IsNot (.call 5 [(.var 2), (.var 6)]) (.cst (.bl true)))) [.ret (.cst (.bl false))] [], .asg 7 false (.blt .tuple [(.lc (.nm 8) .seq [(.var 6)] [] (.blt .tuple [(.lc (.nm 9) .seq [(.var 8)] [] (.neg (.var 9)) [("item", 9)])]) [("row", 8)])]), .ite (.cmp .NotEq (.call 5 [(.var 2), (.var 7)]) (.cmp .Eq (.var 2) (.cst (.int (2))))) [.ret (.cst (.bl false))] [], .ite (.cmp .NotEq (.call 5 [(.var 2), (.call 6 [(.var 5)])]) (.call 4 [(.var 2), (.call 6 [(.var 5)])])) [.ret (.cst (.bl false))] []], .ret (.cst (.bl true))]
def gd_law : G := { N := ["script", "draws", "N", "known", "k", "word", "table", "opposite_v", "row", "item"], fns := [⟨"_law_draws", 2, fd_law_draws⟩, ⟨"_law_reached", 1, fd_law_reached⟩, ⟨"_law_word", 2, fd_law_word⟩, ⟨"_law_lift", 3, fd_law_lift⟩, ⟨"_law_is_one", 2, fd_law_is_one⟩, ⟨"is_made", 2, fd_is_made⟩, ⟨"_law_table", 1, fd_law_table⟩], gls := [] }
def fd_law : Fn := defF gd_law 5000 1 bd_law
theorem scd_is_number : FnScope gd_is_number.N ["value"] (defScope sd_is_number) := ⟨rfl, rfl, rfl, by decide +kernel, rfl, by decide +kernel, by decide +kernel⟩
theorem ckd_is_number : chkB gd_is_number (defScope sd_is_number) bd_is_number (defBody sd_is_number) = true := by decide +kernel
theorem scd_is_row : FnScope gd_is_row.N ["value", "n"] (defScope sd_is_row) := ⟨rfl, rfl, rfl, by decide +kernel, rfl, by decide +kernel, by decide +kernel⟩
theorem ckd_is_row : chkB gd_is_row (defScope sd_is_row) bd_is_row (defBody sd_is_row) = true := by decide +kernel
theorem scd_has_shape : FnScope gd_has_shape.N ["value"] (defScope sd_has_shape) := ⟨rfl, rfl, rfl, by decide +kernel, rfl, by decide +kernel, by decide +kernel⟩
theorem ckd_has_shape : chkB gd_has_shape (defScope sd_has_shape) bd_has_shape (defBody sd_has_shape) = true := by decide +kernel
theorem scd_cofactor : FnScope gd_cofactor.N ["rows", "i", "j"] (defScope sd_cofactor) := ⟨rfl, rfl, rfl, by decide +kernel, rfl, by decide +kernel, by decide +kernel⟩
theorem ckd_cofactor : chkB gd_cofactor (defScope sd_cofactor) bd_cofactor (defBody sd_cofactor) = true := by decide +kernel
theorem scd_determinant : FnScope gd_determinant.N ["rows"] (defScope sd_determinant) := ⟨rfl, rfl, rfl, by decide +kernel, rfl, by decide +kernel, by decide +kernel⟩
theorem ckd_determinant : chkB gd_determinant (defScope sd_determinant) bd_determinant (defBody sd_determinant) = true := by decide +kernel
theorem scd_is_table : FnScope gd_is_table.N ["value"] (defScope sd_is_table) := ⟨rfl, rfl, rfl, by decide +kernel, rfl, by decide +kernel, by decide +kernel⟩
theorem ckd_is_table : chkB gd_is_table (defScope sd_is_table) bd_is_table (defBody sd_is_table) = true := by decide +kernel
theorem scd_check_table : FnScope gd_check_table.N ["value"] (defScope sd_check_table) := ⟨rfl, rfl, rfl, by decide +kernel, rfl, by decide +kernel, by decide +kernel⟩
theorem ckd_check_table : chkB gd_check_table (defScope sd_check_table) bd_check_table (defBody sd_check_table) = true := by decide +kernel
theorem scd_check_table_of : FnScope gd_check_table_of.N ["n", "value"] (defScope sd_check_table_of) := ⟨rfl, rfl, rfl, by decide +kernel, rfl, by decide +kernel, by decide +kernel⟩
theorem ckd_check_table_of : chkB gd_check_table_of (defScope sd_check_table_of) bd_check_table_of (defBody sd_check_table_of) = true := by decide +kernel
theorem scd_check_number : FnScope gd_check_number.N ["value", "low", "high"] (defScope sd_check_number) := ⟨rfl, rfl, rfl, by decide +kernel, rfl, by decide +kernel, by decide +kernel⟩
theorem ckd_check_number : chkB gd_check_number (defScope sd_check_number) bd_check_number (defBody sd_check_number) = true := by decide +kernel
theorem scd_check_size : FnScope gd_check_size.N ["n"] (defScope sd_check_size) := ⟨rfl, rfl, rfl, by decide +kernel, rfl, by decide +kernel, by decide +kernel⟩
theorem ckd_check_size : chkB gd_check_size (defScope sd_check_size) bd_check_size (defBody sd_check_size) = true := by decide +kernel
theorem scd_identity : FnScope gd_identity.N ["n"] (defScope sd_identity) := ⟨rfl, rfl, rfl, by decide +kernel, rfl, by decide +kernel, by decide +kernel⟩
theorem ckd_identity : chkB gd_identity (defScope sd_identity) bd_identity (defBody sd_identity) = true := by decide +kernel
theorem scd_Clearing_init : FnScope gd_Clearing_init.N ["self", "table"] (defScope sd_Clearing_init) := ⟨rfl, rfl, rfl, by decide +kernel, rfl, by decide +kernel, by decide +kernel⟩
theorem ckd_Clearing_init : chkB gd_Clearing_init (defScope sd_Clearing_init) bd_Clearing_init (defBody sd_Clearing_init) = true := by decide +kernel
theorem scd_Clearing_take : FnScope gd_Clearing_take.N ["self", "i", "j", "k"] (defScope sd_Clearing_take) := ⟨rfl, rfl, rfl, by decide +kernel, rfl, by decide +kernel, by decide +kernel⟩
theorem ckd_Clearing_take : chkB gd_Clearing_take (defScope sd_Clearing_take) bd_Clearing_take (defBody sd_Clearing_take) = true := by decide +kernel
theorem scd_Clearing_clear_item : FnScope gd_Clearing_clear_item.N ["self", "i", "j"] (defScope sd_Clearing_clear_item) := ⟨rfl, rfl, rfl, by decide +kernel, rfl, by decide +kernel, by decide +kernel⟩
theorem ckd_Clearing_clear_item : chkB gd_Clearing_clear_item (defScope sd_Clearing_clear_item) bd_Clearing_clear_item (defBody sd_Clearing_clear_item) = true := by decide +kernel
theorem scd_Clearing_clear_below : FnScope gd_Clearing_clear_below.N ["self", "j"] (defScope sd_Clearing_clear_below) := ⟨rfl, rfl, rfl, by decide +kernel, rfl, by decide +kernel, by decide +kernel⟩
theorem ckd_Clearing_clear_below : chkB gd_Clearing_clear_below (defScope sd_Clearing_clear_below) bd_Clearing_clear_below (defBody sd_Clearing_clear_below) = true := by decide +kernel
theorem scd_Clearing_clear_above : FnScope gd_Clearing_clear_above.N ["self", "j"] (defScope sd_Clearing_clear_above) := ⟨rfl, rfl, rfl, by decide +kernel, rfl, by decide +kernel, by decide +kernel⟩
theorem ckd_Clearing_clear_above : chkB gd_Clearing_clear_above (defScope sd_Clearing_clear_above) bd_Clearing_clear_above (defBody sd_Clearing_clear_above) = true := by decide +kernel
theorem scd_word_of : FnScope gd_word_of.N ["table"] (defScope sd_word_of) := ⟨rfl, rfl, rfl, by decide +kernel, rfl, by decide +kernel, by decide +kernel⟩
theorem ckd_word_of : chkB gd_word_of (defScope sd_word_of) bd_word_of (defBody sd_word_of) = true := by decide +kernel
theorem scd_reduced : FnScope gd_reduced.N ["N", "rows"] (defScope sd_reduced) := ⟨rfl, rfl, rfl, by decide +kernel, rfl, by decide +kernel, by decide +kernel⟩
theorem ckd_reduced : chkB gd_reduced (defScope sd_reduced) bd_reduced (defBody sd_reduced) = true := by decide +kernel
theorem scd_is_alike : FnScope gd_is_alike.N ["N", "first", "second"] (defScope sd_is_alike) := ⟨rfl, rfl, rfl, by decide +kernel, rfl, by decide +kernel, by decide +kernel⟩
theorem ckd_is_alike : chkB gd_is_alike (defScope sd_is_alike) bd_is_alike (defBody sd_is_alike) = true := by decide +kernel
theorem scd_check_order : FnScope gd_check_order.N ["N"] (defScope sd_check_order) := ⟨rfl, rfl, rfl, by decide +kernel, rfl, by decide +kernel, by decide +kernel⟩
theorem ckd_check_order : chkB gd_check_order (defScope sd_check_order) bd_check_order (defBody sd_check_order) = true := by decide +kernel
theorem scd_v_polynomial : FnScope gd_v_polynomial.N ["k"] (defScope sd_v_polynomial) := ⟨rfl, rfl, rfl, by decide +kernel, rfl, by decide +kernel, by decide +kernel⟩
theorem ckd_v_polynomial : chkB gd_v_polynomial (defScope sd_v_polynomial) bd_v_polynomial (defBody sd_v_polynomial) = true := by decide +kernel
theorem scd_lowered : FnScope gd_lowered.N ["modulus", "items"] (defScope sd_lowered) := ⟨rfl, rfl, rfl, by decide +kernel, rfl, by decide +kernel, by decide +kernel⟩
theorem ckd_lowered : chkB gd_lowered (defScope sd_lowered) bd_lowered (defBody sd_lowered) = true := by decide +kernel
theorem scd_poly_sum : FnScope gd_poly_sum.N ["p", "q"] (defScope sd_poly_sum) := ⟨rfl, rfl, rfl, by decide +kernel, rfl, by decide +kernel, by decide +kernel⟩
theorem ckd_poly_sum : chkB gd_poly_sum (defScope sd_poly_sum) bd_poly_sum (defBody sd_poly_sum) = true := by decide +kernel
theorem scd_opposite : FnScope gd_opposite.N ["p"] (defScope sd_opposite) := ⟨rfl, rfl, rfl, by decide +kernel, rfl, by decide +kernel, by decide +kernel⟩
theorem ckd_opposite : chkB gd_opposite (defScope sd_opposite) bd_opposite (defBody sd_opposite) = true := by decide +kernel
theorem scd_times_x : FnScope gd_times_x.N ["modulus", "p"] (defScope sd_times_x) := ⟨rfl, rfl, rfl, by decide +kernel, rfl, by decide +kernel, by decide +kernel⟩
theorem ckd_times_x : chkB gd_times_x (defScope sd_times_x) bd_times_x (defBody sd_times_x) = true := by decide +kernel
theorem scd_constant : FnScope gd_constant.N ["N", "number"] (defScope sd_constant) := ⟨rfl, rfl, rfl, by decide +kernel, rfl, by decide +kernel, by decide +kernel⟩
theorem ckd_constant : chkB gd_constant (defScope sd_constant) bd_constant (defBody sd_constant) = true := by decide +kernel
theorem scd_unit_turning : FnScope gd_unit_turning.N ["N"] (defScope sd_unit_turning) := ⟨rfl, rfl, rfl, by decide +kernel, rfl, by decide +kernel, by decide +kernel⟩
theorem ckd_unit_turning : chkB gd_unit_turning (defScope sd_unit_turning) bd_unit_turning (defBody sd_unit_turning) = true := by decide +kernel
theorem scd_mirrored : FnScope gd_mirrored.N ["modulus", "row", "place"] (defScope sd_mirrored) := ⟨rfl, rfl, rfl, by decide +kernel, rfl, by decide +kernel, by decide +kernel⟩
theorem ckd_mirrored : chkB gd_mirrored (defScope sd_mirrored) bd_mirrored (defBody sd_mirrored) = true := by decide +kernel
theorem scd_mirrored_along : FnScope gd_mirrored_along.N ["modulus", "row", "places"] (defScope sd_mirrored_along) := ⟨rfl, rfl, rfl, by decide +kernel, rfl, by decide +kernel, by decide +kernel⟩
theorem ckd_mirrored_along : chkB gd_mirrored_along (defScope sd_mirrored_along) bd_mirrored_along (defBody sd_mirrored_along) = true := by decide +kernel
theorem scd_product_of_mirrors : FnScope gd_product_of_mirrors.N ["N", "places"] (defScope sd_product_of_mirrors) := ⟨rfl, rfl, rfl, by decide +kernel, rfl, by decide +kernel, by decide +kernel⟩
theorem ckd_product_of_mirrors : chkB gd_product_of_mirrors (defScope sd_product_of_mirrors) bd_product_of_mirrors (defBody sd_product_of_mirrors) = true := by decide +kernel
theorem scd_turns : FnScope gd_turns.N ["N", "k"] (defScope sd_turns) := ⟨rfl, rfl, rfl, by decide +kernel, rfl, by decide +kernel, by decide +kernel⟩
theorem ckd_turns : chkB gd_turns (defScope sd_turns) bd_turns (defBody sd_turns) = true := by decide +kernel
theorem scd_places_of : FnScope gd_places_of.N ["N", "table"] (defScope sd_places_of) := ⟨rfl, rfl, rfl, by decide +kernel, rfl, by decide +kernel, by decide +kernel⟩
theorem ckd_places_of : chkB gd_places_of (defScope sd_places_of) bd_places_of (defBody sd_places_of) = true := by decide +kernel
theorem scd_turned : FnScope gd_turned.N ["N", "table"] (defScope sd_turned) := ⟨rfl, rfl, rfl, by decide +kernel, rfl, by decide +kernel, by decide +kernel⟩
theorem ckd_turned : chkB gd_turned (defScope sd_turned) bd_turned (defBody sd_turned) = true := by decide +kernel
theorem scd_is_made : FnScope gd_is_made.N ["N", "table"] (defScope sd_is_made) := ⟨rfl, rfl, rfl, by decide +kernel, rfl, by decide +kernel, by decide +kernel⟩
theorem ckd_is_made : chkB gd_is_made (defScope sd_is_made) bd_is_made (defBody sd_is_made) = true := by decide +kernel
theorem scd_law_draws : FnScope gd_law_draws.N ["script", "many"] (defScope sd_law_draws) := ⟨rfl, rfl, rfl, by decide +kernel, rfl, by decide +kernel, by decide +kernel⟩
theorem ckd_law_draws : chkB gd_law_draws (defScope sd_law_draws) bd_law_draws (defBody sd_law_draws) = true := by decide +kernel
theorem scd_law_mul : FnScope gd_law_mul.N ["first", "second"] (defScope sd_law_mul) := ⟨rfl, rfl, rfl, by decide +kernel, rfl, by decide +kernel, by decide +kernel⟩
theorem ckd_law_mul : chkB gd_law_mul (defScope sd_law_mul) bd_law_mul (defBody sd_law_mul) = true := by decide +kernel
theorem scd_law_back : FnScope gd_law_back.N ["table"] (defScope sd_law_back) := ⟨rfl, rfl, rfl, by decide +kernel, rfl, by decide +kernel, by decide +kernel⟩
theorem ckd_law_back : chkB gd_law_back (defScope sd_law_back) bd_law_back (defBody sd_law_back) = true := by decide +kernel
theorem scd_law_word : FnScope gd_law_word.N ["draws", "many"] (defScope sd_law_word) := ⟨rfl, rfl, rfl, by decide +kernel, rfl, by decide +kernel, by decide +kernel⟩
theorem ckd_law_word : chkB gd_law_word (defScope sd_law_word) bd_law_word (defBody sd_law_word) = true := by decide +kernel
theorem scd_law_table : FnScope gd_law_table.N ["word"] (defScope sd_law_table) := ⟨rfl, rfl, rfl, by decide +kernel, rfl, by decide +kernel, by decide +kernel⟩
theorem ckd_law_table : chkB gd_law_table (defScope sd_law_table) bd_law_table (defBody sd_law_table) = true := by decide +kernel
theorem scd_law_is_one : FnScope gd_law_is_one.N ["N", "table"] (defScope sd_law_is_one) := ⟨rfl, rfl, rfl, by decide +kernel, rfl, by decide +kernel, by decide +kernel⟩
theorem ckd_law_is_one : chkB gd_law_is_one (defScope sd_law_is_one) bd_law_is_one (defBody sd_law_is_one) = true := by decide +kernel
theorem scd_law_reached : FnScope gd_law_reached.N ["N"] (defScope sd_law_reached) := ⟨rfl, rfl, rfl, by decide +kernel, rfl, by decide +kernel, by decide +kernel⟩
theorem ckd_law_reached : chkB gd_law_reached (defScope sd_law_reached) bd_law_reached (defBody sd_law_reached) = true := by decide +kernel
theorem scd_law_lift : FnScope gd_law_lift.N ["N", "known", "word"] (defScope sd_law_lift) := ⟨rfl, rfl, rfl, by decide +kernel, rfl, by decide +kernel, by decide +kernel⟩
theorem ckd_law_lift : chkB gd_law_lift (defScope sd_law_lift) bd_law_lift (defBody sd_law_lift) = true := by decide +kernel
theorem scd_law : FnScope gd_law.N ["script"] (defScope sd_law) := ⟨rfl, rfl, rfl, by decide +kernel, rfl, by decide +kernel, by decide +kernel⟩
theorem ckd_law : chkB gd_law (defScope sd_law) bd_law (defBody sd_law) = true := by decide +kernel
end DE
set_option linter.all false
set_option maxRecDepth 100000
set_option maxHeartbeats 4000000
set_option exponentiation.threshold 4000
namespace DE
open PySem PySem.Spec PyProof.Rows L2
theorem szl : sizeLine = 16777216 := rfl
theorem shp_int (i : Int) : shp (.int i) = true := rfl
theorem eqD_int (i j : Int) : eqD (.int i) (.int j) = (i == j) := by simp [eqD, D.toP, PyData.eqv]
theorem evB_nx {Γ : G} {fu : Nat} {s : S} {ss : List S} {ρ ρ' : List Sl} (h : evS Γ fu s ρ = some (.nx ρ')) : evB Γ fu (s :: ss) ρ = evB Γ fu ss ρ' := by
  rw [evB, h]; rfl
def dl (xs : List Int) : D := .lst (xs.map D.int)
def Dr (xs : List Int) : Prop := ∀ x ∈ xs, 0 ≤ x ∧ x < 65521
theorem Dr.app {xs ys : List Int} (h : Dr xs) (k : Dr ys) : Dr (xs ++ ys) := fun x hx => (List.mem_append.mp hx).elim (h x) (k x)
theorem dv1009 : DivP 1009 := by decide
theorem dvA : DivP 2147483647 := by decide
theorem dvB : DivP 65521 := by decide
theorem dv3 : DivP 3 := by decide
theorem dv7 : DivP 7 := by decide
theorem pw18 : PowP 10 18 := by decide
theorem mpr (x y : Int) (h : -(2 ^ 64) < y ∧ y < 2 ^ 64) : MulP x y := .inr (.inl h)
def in60 : List S := [.ite (.cmp .Gt (.var 6) (.cst (.int (0)))) [.app (.sl 2) 0 false (.bin .Mod (.blt .int [(.var 6)]) (.cst (.int (1009)))), .asg 6 false (.bin .FloorDiv (.var 6) (.cst (.int (1009))))] []]
theorem in60_turn (z : List Int) (m sd c k n : Int) (xs : List Int) (hx : xs.length < 100000) (hn : 0 ≤ n) : ∃ ys n', 0 ≤ n' ∧ Dr ys ∧ ys.length ≤ 1 ∧ 
    evB gd_law_draws 5000 in60 [some (0, .scr z), some (0, .int m), some (1, dl xs), some (0, .int sd), some (0, .int c), some (0, .int k), some (0, .int n)] = some (.nx [some (0, .scr z), some (0, .int m), some (1, dl (xs ++ ys)), some (0, .int sd), some (0, .int c), some (0, .int k), some (0, .int n')]) := by
  by_cases h : n > 0
  · refine ⟨[n.fmod 1009], n.fdiv 1009, ?_, ?_, by simp, ?_⟩
    · exact Int.fdiv_nonneg hn (by decide)
    · intro x hx
      rw [List.mem_singleton] at hx
      subst hx
      rw [Int.fmod_eq_emod_of_nonneg n (by decide)]
      omega
    · have hx' : xs.length < 16777216 := by omega
      simp [in60, defF, resO, evB, evS, ev, evs, evi, evo, bnd, exE, lft, tru, seqO, truD, bor, stc, envB, keepB, setS, initS, binD, cmpD, inA, idxA, idxD, bltD, itD, itS, it1, it2, lcF, turns, turnF, pat, pats, wipeE, setE, val?, forO, D.noL, D.noLs, atI, ixN, intsD, blsD, negD, slcD, cutD, isiD, isiO, rngL, flatD, shp_int, eqD_int, szl, List.range, List.range.loop, ownG, getO, putO, okT, gd_law_draws, h, dl, hx', dv1009]
  · refine ⟨[], n, hn, (fun x hx => by cases hx), by simp, ?_⟩
    simp [in60, defF, resO, evB, evS, ev, evs, evi, evo, bnd, exE, lft, tru, seqO, truD, bor, stc, envB, keepB, setS, initS, binD, cmpD, inA, idxA, idxD, bltD, itD, itS, it1, it2, lcF, turns, turnF, pat, pats, wipeE, setE, val?, forO, D.noL, D.noLs, atI, ixN, intsD, blsD, negD, slcD, cutD, isiD, isiO, rngL, flatD, shp_int, eqD_int, szl, List.range, List.range.loop, ownG, getO, putO, okT, gd_law_draws, h, dl]
theorem for_eq (Γ : G) (fu : Nat) (p : Pt) (k : IK) (b : Bool) (args : List T) (body : List S) (ρ : List Sl) : evS Γ fu (.for p k b args body) ρ = exE (bnd (evs Γ args (envB b ρ)) fun ds => lft (itD k ds)) fun items => if b = true ∧ k.rg = false then none else forO (forF p (evB Γ fu body)) items ρ := by
  rw [evS]; rfl
theorem forO_inv {fb : List Sl → Option Out} {j : Nat} (Inv : List Sl → Prop) : ∀ (items : List D) (ρ0 : List Sl), (∀ d ∈ items, ∀ ρ, Inv ρ → ∃ ρ', fb (ρ.set j (some (0, d))) = some (.nx ρ') ∧ Inv ρ') → Inv ρ0 → ∃ ρ', forO (forF (.nm j) fb) items ρ0 = some (.nx ρ') ∧ Inv ρ'
  | [], ρ0, _, h => ⟨ρ0, rfl, h⟩
  | d :: ds, ρ0, hs, h => by
    obtain ⟨ρ1, e1, h1⟩ := hs d List.mem_cons_self ρ0 h
    obtain ⟨ρ2, e2, h2⟩ := forO_inv Inv ds ρ1 (fun d' hd ρ hρ => hs d' (List.mem_cons_of_mem _ hd) ρ hρ) h1
    refine ⟨ρ2, ?_, h2⟩
    unfold forO
    show (match fb (ρ0.set j (some (0, d))) with
      | some (.nx ρ') => forO (forF (.nm j) fb) ds ρ'
      | some (.ct ρ') => forO (forF (.nm j) fb) ds ρ'
      | some (.bk ρ') => some (.nx ρ')
      | o => o) = _
    rw [e1]; exact e2
/-- .. with a count of the turns left -/
theorem forO_cnt {fb : List Sl → Option Out} {j : Nat} (Inv : Nat → List Sl → Prop) (N : Nat) : ∀ (items : List D) (ρ0 : List Sl), (∀ d ∈ items, ∀ n ρ, n < N → Inv n ρ → ∃ ρ', fb (ρ.set j (some (0, d))) = some (.nx ρ') ∧ Inv (n + 1) ρ') → ∀ n, n + items.length ≤ N → Inv n ρ0 → ∃ ρ', forO (forF (.nm j) fb) items ρ0 = some (.nx ρ') ∧ Inv (n + items.length) ρ'
  | [], ρ0, _, n, _, h => ⟨ρ0, rfl, h⟩
  | d :: ds, ρ0, hs, n, hN, h => by
    rw [List.length_cons] at hN
    obtain ⟨ρ1, e1, h1⟩ := hs d List.mem_cons_self n ρ0 (by omega) h
    obtain ⟨ρ2, e2, h2⟩ := forO_cnt Inv N ds ρ1 (fun d' hd => hs d' (List.mem_cons_of_mem _ hd)) (n + 1) (by omega) h1
    refine ⟨ρ2, ?_, by rw [List.length_cons]; rw [show n + (ds.length + 1) = n + 1 + ds.length from by omega]; exact h2⟩
    unfold forO
    show (match fb (ρ0.set j (some (0, d))) with
      | some (.nx ρ') => forO (forF (.nm j) fb) ds ρ'
      | some (.ct ρ') => forO (forF (.nm j) fb) ds ρ'
      | some (.bk ρ') => some (.nx ρ')
      | o => o) = _
    rw [e1]; exact e2
theorem rngL_mem {lo : Int} {n : Nat} {d : D} (h : d ∈ rngL lo n) : ∃ i, d = .int i := by
  unfold rngL at h
  obtain ⟨i, _, e⟩ := List.mem_map.mp h
  exact ⟨_, e.symm⟩
theorem for60 (z : List Int) (m sd c n : Int) (y : Sl) (xs : List Int) (hx : xs.length < 90000) (hn : 0 ≤ n) (hxs : Dr xs) : ∃ ys y' n', Dr ys ∧ ys.length ≤ xs.length + 60 ∧
    evS gd_law_draws 5000 (.for (.nm 5) .rng1 false [(.cst (.int (60)))] in60) [some (0, .scr z), some (0, .int m), some (1, dl xs), some (0, .int sd), some (0, .int c), y, some (0, .int n)] = some (.nx [some (0, .scr z), some (0, .int m), some (1, dl ys), some (0, .int sd), some (0, .int c), y', some (0, .int n')]) := by
  rw [for_eq]
  have e0 : (bnd (evs gd_law_draws [(.cst (.int (60)))] (envB false [some (0, .scr z), some (0, .int m), some (1, dl xs), some (0, .int sd), some (0, .int c), y, some (0, .int n)])) fun ds => lft (itD .rng1 ds)) = some (.ok (rngL 0 60)) := by rfl
  rw [e0]
  obtain ⟨ρ', e1, ys, y', n', h1, h2, h3, h4⟩ := forO_cnt (fb := evB gd_law_draws 5000 in60) (j := 5) (fun t ρ => ∃ ys y' n', Dr ys ∧ ys.length ≤ xs.length + t ∧ 0 ≤ n' ∧ ρ = [some (0, .scr z), some (0, .int m), some (1, dl ys), some (0, .int sd), some (0, .int c), y', some (0, .int n')]) 60 (rngL 0 60) [some (0, .scr z), some (0, .int m), some (1, dl xs), some (0, .int sd), some (0, .int c), y, some (0, .int n)] (by
      rintro d hd t ρ ht ⟨ys, y', n', h1, h2, h3, rfl⟩
      obtain ⟨i, rfl⟩ := rngL_mem hd
      obtain ⟨zs, n2, q1, q2, q3, q4⟩ := in60_turn z m sd c i n' ys (by omega) h3
      exact ⟨_, q4, ys ++ zs, _, n2, h1.app q2, by rw [List.length_append]; omega, q1, rfl⟩) 0 (by rw [rngL_len]; exact Nat.le_refl _) ⟨xs, y, n, hxs, Nat.le_refl _, hn, rfl⟩
  rw [rngL_len] at h2
  subst h4
  exact ⟨ys, y', n', h1, by omega, e1⟩
def bCell : List S := [.asg 6 false (.blt .abs [(.var 4)]), .asg 3 false (.bin .Mod (.blt .int [(.bin .Add (.bin .Add (.bin .Mult (.var 3) (.cst (.int (48271)))) (.var 6)) (.cst (.int (11))))]) (.cst (.int (2147483647)))), .ite (.cmp .GtE (.var 6) (.bin .Pow (.cst (.int (10))) (.cst (.int (18))))) [.for (.nm 5) .rng1 false [(.cst (.int (60)))] in60] [.app (.sl 2) 0 false (.bin .Mod (.bin .FloorDiv (.blt .int [(.bin .Add (.bin .Mult (.var 3) (.cst (.int (16807)))) (.cst (.int (5))))]) (.cst (.int (3)))) (.cst (.int (65521))))]]
def bMany : List S := [.ite (.cmp .Lt (.blt .len [(.var 2)]) (.var 1)) [.asg 3 false (.bin .Mod (.blt .int [(.bin .Add (.bin .Add (.bin .Mult (.var 3) (.cst (.int (69621)))) (.var 5)) (.cst (.int (1))))]) (.cst (.int (2147483647)))), .app (.sl 2) 0 false (.bin .Mod (.bin .FloorDiv (.blt .int [(.var 3)]) (.cst (.int (7)))) (.cst (.int (65521))))] []]
theorem draws_eq : bd_law_draws = [.own 2 1 (.lst []), .asg 3 false (.cst (.int (7))), .for (.nm 4) .seq false [(.slc (.var 0) none (some (.cst (.int (63)))))] bCell, .for (.nm 5) .rng1 false [(.var 1)] bMany, .frz 2, .ret (.slc (.var 2) none (some (.var 1)))] := rfl
theorem fm65 (x : Int) : Dr [x.fmod 65521] := fun y hy => by
  rw [List.mem_singleton] at hy
  subst hy
  rw [Int.fmod_eq_emod_of_nonneg x (by decide)]
  omega
theorem ite_eq {Γ : G} {fu : Nat} {c : T} {a b : List S} {ρ : List Sl} {k : Bool} (h : tru (ev Γ c (bor ρ)) = some (.ok k)) : evS Γ fu (.ite c a b) ρ = if k = true then evB Γ fu a ρ else evB Γ fu b ρ := by
  rw [evS, h]; rfl
theorem cell_turn (z : List Int) (m sd c : Int) (y y6 : Sl) (xs : List Int) (hx : xs.length < 80000) (hxs : Dr xs) : ∃ ys sd' y' y6', Dr ys ∧ ys.length ≤ xs.length + 60 ∧
    evB gd_law_draws 5000 bCell [some (0, .scr z), some (0, .int m), some (1, dl xs), some (0, .int sd), some (0, .int c), y, y6] = some (.nx [some (0, .scr z), some (0, .int m), some (1, dl ys), some (0, .int sd'), some (0, .int c), y', y6']) := by
  have e1 : evS gd_law_draws 5000 (.asg 6 false (.blt .abs [(.var 4)])) [some (0, .scr z), some (0, .int m), some (1, dl xs), some (0, .int sd), some (0, .int c), y, y6] = some (.nx [some (0, .scr z), some (0, .int m), some (1, dl xs), some (0, .int sd), some (0, .int c), y, some (0, .int c.natAbs)]) := by
    simp [defF, resO, evB, evS, ev, evs, evi, evo, bnd, exE, lft, tru, seqO, truD, bor, stc, envB, keepB, setS, initS, binD, cmpD, inA, idxA, idxD, bltD, itD, itS, it1, it2, lcF, turns, turnF, pat, pats, wipeE, setE, val?, forO, D.noL, D.noLs, atI, ixN, intsD, blsD, negD, slcD, cutD, isiD, isiO, rngL, flatD, shp_int, eqD_int, szl, List.range, List.range.loop, ownG, getO, putO, okT]
    split <;> omega
  have e2 : ∀ n : Int, evS gd_law_draws 5000 (.asg 3 false (.bin .Mod (.blt .int [(.bin .Add (.bin .Add (.bin .Mult (.var 3) (.cst (.int (48271)))) (.var 6)) (.cst (.int (11))))]) (.cst (.int (2147483647))))) [some (0, .scr z), some (0, .int m), some (1, dl xs), some (0, .int sd), some (0, .int c), y, some (0, .int n)] = some (.nx [some (0, .scr z), some (0, .int m), some (1, dl xs), some (0, .int ((sd * 48271 + n + 11).fmod 2147483647)), some (0, .int c), y, some (0, .int n)]) := fun n => by
    simp [defF, resO, evB, evS, ev, evs, evi, evo, bnd, exE, lft, tru, seqO, truD, bor, stc, envB, keepB, setS, initS, binD, cmpD, inA, idxA, idxD, bltD, itD, itS, it1, it2, lcF, turns, turnF, pat, pats, wipeE, setE, val?, forO, D.noL, D.noLs, atI, ixN, intsD, blsD, negD, slcD, cutD, isiD, isiO, rngL, flatD, shp_int, eqD_int, szl, List.range, List.range.loop, ownG, getO, putO, okT, dvA, mpr]
  have e3 : ∀ s n : Int, tru (ev gd_law_draws (.cmp .GtE (.var 6) (.bin .Pow (.cst (.int (10))) (.cst (.int (18))))) (bor [some (0, .scr z), some (0, .int m), some (1, dl xs), some (0, .int s), some (0, .int c), y, some (0, .int n)])) = some (.ok (decide (n ≥ 1000000000000000000))) := fun s n => by
    simp [defF, resO, evB, evS, ev, evs, evi, evo, bnd, exE, lft, tru, seqO, truD, bor, stc, envB, keepB, setS, initS, binD, cmpD, inA, idxA, idxD, bltD, itD, itS, it1, it2, lcF, turns, turnF, pat, pats, wipeE, setE, val?, forO, D.noL, D.noLs, atI, ixN, intsD, blsD, negD, slcD, cutD, isiD, isiO, rngL, flatD, shp_int, eqD_int, szl, List.range, List.range.loop, ownG, getO, putO, okT, pw18]
  unfold bCell
  rw [evB_nx e1, evB_nx (e2 _)]
  by_cases h : (c.natAbs : Int) ≥ 1000000000000000000
  · obtain ⟨ys, y', n', h1, h2, e4⟩ := for60 z m ((sd * 48271 + c.natAbs + 11).fmod 2147483647) c c.natAbs y xs (by omega) (Int.natCast_nonneg _) hxs
    refine ⟨ys, (sd * 48271 + c.natAbs + 11).fmod 2147483647, y', some (0, .int n'), h1, h2, ?_⟩
    have e5 : evS gd_law_draws 5000 (.ite (.cmp .GtE (.var 6) (.bin .Pow (.cst (.int (10))) (.cst (.int (18))))) [.for (.nm 5) .rng1 false [(.cst (.int (60)))] in60] [.app (.sl 2) 0 false (.bin .Mod (.bin .FloorDiv (.blt .int [(.bin .Add (.bin .Mult (.var 3) (.cst (.int (16807)))) (.cst (.int (5))))]) (.cst (.int (3)))) (.cst (.int (65521))))]) [some (0, .scr z), some (0, .int m), some (1, dl xs), some (0, .int ((sd * 48271 + c.natAbs + 11).fmod 2147483647)), some (0, .int c), y, some (0, .int c.natAbs)] = _ := (ite_eq (e3 _ _)).trans (by rw [decide_eq_true h, if_pos rfl, evB_nx e4])
    rw [evB_nx e5]
    exact rfl
  · refine ⟨xs ++ [(((sd * 48271 + c.natAbs + 11).fmod 2147483647 * 16807 + 5).fdiv 3).fmod 65521], (sd * 48271 + c.natAbs + 11).fmod 2147483647, y, some (0, .int c.natAbs), hxs.app (fm65 _), by simp, ?_⟩
    have hx' : xs.length < 16777216 := by omega
    have e5 : evS gd_law_draws 5000 (.app (.sl 2) 0 false (.bin .Mod (.bin .FloorDiv (.blt .int [(.bin .Add (.bin .Mult (.var 3) (.cst (.int (16807)))) (.cst (.int (5))))]) (.cst (.int (3)))) (.cst (.int (65521))))) [some (0, .scr z), some (0, .int m), some (1, dl xs), some (0, .int ((sd * 48271 + c.natAbs + 11).fmod 2147483647)), some (0, .int c), y, some (0, .int c.natAbs)] = some (.nx [some (0, .scr z), some (0, .int m), some (1, dl (xs ++ [(((sd * 48271 + c.natAbs + 11).fmod 2147483647 * 16807 + 5).fdiv 3).fmod 65521])), some (0, .int ((sd * 48271 + c.natAbs + 11).fmod 2147483647)), some (0, .int c), y, some (0, .int c.natAbs)]) := by
      simp [defF, resO, evB, evS, ev, evs, evi, evo, bnd, exE, lft, tru, seqO, truD, bor, stc, envB, keepB, setS, initS, binD, cmpD, inA, idxA, idxD, bltD, itD, itS, it1, it2, lcF, turns, turnF, pat, pats, wipeE, setE, val?, forO, D.noL, D.noLs, atI, ixN, intsD, blsD, negD, slcD, cutD, isiD, isiO, rngL, flatD, shp_int, eqD_int, szl, List.range, List.range.loop, ownG, getO, putO, okT, dvA, dvB, dv3, mpr, dl, hx']
    have e6 := (ite_eq (fu := 5000) (a := [.for (.nm 5) .rng1 false [(.cst (.int (60)))] in60]) (b := [.app (.sl 2) 0 false (.bin .Mod (.bin .FloorDiv (.blt .int [(.bin .Add (.bin .Mult (.var 3) (.cst (.int (16807)))) (.cst (.int (5))))]) (.cst (.int (3)))) (.cst (.int (65521))))]) (e3 ((sd * 48271 + c.natAbs + 11).fmod 2147483647) c.natAbs))
    rw [decide_eq_false h, if_neg Bool.false_ne_true, evB_nx e5] at e6
    rw [evB_nx e6]
    exact rfl
theorem it1_eq {j : Int} (h : -(2 ^ 62) ≤ j ∧ j < 2 ^ 62) : it1 [.int j] = some (rngL 0 j.toNat) := by
  unfold it1
  dsimp only
  rw [if_pos h]
theorem rng1_var {Γ : G} {i : Nat} {ρ : List Sl} {n : Nat} (h : (stc ρ)[i]? = some (some (.int n))) (hn : n < 1000000) : (bnd (evs Γ [.var i] (envB false ρ)) fun ds => lft (itD .rng1 ds)) = some (.ok (rngL 0 n)) := by
  have e : ev Γ (.var i) (stc ρ) = some (.ok (.int n)) := by rw [ev, h]
  have e2 : evs Γ [.var i] (envB false ρ) = some (.ok [.int n]) := by
    show (bnd (ev Γ (.var i) (stc ρ)) fun d => bnd (some (.ok [])) fun ds => some (.ok (d :: ds))) = _
    rw [e]; rfl
  rw [e2, bnd_ok, show itD .rng1 [.int (n : Int)] = it1 [.int n] from rfl, it1_eq ⟨by omega, by omega⟩, Int.toNat_natCast]
  rfl
theorem cut_to {α : Type} (xs : List α) (k : Nat) : cutD xs none (some (k : Int)) = xs.take k := by
  unfold cutD
  rw [HT.sIx_none, HT.sIx_nat, List.drop_zero, Nat.sub_zero]
  rcases Nat.le_total k xs.length with h | h
  · rw [Nat.min_eq_left h]
  · rw [Nat.min_eq_right h, List.take_of_length_le h, List.take_of_length_le (Nat.le_refl _)]
theorem many_turn (z : List Int) (m sd i : Int) (y4 y6 : Sl) (xs : List Int) (hx : xs.length < 100000) (hxs : Dr xs) : ∃ ys sd', Dr ys ∧ (ys.length = xs.length ∧ ¬ (xs.length : Int) < m ∨ ys.length = xs.length + 1 ∧ (xs.length : Int) < m) ∧
    evB gd_law_draws 5000 bMany [some (0, .scr z), some (0, .int m), some (1, dl xs), some (0, .int sd), y4, some (0, .int i), y6] = some (.nx [some (0, .scr z), some (0, .int m), some (1, dl ys), some (0, .int sd'), y4, some (0, .int i), y6]) := by
  have e3 : tru (ev gd_law_draws (.cmp .Lt (.blt .len [(.var 2)]) (.var 1)) (bor [some (0, .scr z), some (0, .int m), some (1, dl xs), some (0, .int sd), y4, some (0, .int i), y6])) = some (.ok (decide ((xs.length : Int) < m))) := by
    simp [defF, resO, evB, evS, ev, evs, evi, evo, bnd, exE, lft, tru, seqO, truD, bor, stc, envB, keepB, setS, initS, binD, cmpD, inA, idxA, idxD, bltD, itD, itS, it1, it2, lcF, turns, turnF, pat, pats, wipeE, setE, val?, forO, D.noL, D.noLs, atI, ixN, intsD, blsD, negD, slcD, cutD, isiD, isiO, rngL, flatD, shp_int, eqD_int, szl, List.range, List.range.loop, ownG, getO, putO, okT, dl]
  unfold bMany
  by_cases h : (xs.length : Int) < m
  · refine ⟨xs ++ [(((sd * 69621 + i + 1).fmod 2147483647).fdiv 7).fmod 65521], (sd * 69621 + i + 1).fmod 2147483647, hxs.app (fm65 _), .inr ⟨by simp, h⟩, ?_⟩
    have hx' : xs.length < 16777216 := by omega
    have e4 : evS gd_law_draws 5000 (.asg 3 false (.bin .Mod (.blt .int [(.bin .Add (.bin .Add (.bin .Mult (.var 3) (.cst (.int (69621)))) (.var 5)) (.cst (.int (1))))]) (.cst (.int (2147483647))))) [some (0, .scr z), some (0, .int m), some (1, dl xs), some (0, .int sd), y4, some (0, .int i), y6] = some (.nx [some (0, .scr z), some (0, .int m), some (1, dl xs), some (0, .int ((sd * 69621 + i + 1).fmod 2147483647)), y4, some (0, .int i), y6]) := by
      simp [defF, resO, evB, evS, ev, evs, evi, evo, bnd, exE, lft, tru, seqO, truD, bor, stc, envB, keepB, setS, initS, binD, cmpD, inA, idxA, idxD, bltD, itD, itS, it1, it2, lcF, turns, turnF, pat, pats, wipeE, setE, val?, forO, D.noL, D.noLs, atI, ixN, intsD, blsD, negD, slcD, cutD, isiD, isiO, rngL, flatD, shp_int, eqD_int, szl, List.range, List.range.loop, ownG, getO, putO, okT, dvA, mpr]
    have e5 : evS gd_law_draws 5000 (.app (.sl 2) 0 false (.bin .Mod (.bin .FloorDiv (.blt .int [(.var 3)]) (.cst (.int (7)))) (.cst (.int (65521))))) [some (0, .scr z), some (0, .int m), some (1, dl xs), some (0, .int ((sd * 69621 + i + 1).fmod 2147483647)), y4, some (0, .int i), y6] = some (.nx [some (0, .scr z), some (0, .int m), some (1, dl (xs ++ [(((sd * 69621 + i + 1).fmod 2147483647).fdiv 7).fmod 65521])), some (0, .int ((sd * 69621 + i + 1).fmod 2147483647)), y4, some (0, .int i), y6]) := by
      simp [defF, resO, evB, evS, ev, evs, evi, evo, bnd, exE, lft, tru, seqO, truD, bor, stc, envB, keepB, setS, initS, binD, cmpD, inA, idxA, idxD, bltD, itD, itS, it1, it2, lcF, turns, turnF, pat, pats, wipeE, setE, val?, forO, D.noL, D.noLs, atI, ixN, intsD, blsD, negD, slcD, cutD, isiD, isiO, rngL, flatD, shp_int, eqD_int, szl, List.range, List.range.loop, ownG, getO, putO, okT, dvB, dv7, dl, hx']
    have e6 := ite_eq (fu := 5000) (a := [.asg 3 false (.bin .Mod (.blt .int [(.bin .Add (.bin .Add (.bin .Mult (.var 3) (.cst (.int (69621)))) (.var 5)) (.cst (.int (1))))]) (.cst (.int (2147483647)))), .app (.sl 2) 0 false (.bin .Mod (.bin .FloorDiv (.blt .int [(.var 3)]) (.cst (.int (7)))) (.cst (.int (65521))))]) (b := []) e3
    rw [decide_eq_true h, if_pos rfl, evB_nx e4, evB_nx e5] at e6
    rw [evB_nx e6]
    exact rfl
  · refine ⟨xs, sd, hxs, .inl ⟨rfl, h⟩, ?_⟩
    have e6 := ite_eq (fu := 5000) (a := [.asg 3 false (.bin .Mod (.blt .int [(.bin .Add (.bin .Add (.bin .Mult (.var 3) (.cst (.int (69621)))) (.var 5)) (.cst (.int (1))))]) (.cst (.int (2147483647)))), .app (.sl 2) 0 false (.bin .Mod (.bin .FloorDiv (.blt .int [(.var 3)]) (.cst (.int (7)))) (.cst (.int (65521))))]) (b := []) e3
    rw [decide_eq_false h, if_neg Bool.false_ne_true] at e6
    rw [evB_nx e6]
    exact rfl
theorem forB_eq {Γ : G} {fu : Nat} {p : Pt} {k : IK} {args : List T} {body : List S} {ρ : List Sl} {items : List D} (h : (bnd (evs Γ args (envB false ρ)) fun ds => lft (itD k ds)) = some (.ok items)) : evS Γ fu (.for p k false args body) ρ = forO (forF p (evB Γ fu body)) items ρ := by
  rw [for_eq, h]; rfl
theorem f_draws (ns : List Int) (many : Nat) (hm : many < 10000) : ∃ ds : List Int, ds.length = many ∧ Dr ds ∧ fd_law_draws [.scr ns, .int many] = some (.ok (dl ds)) := by
  have hz : (ns.take 63).length ≤ 63 := by rw [List.length_take]; omega
  have e0 : (bnd (evs gd_law_draws [(.slc (.var 0) none (some (.cst (.int (63)))))] (envB false [some (0, .scr ns), some (0, .int many), some (1, dl []), some (0, .int 7), none, none, none])) fun ds => lft (itD .seq ds)) = some (.ok ((ns.take 63).map D.int)) := by
    have e1 : evs gd_law_draws [(.slc (.var 0) none (some (.cst (.int (63)))))] (envB false [some (0, .scr ns), some (0, .int many), some (1, dl []), some (0, .int 7), none, none, none]) = some (.ok [.lst ((cutD ns none (some ((63 : Nat) : Int))).map D.int)]) := rfl
    rw [e1, cut_to]; rfl
  obtain ⟨ρ1, e1, ys, sd, y4, y5, y6, h1, h2, h3⟩ := forO_cnt (fb := evB gd_law_draws 5000 bCell) (j := 4) (fun t ρ => ∃ ys sd y4 y5 y6, Dr ys ∧ ys.length ≤ 60 * t ∧ ρ = [some (0, .scr ns), some (0, .int many), some (1, dl ys), some (0, .int sd), y4, y5, y6]) 63 ((ns.take 63).map D.int) [some (0, .scr ns), some (0, .int many), some (1, dl []), some (0, .int 7), none, none, none] (by
      rintro d hd t ρ ht ⟨ys, sd, y4, y5, y6, h1, h2, rfl⟩
      obtain ⟨c, _, rfl⟩ := List.mem_map.mp hd
      obtain ⟨zs, sd2, y5', y6', q1, q2, q3⟩ := cell_turn ns many sd c y5 y6 ys (by omega) h1
      exact ⟨_, q3, zs, sd2, _, y5', y6', q1, by omega, rfl⟩) 0 (by rw [List.length_map]; omega) ⟨[], 7, none, none, none, (fun x hx => by cases hx), Nat.le_refl _, rfl⟩
  rw [List.length_map] at h2
  subst h3
  obtain ⟨ρ2, e2, zs, sd2, y5', k1, k2, k3⟩ := forO_cnt (fb := evB gd_law_draws 5000 bMany) (j := 5) (fun t ρ => ∃ zs sd y5, Dr zs ∧ (ys.length ≤ zs.length ∧ zs.length ≤ ys.length + t ∧ (t ≤ zs.length ∨ many ≤ zs.length)) ∧ ρ = [some (0, .scr ns), some (0, .int many), some (1, dl zs), some (0, .int sd), y4, y5, y6]) many (rngL 0 many) [some (0, .scr ns), some (0, .int many), some (1, dl ys), some (0, .int sd), y4, y5, y6] (by
      rintro d hd t ρ ht ⟨zs, sd, y5, h1, h2, rfl⟩
      obtain ⟨i, rfl⟩ := rngL_mem hd
      obtain ⟨us, sd2, q1, q2, q3⟩ := many_turn ns many sd i y4 y6 zs (by omega) h1
      exact ⟨_, q3, us, sd2, _, q1, by omega, rfl⟩) 0 (by rw [rngL_len]; omega) ⟨ys, sd, y5, h1, ⟨Nat.le_refl _, Nat.le_refl _, .inl (Nat.zero_le _)⟩, rfl⟩
  rw [rngL_len] at k2
  subst k3
  refine ⟨zs.take many, by rw [List.length_take]; omega, fun x hx => k1 x (List.mem_of_mem_take hx), ?_⟩
  have e3 : evS gd_law_draws 5000 (.for (.nm 4) .seq false [(.slc (.var 0) none (some (.cst (.int (63)))))] bCell) [some (0, .scr ns), some (0, .int many), some (1, dl []), some (0, .int 7), none, none, none] = _ := (forB_eq e0).trans e1
  have e4 : evS gd_law_draws 5000 (.for (.nm 5) .rng1 false [(.var 1)] bMany) [some (0, .scr ns), some (0, .int many), some (1, dl ys), some (0, .int sd), y4, y5, y6] = _ := (forB_eq (by
      exact rng1_var rfl (by omega))).trans e2
  have e5 : fd_law_draws [.scr ns, .int many] = resO (evB gd_law_draws 5000 bd_law_draws [some (0, .scr ns), some (0, .int many), none, none, none, none, none]) := rfl
  rw [e5, draws_eq]
  rw [evB_nx (show evS gd_law_draws 5000 (.own 2 1 (.lst [])) [some (0, .scr ns), some (0, .int many), none, none, none, none, none] = some (.nx [some (0, .scr ns), some (0, .int many), some (1, dl []), none, none, none, none]) from rfl)]
  rw [evB_nx (show evS gd_law_draws 5000 (.asg 3 false (.cst (.int (7)))) [some (0, .scr ns), some (0, .int many), some (1, dl []), none, none, none, none] = some (.nx [some (0, .scr ns), some (0, .int many), some (1, dl []), some (0, .int 7), none, none, none]) from rfl)]
  rw [evB_nx e3, evB_nx e4]
  have e6 : ∀ ρ, ρ = [some (0, .scr ns), some (0, .int many), some (1, dl zs), some (0, .int sd2), y4, y5', y6] → evB gd_law_draws 5000 [.frz 2, .ret (.slc (.var 2) none (some (.var 1)))] ρ = some (.ret (.lst (cutD (zs.map D.int) none (some (many : Int))))) := fun ρ e => by subst e; rfl
  rw [e6 _ rfl, cut_to, ← List.map_take]
  rfl
end DE
set_option linter.all false
set_option maxRecDepth 100000
set_option maxHeartbeats 4000000
namespace DE
open PySem PySem.Spec PyProof.Rows L2
/-! ### one expression, one statement at a time -/
section
variable {Γ : G} {ρ : Env} {x y z w : D}
theorem el_var {i : Nat} (h : ρ[i]? = some (some x)) : ev Γ (.var i) ρ = some (.ok x) := by rw [ev, h]
theorem el_cst : ev Γ (.cst x) ρ = some (.ok x) := by rw [ev]
theorem el_bin {op : Operator} {a b : T} (ha : ev Γ a ρ = some (.ok x)) (hb : ev Γ b ρ = some (.ok y)) (h : binD op x y = some z) : ev Γ (.bin op a b) ρ = some (.ok z) := by rw [ev, ha, bnd_ok, hb, bnd_ok, h, lft]
theorem el_cmp {op : CmpOp} {a b : T} (ha : ev Γ a ρ = some (.ok x)) (hb : ev Γ b ρ = some (.ok y)) (h : inA op x y = some z) : ev Γ (.cmp op a b) ρ = some (.ok z) := by rw [ev, ha, bnd_ok, hb, bnd_ok, h, lft]
theorem el_idx {a b : T} (ha : ev Γ a ρ = some (.ok x)) (hb : ev Γ b ρ = some (.ok y)) (h : idxA x y = some z) : ev Γ (.idx a b) ρ = some (.ok z) := by rw [ev, ha, bnd_ok, hb, bnd_ok, h, lft]
theorem el_neg {a : T} (ha : ev Γ a ρ = some (.ok x)) (h : negD x = some z) : ev Γ (.neg a) ρ = some (.ok z) := by rw [ev, ha, bnd_ok, h, lft]
theorem el_nt {a : T} {b : Bool} (ha : tru (ev Γ a ρ) = some (.ok b)) : ev Γ (.nt a) ρ = some (.ok (.bl (!b))) := by rw [ev, ha, bnd_ok]
theorem el_ite {c a b : T} {k : Bool} (hc : tru (ev Γ c ρ) = some (.ok k)) (h : (if k = true then ev Γ a ρ else ev Γ b ρ) = some (.ok z)) : ev Γ (.ite c a b) ρ = some (.ok z) := by rw [ev, hc, bnd_ok, h]
theorem el_and {a b : T} {k : Bool} (ha : ev Γ a ρ = some (.ok x)) (hx : truD x = some k) (h : (if k = true then ev Γ b ρ else some (.ok x)) = some (.ok z)) : ev Γ (.and a b) ρ = some (.ok z) := by rw [ev, ha, bnd_ok, hx, lft, bnd_ok, h]
theorem el_or {a b : T} {k : Bool} (ha : ev Γ a ρ = some (.ok x)) (hx : truD x = some k) (h : (if k = true then some (.ok x) else ev Γ b ρ) = some (.ok z)) : ev Γ (.or a b) ρ = some (.ok z) := by rw [ev, ha, bnd_ok, hx, lft, bnd_ok, h]
theorem el_tru {a : T} {b : Bool} (ha : ev Γ a ρ = some (.ok x)) (h : truD x = some b) : tru (ev Γ a ρ) = some (.ok b) := by rw [ha, tru, bnd_ok, h, lft]
theorem els_nil : evs Γ [] ρ = some (.ok []) := by rw [evs]
theorem els_cons {t : T} {ts : List T} {ds : List D} (h : ev Γ t ρ = some (.ok x)) (hs : evs Γ ts ρ = some (.ok ds)) : evs Γ (t :: ts) ρ = some (.ok (x :: ds)) := by rw [evs, h, bnd_ok, hs, bnd_ok]
theorem el_call {i np : Nat} {nm : Str} {f : Fn} {args : List T} {ds : List D} {r : M D} (hp : Γ.fns[i]? = some ⟨nm, np, f⟩) (ha : evs Γ args ρ = some (.ok ds)) (h : f ds = r) : ev Γ (.call i args) ρ = r := by rw [ev, hp]; dsimp only; rw [ha, bnd_ok, h]
theorem el_blt {f : Blt} {args : List T} {ds : List D} (ha : evs Γ args ρ = some (.ok ds)) (h : bltD f ds = some z) : ev Γ (.blt f args) ρ = some (.ok z) := by rw [ev, ha, bnd_ok, h, lft]
theorem el_tup {args : List T} {ds : List D} (ha : evs Γ args ρ = some (.ok ds)) (h : ds.length ≤ sizeLine) : ev Γ (.tup args) ρ = some (.ok (.tup ds)) := by rw [ev, ha, bnd_ok, if_pos h]
theorem el_lst {args : List T} {ds : List D} (ha : evs Γ args ρ = some (.ok ds)) (h : ds.length ≤ sizeLine) : ev Γ (.lst args) ρ = some (.ok (.lst ds)) := by rw [ev, ha, bnd_ok, if_pos h]
theorem el_fld {a : T} {f : Str} (ha : ev Γ a ρ = some (.ok x)) (h : fldD Γ f x = some z) : ev Γ (.fld a f) ρ = some (.ok z) := by rw [ev, ha, bnd_ok, h, lft]
end
section
variable {Γ : G} {fu : Nat} {ρ : List Sl} {d : D}
theorem es_asg {i : Nat} {b : Bool} {e : T} (h : ev Γ e (envB b ρ) = some (.ok d)) (hk : keepB b d = true) : evS Γ fu (.asg i b e) ρ = some (.nx (ρ.set i (some (0, d)))) := by rw [evS, h, exE, if_pos hk]
theorem es_own1 {i n : Nat} {e : T} (h : ev Γ e (stc ρ) = some (.ok d)) (hk : ownG n d = some (.ok d)) : evS Γ fu (.own i n e) ρ = some (.nx (ρ.set i (some (n, d)))) := by rw [evS, h, bnd_ok, hk, exE]
theorem es_ret {e : T} (h : ev Γ e (bor ρ) = some (.ok d)) : evS Γ fu (.ret e) ρ = some (.ret d) := by rw [evS, h, exE]
theorem eb_ret {e : T} {ss : List S} (h : ev Γ e (bor ρ) = some (.ok d)) : evB Γ fu (.ret e :: ss) ρ = some (.ret d) := by rw [evB, es_ret h]; rfl
theorem es_mcl {i o m np : Nat} {b : Bool} {args : List T} {c0 m0 : Str} {f : MFn} {dob : D} {ds es : List D} {c : Str} {fs : List (Str × Nat)} (hp : Γ.mks[i]? = some ⟨c0, m0, np, f⟩) (ho : ρ[o]? = some (some (m + 1, dob))) (hi : isObj c0 m0 dob = true) (ha : evs Γ args (envB b ρ) = some (.ok ds)) (hb : b = false ∨ D.noLs ds = true) (hf : f dob ds = some (.ok (.non, .obj c fs es))) : evS Γ fu (.mcl i o b args) ρ = some (.nx (ρ.set o (some (m + 1, .obj c fs es)))) := by
  rw [evS, hp]; dsimp only; rw [ho]; dsimp only; rw [if_pos hi, ha, exE, if_pos hb, hf]; rfl
theorem es_ite {c : T} {a b : List S} {k : Bool} (h : tru (ev Γ c (bor ρ)) = some (.ok k)) {o : Option Out} (h2 : (if k = true then evB Γ fu a ρ else evB Γ fu b ρ) = o) : evS Γ fu (.ite c a b) ρ = o := by rw [ite_eq h, h2]
theorem wh_end {c : List Sl → M Bool} {f : List Sl → Option Out} {n : Nat} (h : c ρ = some (.ok false)) : whlO c f (n + 1) ρ = some (.nx ρ) := by rw [whlO, h]; rfl
theorem wh_nx {c : List Sl → M Bool} {f : List Sl → Option Out} {n : Nat} {ρ' : List Sl} (h : c ρ = some (.ok true)) (h2 : f ρ = some (.nx ρ')) : whlO c f (n + 1) ρ = whlO c f n ρ' := by
  rw [whlO, h]
  simp only [exE, if_true]
  rw [h2]
theorem it_rng2 {args : List T} {b : Bool} {i j : Int} (h : evs Γ args (envB b ρ) = some (.ok [.int i, .int j])) (h1 : -(2 ^ 62) ≤ i ∧ i < 2 ^ 62 ∧ -(2 ^ 62) ≤ j ∧ j < 2 ^ 62) : (bnd (evs Γ args (envB b ρ)) fun ds => lft (itD .rng2 ds)) = some (.ok (rngL i (j - i).toNat)) := by
  rw [h, bnd_ok, show itD .rng2 [.int i, .int j] = it2 [.int i, .int j] from rfl, it2, if_pos h1]; rfl
theorem it_rng1 {args : List T} {b : Bool} {j : Int} (h : evs Γ args (envB b ρ) = some (.ok [.int j])) (h1 : -(2 ^ 62) ≤ j ∧ j < 2 ^ 62) : (bnd (evs Γ args (envB b ρ)) fun ds => lft (itD .rng1 ds)) = some (.ok (rngL 0 j.toNat)) := by
  rw [h, bnd_ok, show itD .rng1 [.int j] = it1 [.int j] from rfl, it1_eq h1]; rfl
theorem def_run {np : Nat} {body : List S} {ds : List D} (h1 : ds.length = np) : defF Γ fu np body ds = resO (evB Γ fu body (initS Γ.N.length ds)) := by unfold defF; rw [if_pos h1]
theorem meth_run {np : Nat} {body : List S} {dob : D} {ds : List D} (h1 : ds.length = np) (h2 : isO dob = true) : methF Γ fu np body dob ds = resM (evB Γ fu body (some (3, dob) :: initS (Γ.N.length - 1) ds)) := by unfold methF; rw [if_pos ⟨h1, h2⟩]
theorem rngL_1 (i : Int) : rngL i 1 = [.int i] := by
  show [D.int (i + ((0 : Nat) : Int))] = _
  rw [show i + ((0 : Nat) : Int) = i from by omega]
theorem fo_cons {f : D → List Sl → Option Out} {ds : List D} {ρ' : List Sl} (h : f d ρ = some (.nx ρ')) : forO f (d :: ds) ρ = forO f ds ρ' := by rw [forO, h]
theorem es_exp {e : T} (h : ev Γ e (bor ρ) = some (.ok d)) : evS Γ fu (.exp e) ρ = some (.nx ρ) := by rw [evS, h, exE]
end
end DE
set_option linter.all false
set_option maxRecDepth 100000
set_option maxHeartbeats 4000000
set_option exponentiation.threshold 4000
namespace DE
open PySem PySem.Spec PyProof.Rows L2
def dt (xs : List Int) : D := .tup (xs.map D.int)
theorem forO_ix {p : Pt} {fb : List Sl → Option Out} (Inv : Nat → List Sl → Prop) : ∀ (items : List D) (n : Nat) (ρ0 : List Sl), (∀ k d, items[k]? = some d → ∀ ρ, Inv (n + k) ρ → ∃ ρ', forF p fb d ρ = some (.nx ρ') ∧ Inv (n + k + 1) ρ') → Inv n ρ0 → ∃ ρ', forO (forF p fb) items ρ0 = some (.nx ρ') ∧ Inv (n + items.length) ρ'
  | [], n, ρ0, _, h => ⟨ρ0, rfl, h⟩
  | d :: ds, n, ρ0, hs, h => by
    obtain ⟨ρ1, e1, h1⟩ := hs 0 d rfl ρ0 h
    obtain ⟨ρ2, e2, h2⟩ := forO_ix Inv ds (n + 1) ρ1 (fun k d' hd ρ hρ => by
      have e : n + 1 + k = n + (k + 1) := by omega
      rw [e] at hρ ⊢
      exact hs (k + 1) d' (by simpa using hd) ρ hρ) h1
    refine ⟨ρ2, ?_, by rw [List.length_cons, show n + (ds.length + 1) = n + 1 + ds.length from by omega]; exact h2⟩
    unfold forO
    rw [e1]; exact e2
theorem ixN_nat {n t : Nat} (h : t < n) : ixN n (t : Int) = some t := by
  unfold ixN
  rw [if_pos (by omega), if_pos (by omega), Int.toNat_natCast]
theorem atI_nat {α : Type} {xs : List α} {t : Nat} {v : α} (h : xs[t]? = some v) : atI xs (t : Int) = some v := by
  unfold atI
  rw [ixN_nat (List.getElem?_eq_some_iff.mp h).1]
  exact h
theorem atM_nat {xs : List Int} {t : Nat} {v : Int} (h : xs[t]? = some v) : atI (xs.map D.int) (t : Int) = some (.int v) := atI_nat (by rw [List.getElem?_map, h]; rfl)
theorem mapset {xs : List Int} {t : Nat} {v : Int} : (xs.map D.int).set t (.int v) = (xs.set t v).map D.int := by rw [List.map_set]
def bLow : List S := [.augL (.sl 2) .Sub (.bin .Add (.bin .Sub (.blt .len [(.var 2)]) (.var 3)) (.var 5)) (.bin .Mult (.var 4) (.idx (.var 0) (.var 5)))]
theorem low_turn {L d a : Nat} {f : Nat → Int} {ms : List Int} {it y5 : Sl} {v m : Int} (hL : d ≤ L) (ha : a < d) (hm : ms[a]? = some m) (hb : -(2 ^ 64) < m ∧ m < 2 ^ 64) :
    evB gd_lowered 5000 bLow [some (0, dt ms), it, some (1, dl (tab L f)), some (0, .int d), some (0, .int v), some (0, .int a)] = some (.nx [some (0, dt ms), it, some (1, dl (tab L fun t => if t = L - d + a then f t - v * m else f t)), some (0, .int d), some (0, .int v), some (0, .int a)]) := by
  have e1 : (L : Int) - (d : Int) + (a : Int) = ((L - d + a : Nat) : Int) := by omega
  have hlt : L - d + a < L := by omega
  have e2 : atI (ms.map D.int) (a : Int) = some (.int m) := atM_nat hm
  have e3 : ixN L ((L - d + a : Nat) : Int) = some (L - d + a) := ixN_nat hlt
  have e4 : ((tab L f).map D.int)[L - d + a]? = some (.int (f (L - d + a))) := by rw [List.getElem?_map, tab_get hlt]; rfl
  have e5 : MulP v m := .inr (.inl hb)
  have e6 : ((tab L f).map D.int).set (L - d + a) (.int (f (L - d + a) - v * m)) = (tab L fun t => if t = L - d + a then f t - v * m else f t).map D.int := by
    rw [mapset, tab_set]
    congr 1
    apply tab_ext
    intro t ht
    by_cases e : t = L - d + a
    · subst e; simp
    · rw [if_neg e, if_neg e]
  have l1 : ((tab L f).map D.int).length = L := by rw [List.length_map, tab_len]
  have g1 : ev gd_lowered (.bin .Add (.bin .Sub (.blt .len [(.var 2)]) (.var 3)) (.var 5)) (bor [some (0, dt ms), it, some (1, dl (tab L f)), some (0, .int d), some (0, .int v), some (0, .int a)]) = some (.ok (.int ((L - d + a : Nat) : Int))) := by
    rw [← e1]
    have : ev gd_lowered (.blt .len [(.var 2)]) (bor [some (0, dt ms), it, some (1, dl (tab L f)), some (0, .int d), some (0, .int v), some (0, .int a)]) = some (.ok (.int (L : Int))) := by
      show (some (Except.ok (D.int (((tab L f).map D.int).length : Int))) : M D) = _
      rw [l1]
    have t2 : ev gd_lowered (.bin .Sub (.blt .len [(.var 2)]) (.var 3)) (bor [some (0, dt ms), it, some (1, dl (tab L f)), some (0, .int d), some (0, .int v), some (0, .int a)]) = some (.ok (.int ((L : Int) - (d : Int)))) := by
      rw [ev, this]; rfl
    rw [ev, t2]; rfl
  have g2 : ev gd_lowered (.bin .Mult (.var 4) (.idx (.var 0) (.var 5))) (bor [some (0, dt ms), it, some (1, dl (tab L f)), some (0, .int d), some (0, .int v), some (0, .int a)]) = some (.ok (.int (v * m))) := by
    have : ev gd_lowered (.idx (.var 0) (.var 5)) (bor [some (0, dt ms), it, some (1, dl (tab L f)), some (0, .int d), some (0, .int v), some (0, .int a)]) = some (.ok (.int m)) := by
      show lft (atI (ms.map D.int) (a : Int)) = _
      rw [e2]; rfl
    rw [ev, this]
    show lft (if MulP v m then some (D.int (v * m)) else none) = _
    rw [if_pos e5]; rfl
  unfold bLow
  have g3 : evS gd_lowered 5000 (.augL (.sl 2) .Sub (.bin .Add (.bin .Sub (.blt .len [(.var 2)]) (.var 3)) (.var 5)) (.bin .Mult (.var 4) (.idx (.var 0) (.var 5)))) [some (0, dt ms), it, some (1, dl (tab L f)), some (0, .int d), some (0, .int v), some (0, .int a)] = some (.nx [some (0, dt ms), it, some (1, dl (tab L fun t => if t = L - d + a then f t - v * m else f t)), some (0, .int d), some (0, .int v), some (0, .int a)]) := by
    rw [evS]
    simp only [getO, dl, List.getElem?_cons_succ, List.getElem?_cons_zero, okT, if_true]
    rw [show (D.lst ((tab L f).map D.int)) = dl (tab L f) from rfl, g1]
    simp only [exE, l1, e3, e4]
    rw [g2]
    simp only [exE, ipD, e6]
    rfl
  rw [evB_nx g3]
  rfl
/-- the items of a polynomial are small enough to be a factor -/
def Sm (ms : List Int) : Prop := ∀ m ∈ ms, -(2 ^ 64) < m ∧ m < 2 ^ 64
def rl (ms : List Int) (it : Sl) (g : List Int) (d v : Int) (y : Sl) : List Sl := [some (0, dt ms), it, some (1, dl g), some (0, .int d), some (0, .int v), y]
theorem low_for {L d : Nat} {f : Nat → Int} {ms : List Int} {it y5 : Sl} (hL : d ≤ L) (hl : ms.length = d + 1) (hs : Sm ms) (hd : d < 100000) :
    ∃ y5', evS gd_lowered 5000 (.for (.nm 5) .rng1 false [(.var 3)] bLow) [some (0, dt ms), it, some (1, dl (tab L f)), some (0, .int d), some (0, .int (f L)), y5] = some (.nx [some (0, dt ms), it, some (1, dl (tab L (red (fM ms) d f L))), some (0, .int d), some (0, .int (f L)), y5']) := by
  have e0 : (bnd (evs gd_lowered [(.var 3)] (envB false [some (0, dt ms), it, some (1, dl (tab L f)), some (0, .int d), some (0, .int (f L)), y5])) fun ds => lft (itD .rng1 ds)) = some (.ok (rngL 0 d)) := rng1_var rfl (by omega)
  obtain ⟨ρ', e1, y5', e2⟩ := forO_ix (p := .nm 5) (fb := evB gd_lowered 5000 bLow) (fun a ρ => ∃ y5, ρ = [some (0, dt ms), it, some (1, dl (tab L fun t => if L ≤ t + d ∧ t < L ∧ t + d < L + a then f t - f L * fM ms (t + d - L) else f t)), some (0, .int d), some (0, .int (f L)), y5]) (rngL 0 d) 0 [some (0, dt ms), it, some (1, dl (tab L f)), some (0, .int d), some (0, .int (f L)), y5] (by
    rintro k x hk ρ ⟨y, rfl⟩
    have hkd : k < d := by have := (List.getElem?_eq_some_iff.mp hk).1; rwa [rngL_len] at this
    have hx := rngL_get hk
    subst hx
    rw [Int.zero_add, Nat.zero_add]
    have hm : ms[k]? = some (fM ms k) := by
      unfold fM
      rw [List.getElem?_eq_getElem (by omega)]; rfl
    refine ⟨_, low_turn (a := k) (v := f L) (y5 := y) hL hkd hm (hs _ (List.mem_of_getElem? hm)), some (0, .int k), ?_⟩
    refine congrArg (fun g => rl ms it g d (f L) (some (0, .int k))) (tab_ext fun t ht => ?_)
    by_cases e : t = L - d + k
    · subst e
      rw [if_pos rfl, if_neg (by omega), if_pos (by omega), show L - d + k + d - L = k from by omega]
    · rw [if_neg e]
      by_cases h : L ≤ t + d ∧ t < L ∧ t + d < L + k
      · rw [if_pos h, if_pos (by omega)]
      · rw [if_neg h, if_neg (by omega)]) ⟨y5, congrArg (fun g => rl ms it g d (f L) y5) (tab_ext fun t ht => by rw [if_neg (by omega)])⟩
  refine ⟨y5', (forB_eq e0).trans (e1.trans ?_)⟩
  rw [e2, rngL_len, Nat.zero_add]
  refine congrArg (fun g => some (Out.nx (rl ms it g d (f L) y5'))) (tab_ext fun t ht => ?_)
  unfold red
  by_cases h : L ≤ t + d ∧ t < L
  · rw [if_pos h, if_pos (by omega)]
  · rw [if_neg h, if_neg (by omega)]
def cLow : T := .cmp .Gt (.blt .len [(.var 2)]) (.var 3)
def wLow : List S := [.pop 4 (.sl 2), .for (.nm 5) .rng1 false [(.var 3)] bLow]
def rw0 (ms : List Int) (it : Sl) (g : List Int) (d : Int) (y4 y : Sl) : List Sl := [some (0, dt ms), it, some (1, dl g), some (0, .int d), y4, y]
theorem low_whl {d : Nat} {ms : List Int} {it : Sl} (hl : ms.length = d + 1) (hs : Sm ms) (hd : d < 100000) : ∀ (n fu : Nat) (f : Nat → Int) (y4 y5 : Sl), n < fu →
    ∃ y4' y5', whlO (fun ρ => tru (ev gd_lowered cLow (bor ρ))) (evB gd_lowered 5000 wLow) fu (rw0 ms it (tab (d + n) f) d y4 y5) = some (.nx (rw0 ms it (tab d (reds (fM ms) d f n)) d y4' y5'))
  | _, 0, _, _, _, h => absurd h (Nat.not_lt_zero _)
  | 0, fu + 1, f, y4, y5, h => by
    refine ⟨y4, y5, ?_⟩
    unfold whlO
    have e : tru (ev gd_lowered cLow (bor (rw0 ms it (tab (d + 0) f) d y4 y5))) = some (.ok false) := by
      have e1 : ev gd_lowered (.blt .len [(.var 2)]) (bor (rw0 ms it (tab (d + 0) f) d y4 y5)) = some (.ok (.int d)) := by
        show (some (Except.ok (D.int (((tab (d + 0) f).map D.int).length : Int))) : M D) = _
        rw [List.length_map, tab_len]; rfl
      rw [cLow, ev, e1]
      show some (Except.ok (decide ((d : Int) > (d : Int)))) = _
      rw [decide_eq_false (by omega)]
    rw [e]
    rfl
  | n + 1, fu + 1, f, y4, y5, h => by
    have e : tru (ev gd_lowered cLow (bor (rw0 ms it (tab (d + (n + 1)) f) d y4 y5))) = some (.ok true) := by
      have e1 : ev gd_lowered (.blt .len [(.var 2)]) (bor (rw0 ms it (tab (d + (n + 1)) f) d y4 y5)) = some (.ok (.int ((d + (n + 1) : Nat) : Int))) := by
        show (some (Except.ok (D.int (((tab (d + (n + 1)) f).map D.int).length : Int))) : M D) = _
        rw [List.length_map, tab_len]
      rw [cLow, ev, e1]
      show some (Except.ok (decide (((d + (n + 1) : Nat) : Int) > (d : Int)))) = _
      rw [decide_eq_true (by omega)]
    have e2 : evS gd_lowered 5000 (.pop 4 (.sl 2)) (rw0 ms it (tab (d + (n + 1)) f) d y4 y5) = some (.nx (rw0 ms it (tab (d + n) f) d (some (0, .int (f (d + n)))) y5)) := by
      have l1 : ((tab (d + (n + 1)) f).map D.int).length = d + (n + 1) := by rw [List.length_map, tab_len]
      have l2 : ((tab (d + (n + 1)) f).map D.int)[d + (n + 1) - 1]? = some (.int (f (d + n))) := by
        rw [List.getElem?_map, show d + (n + 1) - 1 = d + n from by omega, tab_get (by omega)]; rfl
      have l3 : ((tab (d + (n + 1)) f).map D.int).dropLast = (tab (d + n) f).map D.int := by
        rw [← List.map_dropLast, show d + (n + 1) = d + n + 1 from by omega, tab_pop]
      rw [evS]
      simp only [rw0, getO, dl, List.getElem?_cons_succ, List.getElem?_cons_zero, l1, l2, l3]
      rfl
    obtain ⟨y5', e3⟩ := low_for (L := d + n) (f := f) (it := it) (y5 := y5) (by omega) hl hs hd
    have e3 : evS gd_lowered 5000 (.for (.nm 5) .rng1 false [(.var 3)] bLow) (rw0 ms it (tab (d + n) f) d (some (0, .int (f (d + n)))) y5) = some (.nx (rw0 ms it (tab (d + n) (red (fM ms) d f (d + n))) d (some (0, .int (f (d + n)))) y5')) := e3
    obtain ⟨z4, z5, e4⟩ := low_whl (it := it) hl hs hd n fu (red (fM ms) d f (d + n)) (some (0, .int (f (d + n)))) y5' (Nat.lt_of_succ_lt_succ h)
    refine ⟨z4, z5, ?_⟩
    unfold whlO
    rw [e]
    have e5 : evB gd_lowered 5000 wLow (rw0 ms it (tab (d + (n + 1)) f) d y4 y5) = some (.nx (rw0 ms it (tab (d + n) (red (fM ms) d f (d + n))) d (some (0, .int (f (d + n)))) y5')) := by
      unfold wLow
      rw [evB_nx e2, evB_nx e3]
      rfl
    simp only [exE, if_true]
    rw [e5]
    exact e4
theorem f_lowered {d n : Nat} {ms : List Int} {f : Nat → Int} {it : D} (hi : it = dl (tab (d + n) f) ∨ it = dt (tab (d + n) f)) (hl : ms.length = d + 1) (hs : Sm ms) (hd : d < 100000) (hn : n < 5000) : fd_lowered [dt ms, it] = some (.ok (dt (tab d (reds (fM ms) d f n)))) := by
  have e0 : fd_lowered [dt ms, it] = resO (evB gd_lowered 5000 [.own 2 1 (.blt .list [(.var 1)]), .asg 3 false (.bin .Sub (.blt .len [(.var 0)]) (.cst (.int (1)))), .whl cLow wLow, .frz 2, .ret (.blt .tuple [(.var 2)])] [some (0, dt ms), some (0, it), none, none, none, none]) := rfl
  have e1 : evS gd_lowered 5000 (.own 2 1 (.blt .list [(.var 1)])) [some (0, dt ms), some (0, it), none, none, none, none] = some (.nx [some (0, dt ms), some (0, it), some (1, dl (tab (d + n) f)), none, none, none]) := by
    rcases hi with rfl | rfl <;> rfl
  have e2 : evS gd_lowered 5000 (.asg 3 false (.bin .Sub (.blt .len [(.var 0)]) (.cst (.int (1))))) [some (0, dt ms), some (0, it), some (1, dl (tab (d + n) f)), none, none, none] = some (.nx (rw0 ms (some (0, it)) (tab (d + n) f) d none none)) := by
    have g : ev gd_lowered (.blt .len [(.var 0)]) (envB false [some (0, dt ms), some (0, it), some (1, dl (tab (d + n) f)), none, none, none]) = some (.ok (.int ((d : Int) + 1))) := by
      show (some (Except.ok (D.int ((ms.map D.int).length : Int))) : M D) = _
      rw [List.length_map, hl]; rfl
    rw [evS, ev, g]
    show some (Out.nx (rw0 ms (some (0, it)) (tab (d + n) f) ((d : Int) + 1 - 1) none none)) = _
    rw [show (d : Int) + 1 - 1 = d from by omega]
  obtain ⟨y4, y5, e3⟩ := low_whl (it := some (0, it)) hl hs hd n 5000 f none none hn
  have e4 : evS gd_lowered 5000 (.whl cLow wLow) (rw0 ms (some (0, it)) (tab (d + n) f) d none none) = some (.nx (rw0 ms (some (0, it)) (tab d (reds (fM ms) d f n)) d y4 y5)) := by
    rw [evS]; exact e3
  rw [e0, evB_nx e1, evB_nx e2, evB_nx e4]
  rfl
end DE
set_option linter.all false
set_option maxRecDepth 100000
set_option maxHeartbeats 4000000
set_option exponentiation.threshold 4000
namespace DE
open PySem PySem.Spec PyProof.Rows L2
/-! ### comprehensions -/
theorem lcq {Γ : G} {p : Pt} {k : IK} {args ifs : List T} {elt : T} {own : List (Str × Nat)} {ρ : Env} {items ys : List D} (hI : (bnd (evs Γ args ρ) fun ds => lft (itD k ds)) = some (.ok items)) (hl : items.length ≤ sizeLine)
    (ht : turns (turnF p own (evi Γ ifs) (ev Γ elt) ρ) items = some ys) : ev Γ (.lc p k args ifs elt own) ρ = some (.ok (.lst ys)) := by
  rw [ev]
  unfold lcF
  dsimp only
  rw [hI, bnd_ok, if_pos hl]
  rw [show (turnF p own (fun ρ => evi Γ ifs ρ) (fun ρ => ev Γ elt ρ) ρ) = turnF p own (evi Γ ifs) (ev Γ elt) ρ from rfl, ht]
theorem turns_all {f : D → Option (Option D)} {g : D → D} : ∀ {items : List D}, (∀ d ∈ items, f d = some (some (g d))) → turns f items = some (items.map g)
  | [], _ => rfl
  | d :: ds, h => by
    unfold turns
    rw [h d List.mem_cons_self, turns_all (items := ds) fun d' h' => h d' (List.mem_cons_of_mem _ h')]
    rfl
theorem turns_ix {f : D → Option (Option D)} : ∀ {items : List D} {h : Nat → Int}, (∀ i d, items[i]? = some d → f d = some (some (.int (h i)))) → turns f items = some ((tab items.length h).map D.int)
  | [], _, _ => rfl
  | d :: ds, h, H => by
    unfold turns
    rw [H 0 d rfl, turns_ix (items := ds) (h := fun i => h (i + 1)) fun i d' e => H (i + 1) d' (by simpa using e)]
    simp only [List.length_cons, tab, List.range_succ_eq_map, List.map_cons, List.map_map]
    rfl
theorem turnF_nm {i : Nat} {own : List (Str × Nat)} {fe : Env → M D} {ρ : Env} {d y : D} {Γ : G} (h : fe (setE (wipeE ρ (own.map (·.2))) [(i, d)]) = some (.ok y)) : turnF (.nm i) own (evi Γ []) fe ρ d = some (some y) := by
  unfold turnF
  rw [show pat (.nm i) d = some [(i, d)] from rfl]
  dsimp only
  rw [show evi Γ [] (setE (wipeE ρ (own.map (·.2))) [(i, d)]) = some (.ok true) from rfl, h]
  rfl
theorem turnF_2 {i j : Nat} {own : List (Str × Nat)} {fe : Env → M D} {ρ : Env} {a b y : D} {Γ : G} (h : fe (setE (wipeE ρ (own.map (·.2))) [(i, a), (j, b)]) = some (.ok y)) : turnF (.tp [.nm i, .nm j]) own (evi Γ []) fe ρ (.tup [a, b]) = some (some y) := by
  unfold turnF
  rw [show pat (.tp [.nm i, .nm j]) (.tup [a, b]) = some [(i, a), (j, b)] from rfl]
  dsimp only
  rw [show evi Γ [] (setE (wipeE ρ (own.map (·.2))) [(i, a), (j, b)]) = some (.ok true) from rfl, h]
  rfl
theorem pairs_get : ∀ (as bs : List D) (i : Nat), (pairsL as bs)[i]? = (match as[i]?, bs[i]? with
    | some a, some b => some (.tup [a, b])
    | _, _ => none)
  | [], bs, i => by simp [pairsL]
  | a :: as, [], i => by simp [pairsL]; done
  | a :: as, b :: bs, 0 => rfl
  | a :: as, b :: bs, i + 1 => by
    show (pairsL as bs)[i]? = _
    rw [pairs_get as bs i]
    simp
theorem pairs_len : ∀ (as bs : List D), as.length = bs.length → (pairsL as bs).length = as.length
  | [], [], _ => rfl
  | a :: as, b :: bs, h => by simp only [pairsL, List.length_cons] at h ⊢; rw [pairs_len as bs (by omega)]
  | [], _ :: _, h => by cases h
  | _ :: _, [], h => by cases h
theorem tup_of {Γ : G} {t : T} {ρ : Env} {ds : List D} (h : ev Γ t ρ = some (.ok (.lst ds))) : ev Γ (.blt .tuple [t]) ρ = some (.ok (.tup ds)) := by
  rw [ev]
  show bnd (bnd (ev Γ t ρ) fun d => bnd (evs Γ [] ρ) fun ds => some (.ok (d :: ds))) _ = _
  rw [h]; rfl
/-! ### the program's polynomials -/
section
variable {e : Nat} {m : Nat → Int}
def en (P : Rg e m) : D := dt (Rg.lst P)
theorem lst_add (P Q : Rg e m) : Rg.lst (P + Q) = tab (e + 1) fun t => fM (Rg.lst P) t + fM (Rg.lst Q) t := by
  apply List.ext_getElem?
  intro i
  by_cases h : i < e + 1
  · rw [tab_get h, lst_get _ h]
    unfold fM
    rw [lst_get _ h, lst_get _ h]; rfl
  · rw [List.getElem?_eq_none (by rw [lst_len]; omega), List.getElem?_eq_none (by rw [tab_len]; omega)]
theorem lst_neg (P : Rg e m) : Rg.lst (-P) = tab (e + 1) fun t => -fM (Rg.lst P) t := by
  apply List.ext_getElem?
  intro i
  by_cases h : i < e + 1
  · rw [tab_get h, lst_get _ h]
    unfold fM
    rw [lst_get _ h]; rfl
  · rw [List.getElem?_eq_none (by rw [lst_len]; omega), List.getElem?_eq_none (by rw [tab_len]; omega)]
theorem fM_get {l : List Int} {i : Nat} {v : Int} (h : l[i]? = some v) : fM l i = v := by unfold fM; rw [h]; rfl
theorem f_poly_sum (P Q : Rg e m) (he : e < 100000) : fd_poly_sum [en P, en Q] = some (.ok (en (P + Q))) := by
  have e0 : fd_poly_sum [en P, en Q] = resO (evB gd_poly_sum 5000 [.ret (.blt .tuple [(.lc (.tp [(.nm 2), (.nm 3)]) .zip [(.var 0), (.var 1)] [] (.bin .Add (.var 2) (.var 3)) [("item", 2), ("other", 3)])])] [some (0, en P), some (0, en Q), none, none]) := rfl
  have hl : (pairsL ((Rg.lst P).map D.int) ((Rg.lst Q).map D.int)).length = e + 1 := by rw [pairs_len _ _ (by rw [List.length_map, List.length_map, lst_len, lst_len]), List.length_map, lst_len]
  have e1 : ev gd_poly_sum (.lc (.tp [(.nm 2), (.nm 3)]) .zip [(.var 0), (.var 1)] [] (.bin .Add (.var 2) (.var 3)) [("item", 2), ("other", 3)]) [some (en P), some (en Q), none, none] = some (.ok (.lst ((tab (e + 1) fun t => fM (Rg.lst P) t + fM (Rg.lst Q) t).map D.int))) := by
    refine lcq (items := pairsL ((Rg.lst P).map D.int) ((Rg.lst Q).map D.int)) rfl (by rw [hl, szl]; omega) ?_
    rw [turns_ix (h := fun t => fM (Rg.lst P) t + fM (Rg.lst Q) t) fun i d hd => ?_, hl]
    rw [pairs_get, List.getElem?_map, List.getElem?_map] at hd
    by_cases h : i < e + 1
    · rw [lst_get _ h, lst_get _ h] at hd
      cases hd
      refine turnF_2 ?_
      rw [fM_get (lst_get P h), fM_get (lst_get Q h)]
      rfl
    · rw [List.getElem?_eq_none (l := Rg.lst P) (by rw [lst_len]; omega)] at hd
      cases hd
  rw [e0, evB, evS]
  rw [show (bor [some (0, en P), some (0, en Q), none, none]) = [some (en P), some (en Q), none, none] from rfl, tup_of e1, ← lst_add]
  rfl
theorem f_opposite (P : Rg e m) (he : e < 100000) : fd_opposite [en P] = some (.ok (en (-P))) := by
  have e0 : fd_opposite [en P] = resO (evB gd_opposite 5000 [.ret (.blt .tuple [(.lc (.nm 1) .seq [(.var 0)] [] (.neg (.var 1)) [("item", 1)])])] [some (0, en P), none]) := rfl
  have hl : ((Rg.lst P).map D.int).length = e + 1 := by rw [List.length_map, lst_len]
  have e1 : ev gd_opposite (.lc (.nm 1) .seq [(.var 0)] [] (.neg (.var 1)) [("item", 1)]) [some (en P), none] = some (.ok (.lst ((tab (e + 1) fun t => -fM (Rg.lst P) t).map D.int))) := by
    refine lcq (items := (Rg.lst P).map D.int) rfl (by rw [hl, szl]; omega) ?_
    rw [turns_ix (h := fun t => -fM (Rg.lst P) t) fun i d hd => ?_, hl]
    rw [List.getElem?_map] at hd
    by_cases h : i < e + 1
    · rw [lst_get _ h] at hd
      cases hd
      refine turnF_nm ?_
      rw [fM_get (lst_get P h)]
      rfl
    · rw [List.getElem?_eq_none (l := Rg.lst P) (by rw [lst_len]; omega)] at hd
      cases hd
  rw [e0, evB, evS]
  rw [show (bor [some (0, en P), none]) = [some (en P), none] from rfl, tup_of e1, ← lst_neg]
  rfl
end
/-- the modulus' items, and the polynomials modulo it -/
structure Md (ms : List Int) (e : Nat) : Prop where
  len : ms.length = e + 2
  sm : Sm ms
  he : e < 1000
theorem f_times_x {ms : List Int} {e : Nat} (h : Md ms e) (P : Rg e (fM ms)) : fd_times_x [dt ms, en P] = some (.ok (en (Rg.xx * P))) := by
  have e0 : fd_times_x [dt ms, en P] = resO (evB gd_times_x 5000 [.ret (.call 0 [(.var 0), (.lsx [(.cst (.int (0))), (.var 1)])])] [some (0, dt ms), some (0, en P)]) := rfl
  have hl : (0 :: Rg.lst P).length = e + 1 + 1 := by rw [List.length_cons, lst_len]
  have e2 : (0 :: Rg.lst P) = tab (e + 1 + 1) (fM (0 :: Rg.lst P)) := by
    apply List.ext_getElem?
    intro i
    by_cases hi : i < e + 1 + 1
    · have h1 : i < (0 :: Rg.lst P).length := by rw [hl]; exact hi
      rw [tab_get hi, fM_get (List.getElem?_eq_getElem h1), List.getElem?_eq_getElem h1]
    · rw [List.getElem?_eq_none (by rw [List.length_cons, lst_len]; omega), List.getElem?_eq_none (by rw [tab_len]; omega)]
  have e1 : ev gd_times_x (.lsx [(.cst (.int (0))), (.var 1)]) [some (dt ms), some (en P)] = some (.ok (dl (tab (e + 1 + 1) (fM (0 :: Rg.lst P))))) := by
    rw [← e2]
    show (if ((D.int 0) :: (Rg.lst P).map D.int).length ≤ sizeLine then some (Except.ok (D.lst ((D.int 0) :: (Rg.lst P).map D.int))) else none) = _
    rw [if_pos (by rw [List.length_cons, List.length_map, lst_len, szl]; have := h.he; omega)]
    rfl
  have e3 := f_lowered (d := e + 1) (n := 1) (ms := ms) (f := fM (0 :: Rg.lst P)) (it := dl (tab (e + 1 + 1) (fM (0 :: Rg.lst P)))) (.inl rfl) h.len h.sm (by have := h.he; omega) (by omega)
  rw [x_lst] at e3
  rw [e0, evB, evS]
  have e4 : ev gd_times_x (.call 0 [(.var 0), (.lsx [(.cst (.int (0))), (.var 1)])]) [some (dt ms), some (en P)] = some (.ok (en (Rg.xx * P))) := by
    rw [ev]
    show bnd (bnd (some (.ok (dt ms))) fun d => bnd (bnd (ev gd_times_x (.lsx [(.cst (.int (0))), (.var 1)]) [some (dt ms), some (en P)]) fun d => bnd (some (.ok [])) fun ds => some (.ok (d :: ds))) fun ds => some (.ok (d :: ds))) fd_lowered = _
    rw [e1]
    exact e3
  rw [show (bor [some (0, dt ms), some (0, en P)]) = [some (dt ms), some (en P)] from rfl, e4]
  rfl
end DE
set_option linter.all false
set_option maxRecDepth 100000
set_option maxHeartbeats 4000000
set_option exponentiation.threshold 4000
namespace DE
open PySem PySem.Spec PyProof.Rows L2
/-! ### rows and mirrors -/
structure R3 (α : Type) where (p q r : α)
namespace R3
variable {α : Type} [Lean.Grind.CommRing α]
def act (v : R3 α) (M : T3 α) : R3 α := ⟨v.p * M.a + v.q * M.d + v.r * M.g, v.p * M.b + v.q * M.e + v.r * M.h, v.p * M.c + v.q * M.f + v.r * M.i⟩
theorem ext' {x y : R3 α} (ha : x.p = y.p) (hb : x.q = y.q) (hc : x.r = y.r) : x = y := by cases x; cases y; simp_all
theorem act_mul (v : R3 α) (M K : T3 α) : (v.act M).act K = v.act (M.mul K) := by apply ext' <;> simp only [act, T3.mul] <;> grind
theorem act_one (v : R3 α) : v.act T3.one = v := by apply ext' <;> simp only [act, T3.one] <;> grind
theorem act_e0 (M : T3 α) : (⟨1, 0, 0⟩ : R3 α).act M = ⟨M.a, M.b, M.c⟩ := by apply ext' <;> simp only [act] <;> grind
theorem act_e1 (M : T3 α) : (⟨0, 1, 0⟩ : R3 α).act M = ⟨M.d, M.e, M.f⟩ := by apply ext' <;> simp only [act] <;> grind
theorem act_e2 (M : T3 α) : (⟨0, 0, 1⟩ : R3 α).act M = ⟨M.g, M.h, M.i⟩ := by apply ext' <;> simp only [act] <;> grind
end R3
section
variable {ms : List Int} {e : Nat}
def R3.D (v : R3 (Rg e (fM ms))) : DE.D := .tup [en v.p, en v.q, en v.r]
def T3.D (M : T3 (Rg e (fM ms))) : DE.D := .tup [.tup [en M.a, en M.b, en M.c], .tup [en M.d, en M.e, en M.f], .tup [en M.g, en M.h, en M.i]]
theorem f_mirrored0 (h : Md ms e) (p q r : Rg e (fM ms)) : fd_mirrored [dt ms, .tup [en p, en q, en r], .int 0] = some (.ok (.tup [en (-p), en (p + q), en r])) := by
  simp [fd_mirrored, gd_mirrored, bd_mirrored, c_A, c_B, defF, resO, evB, evS, ev, evs, evi, evo, bnd, exE, lft, tru, seqO, truD, bor, stc, envB, keepB, setS, initS, binD, cmpD, inA, idxA, idxD, bltD, itD, itS, it1, it2, lcF, turns, turnF, pat, pats, wipeE, setE, val?, forO, D.noL, D.noLs, atI, ixN, intsD, blsD, negD, slcD, cutD, isiD, isiO, rngL, flatD, shp_int, eqD_int, szl, List.range, List.range.loop, ownG, getO, putO, okT, f_opposite _ (show e < 100000 by have := h.he; omega), f_poly_sum _ _ (show e < 100000 by have := h.he; omega), f_times_x h]
theorem f_mirrored1 (h : Md ms e) (p q r : Rg e (fM ms)) : fd_mirrored [dt ms, .tup [en p, en q, en r], .int 1] = some (.ok (.tup [en (p + q), en (-q), en (r + Rg.xx * q)])) := by
  simp [fd_mirrored, gd_mirrored, bd_mirrored, c_A, c_B, defF, resO, evB, evS, ev, evs, evi, evo, bnd, exE, lft, tru, seqO, truD, bor, stc, envB, keepB, setS, initS, binD, cmpD, inA, idxA, idxD, bltD, itD, itS, it1, it2, lcF, turns, turnF, pat, pats, wipeE, setE, val?, forO, D.noL, D.noLs, atI, ixN, intsD, blsD, negD, slcD, cutD, isiD, isiO, rngL, flatD, shp_int, eqD_int, szl, List.range, List.range.loop, ownG, getO, putO, okT, f_opposite _ (show e < 100000 by have := h.he; omega), f_poly_sum _ _ (show e < 100000 by have := h.he; omega), f_times_x h]
theorem f_mirrored2 (h : Md ms e) (p q r : Rg e (fM ms)) : fd_mirrored [dt ms, .tup [en p, en q, en r], .int 2] = some (.ok (.tup [en p, en (q + Rg.xx * r), en (-r)])) := by
  simp [fd_mirrored, gd_mirrored, bd_mirrored, c_A, c_B, defF, resO, evB, evS, ev, evs, evi, evo, bnd, exE, lft, tru, seqO, truD, bor, stc, envB, keepB, setS, initS, binD, cmpD, inA, idxA, idxD, bltD, itD, itS, it1, it2, lcF, turns, turnF, pat, pats, wipeE, setE, val?, forO, D.noL, D.noLs, atI, ixN, intsD, blsD, negD, slcD, cutD, isiD, isiO, rngL, flatD, shp_int, eqD_int, szl, List.range, List.range.loop, ownG, getO, putO, okT, f_opposite _ (show e < 100000 by have := h.he; omega), f_poly_sum _ _ (show e < 100000 by have := h.he; omega), f_times_x h]
theorem f_mirrored (h : Md ms e) (v : R3 (Rg e (fM ms))) (k : Mi) : fd_mirrored [dt ms, v.D, .int k.int] = some (.ok (v.act (k.T Rg.xx)).D) := by
  cases k with
  | a =>
    refine (f_mirrored0 h v.p v.q v.r).trans ?_
    have e1 : v.act (Mi.a.T Rg.xx) = ⟨-v.p, v.p + v.q, v.r⟩ := by apply R3.ext' <;> simp only [R3.act, Mi.T, T3.ma] <;> grind
    rw [e1]; rfl
  | b =>
    refine (f_mirrored1 h v.p v.q v.r).trans ?_
    have e1 : v.act (Mi.b.T Rg.xx) = ⟨v.p + v.q, -v.q, v.r + Rg.xx * v.q⟩ := by apply R3.ext' <;> simp only [R3.act, Mi.T, T3.mb] <;> grind
    rw [e1]; rfl
  | c =>
    refine (f_mirrored2 h v.p v.q v.r).trans ?_
    have e1 : v.act (Mi.c.T Rg.xx) = ⟨v.p, v.q + Rg.xx * v.r, -v.r⟩ := by apply R3.ext' <;> simp only [R3.act, Mi.T, T3.mc] <;> grind
    rw [e1]; rfl
def dm (ks : List Mi) : List DE.D := ks.map fun k => .int k.int
theorem along_loop (h : Md ms e) {pl : DE.D} : ∀ (ks : List Mi) (v : R3 (Rg e (fM ms))) (y : Sl), ∃ y', forO (forF (.nm 3) (evB gd_mirrored_along 5000 [.asg 1 false (.call 0 [(.var 0), (.var 1), (.var 3)])])) (dm ks) [some (0, dt ms), some (0, v.D), some (0, pl), y] = some (.nx [some (0, dt ms), some (0, (v.act (prodM Rg.xx ks)).D), some (0, pl), y'])
  | [], v, y => ⟨y, by rw [show prodM (Rg.xx : Rg e (fM ms)) [] = T3.one from rfl, R3.act_one]; rfl⟩
  | k :: ks, v, y => by
    obtain ⟨y', e1⟩ := along_loop h (pl := pl) ks (v.act (k.T Rg.xx)) (some (0, .int k.int))
    refine ⟨y', ?_⟩
    have e2 : forF (.nm 3) (evB gd_mirrored_along 5000 [.asg 1 false (.call 0 [(.var 0), (.var 1), (.var 3)])]) (.int k.int) [some (0, dt ms), some (0, v.D), some (0, pl), y] = some (.nx [some (0, dt ms), some (0, (v.act (k.T Rg.xx)).D), some (0, pl), some (0, .int k.int)]) := by
      have := f_mirrored h v k
      simp [forF, gd_mirrored_along, defF, resO, evB, evS, ev, evs, evi, evo, bnd, exE, lft, tru, seqO, truD, bor, stc, envB, keepB, setS, initS, binD, cmpD, inA, idxA, idxD, bltD, itD, itS, it1, it2, lcF, turns, turnF, pat, pats, wipeE, setE, val?, forO, D.noL, D.noLs, atI, ixN, intsD, blsD, negD, slcD, cutD, isiD, isiO, rngL, flatD, shp_int, eqD_int, szl, List.range, List.range.loop, ownG, getO, putO, okT, this]
    show forO _ (.int k.int :: dm ks) _ = _
    unfold forO
    rw [e2]
    dsimp only
    rw [e1, R3.act_mul]; rfl
theorem f_along (h : Md ms e) (v : R3 (Rg e (fM ms))) (ks : List Mi) : fd_mirrored_along [dt ms, v.D, .lst (dm ks)] = some (.ok (v.act (prodM Rg.xx ks)).D) := by
  obtain ⟨y', e1⟩ := along_loop h (pl := .lst (dm ks)) ks v none
  have e0 : fd_mirrored_along [dt ms, v.D, .lst (dm ks)] = resO (evB gd_mirrored_along 5000 [.for (.nm 3) .seq false [(.var 2)] [.asg 1 false (.call 0 [(.var 0), (.var 1), (.var 3)])], .ret (.var 1)] [some (0, dt ms), some (0, v.D), some (0, .lst (dm ks)), none]) := rfl
  have e2 : evS gd_mirrored_along 5000 (.for (.nm 3) .seq false [(.var 2)] [.asg 1 false (.call 0 [(.var 0), (.var 1), (.var 3)])]) [some (0, dt ms), some (0, v.D), some (0, .lst (dm ks)), none] = _ := (forB_eq rfl).trans e1
  rw [e0, evB_nx e2]
  rfl
end
end DE
set_option linter.all false
set_option maxRecDepth 100000
set_option maxHeartbeats 0
set_option exponentiation.threshold 4000
namespace DE
open PySem PySem.Spec PyProof.Rows L2
def isTs (x : M D) (l : List Int) : Bool := match x with
  | some (.ok (.tup ds)) => decide (intsD ds = some l)
  | _ => false
theorem of_isTs : ∀ {x : M D} {l : List Int}, isTs x l = true → x = some (.ok (dt l))
  | some (.ok (.tup ds)), l, h => by
    have h : decide (intsD ds = some l) = true := h
    have := intsD_of (of_decide_eq_true h)
    subst this
    rfl
theorem v_all : ((List.range 31).all fun k => isTs (fd_v_polynomial [.int (k : Nat)]) (vL k)) = true := by decide +kernel
theorem f_v {k : Nat} (h : k < 31) : fd_v_polynomial [.int k] = some (.ok (dt (vL k))) := of_isTs (List.all_eq_true.mp v_all k (List.mem_range.mpr h))
end DE
set_option linter.all false
set_option maxRecDepth 100000
set_option maxHeartbeats 0
set_option exponentiation.threshold 4000
namespace DE
open PySem PySem.Spec PyProof.Rows L2
theorem vL_small : ((List.range 31).all fun k => (vL k).all fun m => decide (-(2 ^ 64) < m) && decide (m < 2 ^ 64)) = true := by decide +kernel
theorem md_v {e : Nat} (h : e < 29) : Md (vL (e + 2)) e := ⟨(vL_ln (e + 2)).1, fun m hm => by
  have h1 := List.all_eq_true.mp vL_small (e + 2) (List.mem_range.mpr (by omega))
  have h2 := List.all_eq_true.mp h1 m hm
  simp only [Bool.and_eq_true, decide_eq_true_eq] at h2
  exact h2, by omega⟩
theorem lst_icast {e : Nat} {m : Nat → Int} (a : Int) : Rg.lst (Rg.icast a : Rg e m) = a :: List.replicate e 0 := by
  apply List.ext_getElem?
  intro i
  by_cases h : i < e + 1
  · rw [lst_get _ h]
    show some (a * (if i = 0 then 1 else 0)) = _
    cases i with
    | zero => simp
    | succ i => rw [List.getElem?_cons_succ, List.getElem?_replicate, if_neg (show ¬ (i + 1 = 0) by omega), if_pos (show i < e by omega), Int.mul_zero]
  · rw [List.getElem?_eq_none (by rw [lst_len]; omega), List.getElem?_eq_none (by simp; omega)]
theorem rep_fl (k : Nat) : (List.replicate k [D.int 0]).flatten = (List.replicate k (0 : Int)).map D.int := by
  induction k with
  | zero => rfl
  | succ k ih => rw [List.replicate_succ, List.flatten_cons, ih, List.replicate_succ]; rfl
theorem f_constant {e : Nat} {m : Nat → Int} (he : e < 900) (a : Int) : fd_constant [.int ((e + 2 : Nat) : Int), .int a] = some (.ok (en (Rg.icast a : Rg e m))) := by
  have e1 : binD .Mult (.tup [.int 0]) (.int (e : Int)) = some (.tup ((List.replicate e (0 : Int)).map D.int)) := by
    unfold binD
    dsimp only
    rw [if_pos ⟨by simp, by omega, by omega, by simp⟩, Int.toNat_natCast, rep_fl]
  have e2 : binD .Add (.tup [.int a]) (.tup ((List.replicate e (0 : Int)).map D.int)) = some (en (Rg.icast a : Rg e m)) := by
    unfold binD
    dsimp only
    rw [if_pos (by simp [szl]; omega)]
    unfold en dt
    rw [lst_icast]; rfl
  have e3 : ((e + 2 : Nat) : Int) - 2 = (e : Int) := by omega
  have e4 : binD .Sub (.int ((e + 2 : Nat) : Int)) (.int 2) = some (.int (e : Int)) := by rw [← e3]; rfl
  generalize ((e + 2 : Nat) : Int) = N at *
  simp [fd_constant, gd_constant, bd_constant, defF, resO, evB, evS, ev, evs, evi, evo, bnd, exE, lft, tru, seqO, truD, bor, stc, envB, keepB, setS, initS, cmpD, inA, idxA, idxD, bltD, itD, itS, it1, it2, lcF, turns, turnF, pat, pats, wipeE, setE, val?, forO, D.noL, D.noLs, atI, ixN, intsD, blsD, negD, slcD, cutD, isiD, isiO, rngL, flatD, shp_int, eqD_int, szl, List.range, List.range.loop, ownG, getO, putO, okT, e1, e2, e4, -List.map_replicate]
theorem f_order {e : Nat} (he : e < 29) : fd_check_order [.int ((e + 2 : Nat) : Int)] = some (.ok .non) := by
  have h : ((List.range 29).all fun e => match fd_check_order [.int ((e + 2 : Nat) : Int)] with | some (.ok .non) => true | _ => false) = true := by decide +kernel
  have h1 := List.all_eq_true.mp h e (List.mem_range.mpr he)
  split at h1
  · assumption
  · cases h1
theorem f_ident3 : fd_identity [.int 3] = some (.ok (.tup [.tup [.int 1, .int 0, .int 0], .tup [.int 0, .int 1, .int 0], .tup [.int 0, .int 0, .int 1]])) := by rfl
theorem f_ident2' : fd_identity [.int 2] = some (.ok (.tup [.tup [.int 1, .int 0], .tup [.int 0, .int 1]])) := by rfl
theorem f_unit {e : Nat} (he : e < 29) : fd_unit_turning [.int ((e + 2 : Nat) : Int)] = some (.ok (T3.one : T3 (RN e)).D) := by
  have c0 := f_constant (e := e) (m := fM (vL (e + 2))) (by omega) 0
  have c1 := f_constant (e := e) (m := fM (vL (e + 2))) (by omega) 1
  have k := f_order he
  generalize ((e + 2 : Nat) : Int) = N at *
  simp [fd_unit_turning, gd_unit_turning, bd_unit_turning, defF, resO, evB, evS, ev, evs, evi, evo, bnd, exE, lft, tru, seqO, truD, bor, stc, envB, keepB, setS, initS, binD, cmpD, inA, idxA, idxD, bltD, itD, itS, it1, it2, lcF, turns, turnF, pat, pats, wipeE, setE, val?, forO, D.noL, D.noLs, atI, ixN, intsD, blsD, negD, slcD, cutD, isiD, isiO, rngL, flatD, shp_int, eqD_int, szl, List.range, List.range.loop, ownG, getO, putO, okT, k, f_ident3, c0, c1]
  rfl
theorem f_prodM {e : Nat} (he : e < 29) (ks : List Mi) : fd_product_of_mirrors [.int ((e + 2 : Nat) : Int), .lst (dm ks)] = some (.ok (prodM (Rg.xx : RN e) ks).D) := by
  have k1 := f_v (k := e + 2) (by omega)
  have k2 := f_unit he
  have k3 := fun v => f_along (md_v he) v ks
  have h0 := k3 ⟨1, 0, 0⟩
  have h1 := k3 ⟨0, 1, 0⟩
  have h2 := k3 ⟨0, 0, 1⟩
  rw [R3.act_e0] at h0
  rw [R3.act_e1] at h1
  rw [R3.act_e2] at h2
  simp only [R3.D] at h0 h1 h2
  simp only [T3.D, T3.one] at k2
  generalize hN : ((e + 2 : Nat) : Int) = N at *
  simp [fd_product_of_mirrors, gd_product_of_mirrors, bd_product_of_mirrors, defF, resO, evB, evS, ev, evs, evi, evo, bnd, exE, lft, tru, seqO, truD, bor, stc, envB, keepB, setS, initS, binD, cmpD, inA, idxA, idxD, bltD, itD, itS, it1, it2, lcF, turns, turnF, pat, pats, wipeE, setE, val?, forO, D.noL, D.noLs, atI, ixN, intsD, blsD, negD, slcD, cutD, isiD, isiO, rngL, flatD, shp_int, eqD_int, szl, List.range, List.range.loop, ownG, getO, putO, okT, k1, k2, h0, h1, h2]
  rfl
end DE
set_option linter.all false
set_option maxRecDepth 100000
set_option maxHeartbeats 4000000
set_option exponentiation.threshold 4000
namespace DE
open PySem PySem.Spec PyProof.Rows L2
theorem dm_app (k l : List Mi) : dm (k ++ l) = dm k ++ dm l := by unfold dm; rw [List.map_append]
theorem dm_len (k : List Mi) : (dm k).length = k.length := by unfold dm; rw [List.length_map]
theorem dm_rep (a b : Mi) : ∀ n, (List.replicate n [D.int a.int, D.int b.int]).flatten = dm (List.replicate n [a, b]).flatten
  | 0 => rfl
  | n + 1 => by rw [List.replicate_succ, List.flatten_cons, List.replicate_succ, List.flatten_cons, dm_app, dm_rep a b n]; rfl
theorem rep_dm (a b : Mi) {n : Nat} (h : n < 1000) : binD .Mult (.lst [.int a.int, .int b.int]) (.int (n : Int)) = some (.lst (dm (List.replicate n [a, b]).flatten)) := by
  unfold binD
  dsimp only
  rw [if_pos ⟨by omega, by omega, by simp [szl]; omega⟩, Int.toNat_natCast, dm_rep]
theorem f_turns {e : Nat} (he : e < 29) (k : Int) : fd_turns [.int ((e + 2 : Nat) : Int), .int k] = some (.ok (.lst (dm (trn (e + 2) k)))) := by
  have h1 := Int.emod_lt_of_pos k (show (0 : Int) < ((e + 2 : Nat) : Int) by omega)
  have h2 := Int.emod_nonneg k (show ((e + 2 : Nat) : Int) ≠ 0 by omega)
  unfold trn
  generalize hr : (k % ((e + 2 : Nat) : Int)).toNat = r
  have e1 : binD .Mod (.int k) (.int ((e + 2 : Nat) : Int)) = some (.int (r : Int)) := by
    unfold binD
    dsimp only
    rw [if_pos (by omega), Int.fmod_eq_emod_of_nonneg _ (by omega)]
    congr 2
    omega
  have e2 : binD .Mult (.int 2) (.int (r : Int)) = some (.int (2 * (r : Int))) := by
    unfold binD
    dsimp only
    rw [if_pos (.inl (by decide))]
  have e3 : binD .Sub (.int ((e + 2 : Nat) : Int)) (.int (r : Int)) = some (.int ((e + 2 - r : Nat) : Int)) := by
    show some (D.int (((e + 2 : Nat) : Int) - (r : Int))) = _
    congr 2
    omega
  have e4 := rep_dm .c .b (n := r) (by omega)
  have e5 := rep_dm .b .c (n := e + 2 - r) (by omega)
  simp only [Mi.int] at e4 e5
  have e6 : ((2 : Int) * (r : Int) ≤ ((e + 2 : Nat) : Int)) ↔ 2 * r ≤ e + 2 := by omega
  have q0 : fd_turns [.int ((e + 2 : Nat) : Int), .int k] = resO (evB gd_turns 5000 [.asg 1 false (.bin .Mod (.var 1) (.var 0)), .ret (.ite (.cmp .LtE (.bin .Mult (.cst (.int (2))) (.var 1)) (.var 0)) (.bin .Mult (.lst [(.glo 0), (.glo 1)]) (.var 1)) (.bin .Mult (.lst [(.glo 1), (.glo 0)]) (.bin .Sub (.var 0) (.var 1))))] [some (0, .int ((e + 2 : Nat) : Int)), some (0, .int k)]) := rfl
  generalize ((e + 2 : Nat) : Int) = N at *
  rw [q0, evB_nx (es_asg (el_bin (el_var rfl) (el_var rfl) e1) rfl)]
  have q2 : tru (ev gd_turns (.cmp .LtE (.bin .Mult (.cst (.int (2))) (.var 1)) (.var 0)) [some (.int N), some (.int (r : Int))]) = some (.ok (decide ((2 : Int) * (r : Int) ≤ N))) := el_tru (el_cmp (el_bin el_cst (el_var rfl) e2) (el_var rfl) rfl) rfl
  have q3 : ev gd_turns (.bin .Mult (.lst [(.glo 0), (.glo 1)]) (.var 1)) [some (.int N), some (.int (r : Int))] = some (.ok (.lst (dm (List.replicate r [Mi.c, Mi.b]).flatten))) := el_bin rfl (el_var rfl) e4
  have q4 : ev gd_turns (.bin .Mult (.lst [(.glo 1), (.glo 0)]) (.bin .Sub (.var 0) (.var 1))) [some (.int N), some (.int (r : Int))] = some (.ok (.lst (dm (List.replicate (e + 2 - r) [Mi.b, Mi.c]).flatten))) := el_bin rfl (el_bin (el_var rfl) (el_var rfl) e3) e5
  by_cases h : 2 * r ≤ e + 2
  · have h' := e6.mpr h
    rw [if_pos h, eb_ret (el_ite q2 (by rw [decide_eq_true h', if_pos rfl]; exact q3))]; rfl
  · have h' := mt e6.mp h
    rw [if_neg h, eb_ret (el_ite q2 (by rw [decide_eq_false h', if_neg Bool.false_ne_true]; exact q4))]; rfl
/-! ### the places of a word -/
def bPl : List S := [.ite (.cmp .Eq (.var 3) (.cst (.int (0)))) [.ext (.sl 2) false (.call 1 [(.var 0), (.var 5)])] [.ext (.sl 2) false (.bin .Add (.bin .Add (.lst [(.glo 0), (.glo 1)]) (.call 1 [(.var 0), (.neg (.var 5))])) (.lst [(.glo 0), (.glo 1)]))]]
def wD (w : List (Bool × Int)) : DE.D := .lst (w.map St2.D)
theorem pl_turn {e : Nat} (he : e < 29) (s : Bool × Int) {t : DE.D} {ks : List Mi} (hk : ks.length ≤ 10000000) {y3 y4 y5 : Sl} : ∃ y3' y4' y5', forF (.tp [(.nm 3), (.nm 4), (.nm 5)]) (evB gd_places_of 5000 bPl) (St2.D s) [some (0, .int ((e + 2 : Nat) : Int)), some (0, t), some (1, .lst (dm ks)), y3, y4, y5] = some (.nx [some (0, .int ((e + 2 : Nat) : Int)), some (0, t), some (1, .lst (dm (ks ++ (if s.1 then trn (e + 2) s.2 else [.a, .c] ++ trn (e + 2) (-s.2) ++ [.a, .c])))), y3', y4', y5']) := by
  have l1 := trn_len (N := e + 2) (by omega) s.2
  have l2 := trn_len (N := e + 2) (by omega) (-s.2)
  have e1 := f_turns he s.2
  have e2 := f_turns he (-s.2)
  obtain ⟨b, k⟩ := s
  dsimp only at *
  cases b with
  | true =>
    refine ⟨some (0, .int 0), some (0, .int 1), some (0, .int k), ?_⟩
    have h1 : (dm ks).length + (dm (trn (e + 2) k)).length ≤ 16777216 := by rw [dm_len, dm_len]; omega
    rw [if_pos rfl, dm_app]
    generalize ((e + 2 : Nat) : Int) = N at *
    simp [forF, St2.D, bPl, gd_places_of, defF, resO, evB, evS, ev, evs, evi, evo, bnd, exE, lft, tru, seqO, truD, bor, stc, envB, keepB, setS, initS, cmpD, inA, idxA, idxD, bltD, itD, itS, it1, it2, lcF, turns, turnF, pat, pats, wipeE, setE, val?, forO, D.noL, D.noLs, atI, ixN, intsD, blsD, negD, slcD, cutD, isiD, isiO, rngL, flatD, shp_int, eqD_int, szl, List.range, List.range.loop, ownG, getO, putO, okT, e1, h1]
  | false =>
    refine ⟨some (0, .int 1), some (0, .int 0), some (0, .int k), ?_⟩
    have g1 : binD .Add (.lst [.int 0, .int 2]) (.lst (dm (trn (e + 2) (-k)))) = some (.lst (dm ([Mi.a, Mi.c] ++ trn (e + 2) (-k)))) := by
      unfold binD
      dsimp only
      rw [if_pos (by rw [dm_len]; simp [szl]; omega), dm_app]; rfl
    have g2 : binD .Add (.lst (dm ([Mi.a, Mi.c] ++ trn (e + 2) (-k)))) (.lst [.int 0, .int 2]) = some (.lst (dm ([Mi.a, Mi.c] ++ trn (e + 2) (-k) ++ [Mi.a, Mi.c]))) := by
      unfold binD
      dsimp only
      rw [if_pos (by rw [dm_len]; simp [szl]; omega), dm_app _ [Mi.a, Mi.c]]; rfl
    have h1 : (dm ks).length + (dm ([Mi.a, Mi.c] ++ trn (e + 2) (-k) ++ [Mi.a, Mi.c])).length ≤ 16777216 := by rw [dm_len, dm_len]; simp only [List.length_append, List.length_cons, List.length_nil]; omega
    rw [if_neg (by simp), dm_app ks]
    generalize dm ([Mi.a, Mi.c] ++ trn (e + 2) (-k) ++ [Mi.a, Mi.c]) = L1 at *
    generalize dm ([Mi.a, Mi.c] ++ trn (e + 2) (-k)) = L2 at *
    generalize ((e + 2 : Nat) : Int) = N at *
    simp [forF, St2.D, bPl, gd_places_of, c_A, c_C, defF, resO, evB, evS, ev, evs, evi, evo, bnd, exE, lft, tru, seqO, truD, bor, stc, envB, keepB, setS, initS, cmpD, inA, idxA, idxD, bltD, itD, itS, it1, it2, lcF, turns, turnF, pat, pats, wipeE, setE, val?, forO, D.noL, D.noLs, atI, ixN, intsD, blsD, negD, slcD, cutD, isiD, isiO, rngL, flatD, shp_int, eqD_int, szl, List.range, List.range.loop, ownG, getO, putO, okT, e2, g1, g2, h1]
theorem pl_loop {e : Nat} (he : e < 29) {t : DE.D} : ∀ (w : List (Bool × Int)) (ks : List Mi) (y3 y4 y5 : Sl), ks.length + 64 * w.length ≤ 10000000 → ∃ y3' y4' y5', forO (forF (.tp [(.nm 3), (.nm 4), (.nm 5)]) (evB gd_places_of 5000 bPl)) (w.map St2.D) [some (0, .int ((e + 2 : Nat) : Int)), some (0, t), some (1, .lst (dm ks)), y3, y4, y5] = some (.nx [some (0, .int ((e + 2 : Nat) : Int)), some (0, t), some (1, .lst (dm (ks ++ plc (e + 2) w))), y3', y4', y5'])
  | [], ks, y3, y4, y5, _ => ⟨y3, y4, y5, by rw [show plc (e + 2) [] = [] from rfl, List.append_nil]; rfl⟩
  | s :: w, ks, y3, y4, y5, h => by
    rw [List.length_cons] at h
    have l1 := trn_len (N := e + 2) (by omega) s.2
    have l2 := trn_len (N := e + 2) (by omega) (-s.2)
    obtain ⟨z3, z4, z5, e1⟩ := pl_turn he s (t := t) (ks := ks) (by omega) (y3 := y3) (y4 := y4) (y5 := y5)
    obtain ⟨u3, u4, u5, e2⟩ := pl_loop he (t := t) w (ks ++ (if s.1 then trn (e + 2) s.2 else [.a, .c] ++ trn (e + 2) (-s.2) ++ [.a, .c])) z3 z4 z5 (by
      rw [List.length_append]
      split
      · omega
      · simp only [List.length_append, List.length_cons, List.length_nil]; omega)
    refine ⟨u3, u4, u5, ?_⟩
    rw [List.map_cons]
    unfold forO
    rw [e1]
    dsimp only
    rw [e2, List.append_assoc]; rfl
theorem f_places {e : Nat} (he : e < 29) {t : DE.D} {w : List (Bool × Int)} (hw : fd_word_of [t] = some (.ok (wD w))) (hl : w.length ≤ 150000) : fd_places_of [.int ((e + 2 : Nat) : Int), t] = some (.ok (.lst (dm (plc (e + 2) w)))) := by
  obtain ⟨z3, z4, z5, e1⟩ := pl_loop he (t := t) w [] none none none (by simp; omega)
  have e2 : evS gd_places_of 5000 (.for (.tp [(.nm 3), (.nm 4), (.nm 5)]) .seq false [(.call 0 [(.var 1)])] bPl) [some (0, .int ((e + 2 : Nat) : Int)), some (0, t), some (1, .lst (dm [])), none, none, none] = _ := (forB_eq (items := w.map St2.D) (by
    show (bnd (bnd (bnd (bnd (some (.ok t)) fun d => bnd (some (.ok [])) fun ds => some (.ok (d :: ds))) fd_word_of) fun d => bnd (some (.ok [])) fun ds => some (.ok (d :: ds))) fun ds => lft (itD .seq ds)) = _
    simp only [bnd_ok]
    rw [hw]
    rfl)).trans e1
  have e0 : fd_places_of [.int ((e + 2 : Nat) : Int), t] = resO (evB gd_places_of 5000 [.own 2 1 (.lst []), .for (.tp [(.nm 3), (.nm 4), (.nm 5)]) .seq false [(.call 0 [(.var 1)])] bPl, .frz 2, .ret (.var 2)] [some (0, .int ((e + 2 : Nat) : Int)), some (0, t), none, none, none, none]) := rfl
  rw [e0, evB_nx (show evS gd_places_of 5000 (.own 2 1 (.lst [])) _ = some (.nx [some (0, .int ((e + 2 : Nat) : Int)), some (0, t), some (1, .lst (dm [])), none, none, none]) from rfl), evB_nx e2]
  rfl
theorem f_turned {e : Nat} (he : e < 29) {t : DE.D} {w : List (Bool × Int)} (hc : fd_check_table_of [.int 2, t] = some (.ok .non)) (hw : fd_word_of [t] = some (.ok (wD w))) (hl : w.length ≤ 150000) : fd_turned [.int ((e + 2 : Nat) : Int), t] = some (.ok ((tnE e).rA (wA w)).D) := by
  have k := f_order he
  have k2 := f_places he hw hl
  have k3 := f_prodM he (plc (e + 2) w)
  rw [plc_prod] at k3
  generalize ((e + 2 : Nat) : Int) = N at *
  simp [fd_turned, gd_turned, bd_turned, defF, resO, evB, evS, ev, evs, evi, evo, bnd, exE, lft, tru, seqO, truD, bor, stc, envB, keepB, setS, initS, binD, cmpD, inA, idxA, idxD, bltD, itD, itS, it1, it2, lcF, turns, turnF, pat, pats, wipeE, setE, val?, forO, D.noL, D.noLs, atI, ixN, intsD, blsD, negD, slcD, cutD, isiD, isiO, rngL, flatD, shp_int, eqD_int, szl, List.range, List.range.loop, ownG, getO, putO, okT, k, hc, k2, k3]
end DE
set_option linter.all false
set_option maxRecDepth 100000
set_option maxHeartbeats 4000000
set_option exponentiation.threshold 4000
namespace DE
open PySem PySem.Spec PyProof.Rows L2
/-! ### shapes and equality of data of any length -/
def Shq (k : Nat) (d : DE.D) : Prop := d.pl = true ∧ d.toP.canLay0 = true ∧ d.toP.depth ≤ k
theorem Shq.shp {k : Nat} {d : DE.D} (h : Shq k d) (hk : k ≤ 64) : shp d = true := by
  unfold DE.shp SeqAt.shaped
  rw [h.1, h.2.1, decide_eq_true (Nat.le_trans h.2.2 hk)]; rfl
theorem Shq.list {k : Nat} : ∀ {ds : List DE.D}, (∀ d ∈ ds, Shq k d) → D.pls ds = true ∧ PyData.canLayAll0 (D.toPs ds) = true ∧ PyData.depthAll (D.toPs ds) ≤ k
  | [], _ => ⟨rfl, rfl, by simp [D.toPs, PyData.depthAll]⟩
  | d :: ds, h => by
    obtain ⟨a1, a2, a3⟩ := h d List.mem_cons_self
    obtain ⟨b1, b2, b3⟩ := Shq.list (ds := ds) fun x hx => h x (List.mem_cons_of_mem _ hx)
    refine ⟨?_, ?_, ?_⟩
    · simp only [D.pls, a1, b1, Bool.and_self]
    · simp only [D.toPs, PyData.canLayAll0, a2, b2, Bool.and_self]
    · simp only [D.toPs, PyData.depthAll]; omega
theorem Shq.tup {k : Nat} {ds : List DE.D} (h : ∀ d ∈ ds, Shq k d) : Shq (k + 1) (.tup ds) := by
  obtain ⟨b1, b2, b3⟩ := Shq.list h
  refine ⟨by simpa only [D.pl] using b1, by simpa only [D.toP, PyData.canLay0] using b2, ?_⟩
  simp only [D.toP, PyData.depth]; omega
theorem Shq.lst {k : Nat} {ds : List DE.D} (h : ∀ d ∈ ds, Shq k d) : Shq (k + 1) (.lst ds) := by
  obtain ⟨b1, b2, b3⟩ := Shq.list h
  refine ⟨by simpa only [D.pl] using b1, by simpa only [D.toP, PyData.canLay0] using b2, ?_⟩
  simp only [D.toP, PyData.depth]; omega
theorem Shq.int (i : Int) : Shq 0 (.int i) := ⟨rfl, rfl, by simp [D.toP, PyData.depth]⟩
theorem Shq.mono {k l : Nat} {d : DE.D} (h : Shq k d) (hk : k ≤ l) : Shq l d := ⟨h.1, h.2.1, Nat.le_trans h.2.2 hk⟩
theorem Shq.ints (l : List Int) : ∀ d ∈ l.map D.int, Shq 0 d := fun d hd => by
  obtain ⟨i, _, rfl⟩ := List.mem_map.mp hd
  exact .int i
theorem eqv_ints : ∀ (l l' : List Int), PyData.eqvAll (D.toPs (l.map D.int)) (D.toPs (l'.map D.int)) = decide (l = l')
  | [], [] => rfl
  | [], b :: l' => rfl
  | a :: l, [] => rfl
  | a :: l, b :: l' => by
    have := eqv_ints l l'
    simp only [List.map_cons, D.toPs, D.toP, PyData.eqvAll, PyData.eqv, this]
    by_cases h : a = b
    · subst h; simp
    · simp [h]
theorem eqD_tup (as bs : List DE.D) : eqD (.tup as) (.tup bs) = PyData.eqvAll (D.toPs as) (D.toPs bs) := by simp only [eqD, D.toP, PyData.eqv]
theorem eqD_dt (l l' : List Int) : eqD (dt l) (dt l') = decide (l = l') := by
  unfold dt
  rw [eqD_tup, eqv_ints]
theorem eqAll_cons (a b : DE.D) (as bs : List DE.D) : PyData.eqvAll (D.toPs (a :: as)) (D.toPs (b :: bs)) = (eqD a b && PyData.eqvAll (D.toPs as) (D.toPs bs)) := by simp only [D.toPs, PyData.eqvAll, eqD]
theorem eqAll_nil : PyData.eqvAll (D.toPs []) (D.toPs []) = true := by simp only [D.toPs, PyData.eqvAll]
end DE
set_option linter.all false
set_option maxRecDepth 100000
set_option maxHeartbeats 4000000
set_option exponentiation.threshold 4000
namespace DE
open PySem PySem.Spec PyProof.Rows L2
section
variable {e : Nat} {m : Nat → Int}
theorem eqD_en (P Q : Rg e m) : eqD (en P) (en Q) = decide (Rg.lst P = Rg.lst Q) := eqD_dt _ _
theorem Shq.en (P : Rg e m) : Shq 1 (en P) := .tup (.ints _)
end
section
variable {ms : List Int} {e : Nat}
theorem Shq.T3 (M : T3 (Rg e (fM ms))) : Shq 3 M.D := by
  refine .tup fun d hd => ?_
  rcases List.mem_cons.mp hd with rfl | hd
  · refine .tup fun d hd => ?_
    rcases List.mem_cons.mp hd with rfl | hd
    · exact .en _
    rcases List.mem_cons.mp hd with rfl | hd
    · exact .en _
    rcases List.mem_cons.mp hd with rfl | hd
    · exact .en _
    cases hd
  rcases List.mem_cons.mp hd with rfl | hd
  · refine .tup fun d hd => ?_
    rcases List.mem_cons.mp hd with rfl | hd
    · exact .en _
    rcases List.mem_cons.mp hd with rfl | hd
    · exact .en _
    rcases List.mem_cons.mp hd with rfl | hd
    · exact .en _
    cases hd
  rcases List.mem_cons.mp hd with rfl | hd
  · refine .tup fun d hd => ?_
    rcases List.mem_cons.mp hd with rfl | hd
    · exact .en _
    rcases List.mem_cons.mp hd with rfl | hd
    · exact .en _
    rcases List.mem_cons.mp hd with rfl | hd
    · exact .en _
    cases hd
  cases hd
theorem eqD_T3 (M K : T3 (Rg e (fM ms))) : eqD M.D K.D = true ↔ M = K := by
  unfold T3.D
  simp only [eqD_tup, eqAll_cons, eqAll_nil, eqD_en, Bool.and_true, Bool.and_eq_true, decide_eq_true_eq]
  constructor
  · rintro ⟨⟨h1, h2, h3⟩, ⟨h4, h5, h6⟩, h7, h8, h9⟩
    exact T3.ext' (lst_inj h1) (lst_inj h2) (lst_inj h3) (lst_inj h4) (lst_inj h5) (lst_inj h6) (lst_inj h7) (lst_inj h8) (lst_inj h9)
  · rintro rfl
    exact ⟨⟨rfl, rfl, rfl⟩, ⟨rfl, rfl, rfl⟩, rfl, rfl, rfl⟩
end
/-! ### is_made -/
theorem f_reduced (x : A2) (n : Nat) (h : n ≠ 0) : fd_reduced [.int (n : Int), x.D] = some (.ok (x.red n).D) := by
  have hz : ¬ ((n : Int) = 0) := by omega
  generalize (n : Int) = N at *
  simp [fd_reduced, gd_reduced, bd_reduced, defF, resO, evB, evS, ev, evs, evi, evo, bnd, exE, lft, tru, seqO, truD, bor, stc, envB, keepB, setS, initS, binD, cmpD, inA, idxA, idxD, bltD, itD, itS, it1, it2, lcF, turns, turnF, pat, pats, wipeE, setE, val?, forO, D.noL, D.noLs, atI, ixN, intsD, blsD, negD, slcD, cutD, isiD, isiO, rngL, flatD, shp_int, eqD_int, szl, List.range, List.range.loop, ownG, getO, putO, okT, A2.D, A2.red, hz]
theorem f_num60 {e : Nat} (he : e < 29) : fd_check_number [.int ((e + 2 : Nat) : Int), .int 1, c_MOST_modulo] = some (.ok .non) := by
  have h : ((List.range 29).all fun e => match fd_check_number [.int ((e + 2 : Nat) : Int), .int 1, c_MOST_modulo] with | some (.ok .non) => true | _ => false) = true := by decide +kernel
  have h1 := List.all_eq_true.mp h e (List.mem_range.mpr he)
  split at h1
  · assumption
  · cases h1
theorem f_ckof {t : DE.D} {r1 r2 : DE.D} (h : fd_check_table [t] = some (.ok .non)) (ht : t = .tup [r1, r2]) : fd_check_table_of [.int 2, t] = some (.ok .non) := by
  subst ht
  simp [fd_check_table_of, gd_check_table_of, bd_check_table_of, defF, resO, evB, evS, ev, evs, evi, evo, bnd, exE, lft, tru, seqO, truD, bor, stc, envB, keepB, setS, initS, binD, cmpD, inA, idxA, idxD, bltD, itD, itS, it1, it2, lcF, turns, turnF, pat, pats, wipeE, setE, val?, forO, D.noL, D.noLs, atI, ixN, intsD, blsD, negD, slcD, cutD, isiD, isiO, rngL, flatD, shp_int, eqD_int, szl, List.range, List.range.loop, ownG, getO, putO, okT, h]
theorem f_alike {e : Nat} (he : e < 29) {x y : A2} (hx : fd_check_table [x.D] = some (.ok .non)) (hy : fd_check_table [y.D] = some (.ok .non)) : fd_is_alike [.int ((e + 2 : Nat) : Int), x.D, y.D] = some (.ok (.bl (decide (x.red ((e + 2 : Nat) : Int) = y.red ((e + 2 : Nat) : Int))))) := by
  have k1 := f_num60 he
  have k2 := f_reduced x (e + 2) (by omega)
  have k3 := f_reduced y (e + 2) (by omega)
  have k4 := f_ckof hy rfl
  have k5 : bltD .len [x.D] = some (.int 2) := rfl
  have k6 : cmpD .Eq (x.red ((e + 2 : Nat) : Int)).D (y.red ((e + 2 : Nat) : Int)).D = some (.bl (decide (x.red ((e + 2 : Nat) : Int) = y.red ((e + 2 : Nat) : Int)))) := by
    unfold cmpD
    dsimp only
    rw [A2.shp_D, A2.shp_D, A2.eqD_D]; rfl
  generalize ((e + 2 : Nat) : Int) = N at *
  simp [fd_is_alike, gd_is_alike, bd_is_alike, defF, resO, evB, evS, ev, evs, bnd, exE, lft, seqO, bor, stc, envB, initS, inA, k1, hx, k5, k4, k2, k3, k6]
end DE
set_option linter.all false
set_option maxRecDepth 100000
set_option maxHeartbeats 4000000
set_option exponentiation.threshold 4000
namespace DE
open PySem PySem.Spec PyProof.Rows L2
def S1 (x : Int) : Prop := x.natAbs < 2 ^ 1000
def S2 (x : Int) : Prop := x.natAbs < 2 ^ 3000
theorem log2_lt (x : Nat) (k : Nat) (h : x < 2 ^ k) (hk : 0 < k) : x.log2 < k := PySem.Flt.log2_lt_of hk h
theorem mul11 {x y : Int} (hx : S1 x) (hy : S1 y) : MulP x y := .inr (.inr (by have := log2_lt _ _ hx (by decide); have := log2_lt _ _ hy (by decide); omega))
theorem mul12 {x y : Int} (hx : S1 x) (hy : S2 y) : MulP x y := .inr (.inr (by have := log2_lt _ _ hx (by decide); have := log2_lt _ _ hy (by decide); omega))
theorem S2_of {a b c d : Int} (ha : S1 a) (hb : S1 b) (hc : S1 c) (hd : S1 d) : S2 (a * b - c * d) := by
  unfold S1 S2 at *
  have h1 : (a * b).natAbs < 2 ^ 2000 := by
    rw [Int.natAbs_mul, show (2000 : Nat) = 1000 + 1000 from rfl, Nat.pow_add]; exact Nat.mul_lt_mul'' ha hb
  have h2 : (c * d).natAbs < 2 ^ 2000 := by
    rw [Int.natAbs_mul, show (2000 : Nat) = 1000 + 1000 from rfl, Nat.pow_add]; exact Nat.mul_lt_mul'' hc hd
  have h3 : (2 : Nat) ^ 600 + 2 ^ 2000 ≤ 2 ^ 3000 := by decide
  omega
abbrev t2 (a b c d : Int) : D := .tup [.tup [.int a, .int b], .tup [.int c, .int d]]
abbrev t3 (a b c d e f g h i : Int) : D := .tup [.tup [.int a, .int b, .int c], .tup [.int d, .int e, .int f], .tup [.int g, .int h, .int i]]
theorem f_is_row2 (a b : Int) : fd_is_row [.tup [.int a, .int b], .int 2] = some (.ok (.bl true)) := by rfl
theorem f_is_row3 (a b c : Int) : fd_is_row [.tup [.int a, .int b, .int c], .int 3] = some (.ok (.bl true)) := by rfl
theorem f_hs2 (a b c d : Int) : fd_has_shape [t2 a b c d] = some (.ok (.bl true)) := by rfl
theorem f_hs3 (a b c d e f g h i : Int) : fd_has_shape [t3 a b c d e f g h i] = some (.ok (.bl true)) := by rfl

theorem f_det2 {a b c d : Int} (ha : S1 a) (hb : S1 b) (hc : S1 c) (hd : S1 d) : fd_determinant [t2 a b c d] = some (.ok (.int (a * d - b * c))) := by
  simp [fd_determinant, gd_determinant, bd_determinant, defF, resO, evB, evS, ev, evs, evi, evo, bnd, exE, lft, tru, seqO, truD, bor, stc, envB, keepB, setS, initS, binD, cmpD, inA, idxA, idxD, bltD, itD, itS, it1, it2, lcF, turns, turnF, pat, pats, wipeE, setE, val?, forO, D.noL, D.noLs, atI, ixN, intsD, blsD, negD, slcD, cutD, isiD, isiO, rngL, flatD, shp_int, eqD_int, szl, List.range, List.range.loop, ownG, getO, putO, okT, mul11, ha, hb, hc, hd]
theorem f_cof00 {a b c d e f g h i : Int} (ha : S1 a) (hb : S1 b) (hc : S1 c) (hd : S1 d) (he : S1 e) (hf : S1 f) (hg : S1 g) (hh : S1 h) (hi : S1 i) : fd_cofactor [t3 a b c d e f g h i, .int 0, .int 0] = some (.ok (.int (e * i - f * h))) := by
  simp [fd_cofactor, gd_cofactor, bd_cofactor, c_OTHERS, defF, resO, evB, evS, ev, evs, evi, evo, bnd, exE, lft, tru, seqO, truD, bor, stc, envB, keepB, setS, initS, binD, cmpD, inA, idxA, idxD, bltD, itD, itS, it1, it2, lcF, turns, turnF, pat, pats, wipeE, setE, val?, forO, D.noL, D.noLs, atI, ixN, intsD, blsD, negD, slcD, cutD, isiD, isiO, rngL, flatD, shp_int, eqD_int, szl, List.range, List.range.loop, ownG, getO, putO, okT, mul11, ha, hb, hc, hd, he, hf, hg, hh, hi]
theorem f_cof01 {a b c d e f g h i : Int} (ha : S1 a) (hb : S1 b) (hc : S1 c) (hd : S1 d) (he : S1 e) (hf : S1 f) (hg : S1 g) (hh : S1 h) (hi : S1 i) : fd_cofactor [t3 a b c d e f g h i, .int 0, .int 1] = some (.ok (.int (f * g - d * i))) := by
  simp [fd_cofactor, gd_cofactor, bd_cofactor, c_OTHERS, defF, resO, evB, evS, ev, evs, evi, evo, bnd, exE, lft, tru, seqO, truD, bor, stc, envB, keepB, setS, initS, binD, cmpD, inA, idxA, idxD, bltD, itD, itS, it1, it2, lcF, turns, turnF, pat, pats, wipeE, setE, val?, forO, D.noL, D.noLs, atI, ixN, intsD, blsD, negD, slcD, cutD, isiD, isiO, rngL, flatD, shp_int, eqD_int, szl, List.range, List.range.loop, ownG, getO, putO, okT, mul11, ha, hb, hc, hd, he, hf, hg, hh, hi]
theorem f_cof02 {a b c d e f g h i : Int} (ha : S1 a) (hb : S1 b) (hc : S1 c) (hd : S1 d) (he : S1 e) (hf : S1 f) (hg : S1 g) (hh : S1 h) (hi : S1 i) : fd_cofactor [t3 a b c d e f g h i, .int 0, .int 2] = some (.ok (.int (d * h - e * g))) := by
  simp [fd_cofactor, gd_cofactor, bd_cofactor, c_OTHERS, defF, resO, evB, evS, ev, evs, evi, evo, bnd, exE, lft, tru, seqO, truD, bor, stc, envB, keepB, setS, initS, binD, cmpD, inA, idxA, idxD, bltD, itD, itS, it1, it2, lcF, turns, turnF, pat, pats, wipeE, setE, val?, forO, D.noL, D.noLs, atI, ixN, intsD, blsD, negD, slcD, cutD, isiD, isiO, rngL, flatD, shp_int, eqD_int, szl, List.range, List.range.loop, ownG, getO, putO, okT, mul11, ha, hb, hc, hd, he, hf, hg, hh, hi]
theorem f_cof10 {a b c d e f g h i : Int} (ha : S1 a) (hb : S1 b) (hc : S1 c) (hd : S1 d) (he : S1 e) (hf : S1 f) (hg : S1 g) (hh : S1 h) (hi : S1 i) : fd_cofactor [t3 a b c d e f g h i, .int 1, .int 0] = some (.ok (.int (h * c - i * b))) := by
  simp [fd_cofactor, gd_cofactor, bd_cofactor, c_OTHERS, defF, resO, evB, evS, ev, evs, evi, evo, bnd, exE, lft, tru, seqO, truD, bor, stc, envB, keepB, setS, initS, binD, cmpD, inA, idxA, idxD, bltD, itD, itS, it1, it2, lcF, turns, turnF, pat, pats, wipeE, setE, val?, forO, D.noL, D.noLs, atI, ixN, intsD, blsD, negD, slcD, cutD, isiD, isiO, rngL, flatD, shp_int, eqD_int, szl, List.range, List.range.loop, ownG, getO, putO, okT, mul11, ha, hb, hc, hd, he, hf, hg, hh, hi]
theorem f_cof11 {a b c d e f g h i : Int} (ha : S1 a) (hb : S1 b) (hc : S1 c) (hd : S1 d) (he : S1 e) (hf : S1 f) (hg : S1 g) (hh : S1 h) (hi : S1 i) : fd_cofactor [t3 a b c d e f g h i, .int 1, .int 1] = some (.ok (.int (i * a - g * c))) := by
  simp [fd_cofactor, gd_cofactor, bd_cofactor, c_OTHERS, defF, resO, evB, evS, ev, evs, evi, evo, bnd, exE, lft, tru, seqO, truD, bor, stc, envB, keepB, setS, initS, binD, cmpD, inA, idxA, idxD, bltD, itD, itS, it1, it2, lcF, turns, turnF, pat, pats, wipeE, setE, val?, forO, D.noL, D.noLs, atI, ixN, intsD, blsD, negD, slcD, cutD, isiD, isiO, rngL, flatD, shp_int, eqD_int, szl, List.range, List.range.loop, ownG, getO, putO, okT, mul11, ha, hb, hc, hd, he, hf, hg, hh, hi]
theorem f_cof12 {a b c d e f g h i : Int} (ha : S1 a) (hb : S1 b) (hc : S1 c) (hd : S1 d) (he : S1 e) (hf : S1 f) (hg : S1 g) (hh : S1 h) (hi : S1 i) : fd_cofactor [t3 a b c d e f g h i, .int 1, .int 2] = some (.ok (.int (g * b - h * a))) := by
  simp [fd_cofactor, gd_cofactor, bd_cofactor, c_OTHERS, defF, resO, evB, evS, ev, evs, evi, evo, bnd, exE, lft, tru, seqO, truD, bor, stc, envB, keepB, setS, initS, binD, cmpD, inA, idxA, idxD, bltD, itD, itS, it1, it2, lcF, turns, turnF, pat, pats, wipeE, setE, val?, forO, D.noL, D.noLs, atI, ixN, intsD, blsD, negD, slcD, cutD, isiD, isiO, rngL, flatD, shp_int, eqD_int, szl, List.range, List.range.loop, ownG, getO, putO, okT, mul11, ha, hb, hc, hd, he, hf, hg, hh, hi]
theorem f_cof20 {a b c d e f g h i : Int} (ha : S1 a) (hb : S1 b) (hc : S1 c) (hd : S1 d) (he : S1 e) (hf : S1 f) (hg : S1 g) (hh : S1 h) (hi : S1 i) : fd_cofactor [t3 a b c d e f g h i, .int 2, .int 0] = some (.ok (.int (b * f - c * e))) := by
  simp [fd_cofactor, gd_cofactor, bd_cofactor, c_OTHERS, defF, resO, evB, evS, ev, evs, evi, evo, bnd, exE, lft, tru, seqO, truD, bor, stc, envB, keepB, setS, initS, binD, cmpD, inA, idxA, idxD, bltD, itD, itS, it1, it2, lcF, turns, turnF, pat, pats, wipeE, setE, val?, forO, D.noL, D.noLs, atI, ixN, intsD, blsD, negD, slcD, cutD, isiD, isiO, rngL, flatD, shp_int, eqD_int, szl, List.range, List.range.loop, ownG, getO, putO, okT, mul11, ha, hb, hc, hd, he, hf, hg, hh, hi]
theorem f_cof21 {a b c d e f g h i : Int} (ha : S1 a) (hb : S1 b) (hc : S1 c) (hd : S1 d) (he : S1 e) (hf : S1 f) (hg : S1 g) (hh : S1 h) (hi : S1 i) : fd_cofactor [t3 a b c d e f g h i, .int 2, .int 1] = some (.ok (.int (c * d - a * f))) := by
  simp [fd_cofactor, gd_cofactor, bd_cofactor, c_OTHERS, defF, resO, evB, evS, ev, evs, evi, evo, bnd, exE, lft, tru, seqO, truD, bor, stc, envB, keepB, setS, initS, binD, cmpD, inA, idxA, idxD, bltD, itD, itS, it1, it2, lcF, turns, turnF, pat, pats, wipeE, setE, val?, forO, D.noL, D.noLs, atI, ixN, intsD, blsD, negD, slcD, cutD, isiD, isiO, rngL, flatD, shp_int, eqD_int, szl, List.range, List.range.loop, ownG, getO, putO, okT, mul11, ha, hb, hc, hd, he, hf, hg, hh, hi]
theorem f_cof22 {a b c d e f g h i : Int} (ha : S1 a) (hb : S1 b) (hc : S1 c) (hd : S1 d) (he : S1 e) (hf : S1 f) (hg : S1 g) (hh : S1 h) (hi : S1 i) : fd_cofactor [t3 a b c d e f g h i, .int 2, .int 2] = some (.ok (.int (a * e - b * d))) := by
  simp [fd_cofactor, gd_cofactor, bd_cofactor, c_OTHERS, defF, resO, evB, evS, ev, evs, evi, evo, bnd, exE, lft, tru, seqO, truD, bor, stc, envB, keepB, setS, initS, binD, cmpD, inA, idxA, idxD, bltD, itD, itS, it1, it2, lcF, turns, turnF, pat, pats, wipeE, setE, val?, forO, D.noL, D.noLs, atI, ixN, intsD, blsD, negD, slcD, cutD, isiD, isiO, rngL, flatD, shp_int, eqD_int, szl, List.range, List.range.loop, ownG, getO, putO, okT, mul11, ha, hb, hc, hd, he, hf, hg, hh, hi]
theorem f_det3 {a b c d e f g h i : Int} (ha : S1 a) (hb : S1 b) (hc : S1 c) (hd : S1 d) (he : S1 e) (hf : S1 f) (hg : S1 g) (hh : S1 h) (hi : S1 i) : fd_determinant [t3 a b c d e f g h i] = some (.ok (.int (a * (e * i - f * h) + (b * (f * g - d * i) + c * (d * h - e * g))))) := by
  simp [fd_determinant, gd_determinant, bd_determinant, defF, resO, evB, evS, ev, evs, evi, evo, bnd, exE, lft, tru, seqO, truD, bor, stc, envB, keepB, setS, initS, binD, cmpD, inA, idxA, idxD, bltD, itD, itS, it1, it2, lcF, turns, turnF, pat, pats, wipeE, setE, val?, forO, D.noL, D.noLs, atI, ixN, intsD, blsD, negD, slcD, cutD, isiD, isiO, rngL, flatD, shp_int, eqD_int, szl, List.range, List.range.loop, ownG, getO, putO, okT, mul11, mul12, S2_of, f_cof00, f_cof01, f_cof02, List.range, List.range.loop, ha, hb, hc, hd, he, hf, hg, hh, hi]
def det3 (a b c d e f g h i : Int) : Int := a * (e * i - f * h) + (b * (f * g - d * i) + c * (d * h - e * g))
theorem f_is_table2 {a b c d : Int} (ha : S1 a) (hb : S1 b) (hc : S1 c) (hd : S1 d) (hdet : a * d - b * c = 1) : fd_is_table [t2 a b c d] = some (.ok (.bl true)) := by
  simp [fd_is_table, gd_is_table, bd_is_table, defF, resO, evB, evS, ev, evs, evi, evo, bnd, exE, lft, tru, seqO, truD, bor, stc, envB, keepB, setS, initS, binD, cmpD, inA, idxA, idxD, bltD, itD, itS, it1, it2, lcF, turns, turnF, pat, pats, wipeE, setE, val?, forO, D.noL, D.noLs, atI, ixN, intsD, blsD, negD, slcD, cutD, isiD, isiO, rngL, flatD, shp_int, eqD_int, szl, List.range, List.range.loop, ownG, getO, putO, okT, f_hs2, f_det2, hdet, ha, hb, hc, hd]
theorem f_is_table3 {a b c d e f g h i : Int} (ha : S1 a) (hb : S1 b) (hc : S1 c) (hd : S1 d) (he : S1 e) (hf : S1 f) (hg : S1 g) (hh : S1 h) (hi : S1 i) (hdet : det3 a b c d e f g h i = 1) : fd_is_table [t3 a b c d e f g h i] = some (.ok (.bl true)) := by
  unfold det3 at hdet
  simp [fd_is_table, gd_is_table, bd_is_table, defF, resO, evB, evS, ev, evs, evi, evo, bnd, exE, lft, tru, seqO, truD, bor, stc, envB, keepB, setS, initS, binD, cmpD, inA, idxA, idxD, bltD, itD, itS, it1, it2, lcF, turns, turnF, pat, pats, wipeE, setE, val?, forO, D.noL, D.noLs, atI, ixN, intsD, blsD, negD, slcD, cutD, isiD, isiO, rngL, flatD, shp_int, eqD_int, szl, List.range, List.range.loop, ownG, getO, putO, okT, f_hs3, f_det3, hdet, ha, hb, hc, hd, he, hf, hg, hh, hi]
theorem f_check2 {a b c d : Int} (ha : S1 a) (hb : S1 b) (hc : S1 c) (hd : S1 d) (hdet : a * d - b * c = 1) : fd_check_table [t2 a b c d] = some (.ok .non) := by
  simp [fd_check_table, gd_check_table, bd_check_table, defF, resO, evB, evS, ev, evs, evi, evo, bnd, exE, lft, tru, seqO, truD, bor, stc, envB, keepB, setS, initS, binD, cmpD, inA, idxA, idxD, bltD, itD, itS, it1, it2, lcF, turns, turnF, pat, pats, wipeE, setE, val?, forO, D.noL, D.noLs, atI, ixN, intsD, blsD, negD, slcD, cutD, isiD, isiO, rngL, flatD, shp_int, eqD_int, szl, List.range, List.range.loop, ownG, getO, putO, okT, f_is_table2, hdet, ha, hb, hc, hd]
theorem f_check3 {a b c d e f g h i : Int} (ha : S1 a) (hb : S1 b) (hc : S1 c) (hd : S1 d) (he : S1 e) (hf : S1 f) (hg : S1 g) (hh : S1 h) (hi : S1 i) (hdet : det3 a b c d e f g h i = 1) : fd_check_table [t3 a b c d e f g h i] = some (.ok .non) := by
  simp [fd_check_table, gd_check_table, bd_check_table, defF, resO, evB, evS, ev, evs, evi, evo, bnd, exE, lft, tru, seqO, truD, bor, stc, envB, keepB, setS, initS, binD, cmpD, inA, idxA, idxD, bltD, itD, itS, it1, it2, lcF, turns, turnF, pat, pats, wipeE, setE, val?, forO, D.noL, D.noLs, atI, ixN, intsD, blsD, negD, slcD, cutD, isiD, isiO, rngL, flatD, shp_int, eqD_int, szl, List.range, List.range.loop, ownG, getO, putO, okT, f_is_table3, hdet, ha, hb, hc, hd, he, hf, hg, hh, hi]
end DE
set_option linter.all false
set_option maxRecDepth 100000
set_option maxHeartbeats 4000000
set_option exponentiation.threshold 4000
namespace DE
open PySem PySem.Spec PyProof.Rows L2
/-! ### Clearing, two rows -/
theorem fx_rows (a b : Nat) : fldIx [("rows", a), ("word", b)] "rows" = some 0 := rfl
theorem fx_word (a b : Nat) : fldIx [("rows", a), ("word", b)] "word" = some 1 := rfl
def rA (x : A2) : DE.D := .lst [.tup [.int x.a, .int x.b], .tup [.int x.c, .int x.d]]
def cO (x : A2) (w : List (Bool × Int)) : DE.D := .obj "Clearing" [("rows", 1), ("word", 1)] [rA x, .lst (w.map St2.D)]
def tkW (w : List (Bool × Int)) (s : Bool × Int) : List (Bool × Int) := if s.2 = 0 then w else w ++ [s]
def sub01 (x : A2) (k : Int) : A2 := ⟨x.a - k * x.c, x.b - k * x.d, x.c, x.d⟩
def sub10 (x : A2) (k : Int) : A2 := ⟨x.a, x.b, x.c - k * x.a, x.d - k * x.b⟩
theorem f_take01 {x : A2} {w : List (Bool × Int)} {k : Int} (h1 : MulP k x.c) (h2 : MulP k x.d) (hw : w.length < 16777216) : fd_Clearing_take (cO x w) [.int 0, .int 1, .int k] = some (.ok (.non, cO (sub01 x k) (tkW w (true, k)))) := by
  by_cases hk : k = 0
  · subst hk
    have e : sub01 x 0 = x := by apply A2.ext' <;> simp [sub01]
    rw [e]
    simp [fd_Clearing_take, gd_Clearing_take, bd_Clearing_take, methF, resM, endM, isO, fldD, fx_rows, fx_word, itZ, pairsL, defF, resO, evB, evS, ev, evs, evi, evo, bnd, exE, lft, tru, seqO, truD, bor, stc, envB, keepB, setS, initS, binD, cmpD, inA, idxA, idxD, bltD, itD, itS, it1, it2, lcF, turns, turnF, pat, pats, wipeE, setE, val?, forO, D.noL, D.noLs, atI, ixN, intsD, blsD, negD, slcD, cutD, isiD, isiO, rngL, flatD, shp_int, eqD_int, szl, List.range, List.range.loop, ownG, getO, putO, okT, cO, rA, tkW]
  · simp [fd_Clearing_take, gd_Clearing_take, bd_Clearing_take, methF, resM, endM, isO, fldD, fx_rows, fx_word, itZ, pairsL, defF, resO, evB, evS, ev, evs, evi, evo, bnd, exE, lft, tru, seqO, truD, bor, stc, envB, keepB, setS, initS, binD, cmpD, inA, idxA, idxD, bltD, itD, itS, it1, it2, lcF, turns, turnF, pat, pats, wipeE, setE, val?, forO, D.noL, D.noLs, atI, ixN, intsD, blsD, negD, slcD, cutD, isiD, isiO, rngL, flatD, shp_int, eqD_int, szl, List.range, List.range.loop, ownG, getO, putO, okT, cO, rA, tkW, hk, sub01, h1, h2, hw, St2.D]
theorem f_take10 {x : A2} {w : List (Bool × Int)} {k : Int} (h1 : MulP k x.a) (h2 : MulP k x.b) (hw : w.length < 16777216) : fd_Clearing_take (cO x w) [.int 1, .int 0, .int k] = some (.ok (.non, cO (sub10 x k) (tkW w (false, k)))) := by
  by_cases hk : k = 0
  · subst hk
    have e : sub10 x 0 = x := by apply A2.ext' <;> simp [sub10]
    rw [e]
    simp [fd_Clearing_take, gd_Clearing_take, bd_Clearing_take, methF, resM, endM, isO, fldD, fx_rows, fx_word, itZ, pairsL, defF, resO, evB, evS, ev, evs, evi, evo, bnd, exE, lft, tru, seqO, truD, bor, stc, envB, keepB, setS, initS, binD, cmpD, inA, idxA, idxD, bltD, itD, itS, it1, it2, lcF, turns, turnF, pat, pats, wipeE, setE, val?, forO, D.noL, D.noLs, atI, ixN, intsD, blsD, negD, slcD, cutD, isiD, isiO, rngL, flatD, shp_int, eqD_int, szl, List.range, List.range.loop, ownG, getO, putO, okT, cO, rA, tkW]
  · simp [fd_Clearing_take, gd_Clearing_take, bd_Clearing_take, methF, resM, endM, isO, fldD, fx_rows, fx_word, itZ, pairsL, defF, resO, evB, evS, ev, evs, evi, evo, bnd, exE, lft, tru, seqO, truD, bor, stc, envB, keepB, setS, initS, binD, cmpD, inA, idxA, idxD, bltD, itD, itS, it1, it2, lcF, turns, turnF, pat, pats, wipeE, setE, val?, forO, D.noL, D.noLs, atI, ixN, intsD, blsD, negD, slcD, cutD, isiD, isiO, rngL, flatD, shp_int, eqD_int, szl, List.range, List.range.loop, ownG, getO, putO, okT, cO, rA, tkW, hk, sub10, h1, h2, hw, St2.D]
/-! ### the loop that clears an item -/
def ciC : T := .cmp .NotEq (.idx (.idx (.fld (.var 0) "rows") (.var 1)) (.var 2)) (.cst (.int (0)))
def ciB : List S := [.mcl 0 0 true [(.var 2), (.var 1), (.bin .FloorDiv (.idx (.idx (.fld (.var 0) "rows") (.var 2)) (.var 2)) (.idx (.idx (.fld (.var 0) "rows") (.var 1)) (.var 2)))], .ite (.cmp .Eq (.idx (.idx (.fld (.var 0) "rows") (.var 2)) (.var 2)) (.cst (.int (0)))) [.mcl 0 0 false [(.var 2), (.var 1), (.neg (.cst (.int (1))))]] [], .mcl 0 0 true [(.var 1), (.var 2), (.bin .FloorDiv (.idx (.idx (.fld (.var 0) "rows") (.var 1)) (.var 2)) (.idx (.idx (.fld (.var 0) "rows") (.var 2)) (.var 2)))]]
theorem ci_eq : bd_Clearing_clear_item = [.whl ciC ciB] := rfl
def ciR (x : A2) (w : List (Bool × Int)) : List Sl := [some (3, cO x w), some (0, .int 1), some (0, .int 0)]
theorem ci_c (x : A2) (w : List (Bool × Int)) (b : Bool) : ev gd_Clearing_clear_item (.idx (.idx (.fld (.var 0) "rows") (.var 1)) (.var 2)) (envB b (ciR x w)) = if b = true then some (.ok (.int x.c)) else ev gd_Clearing_clear_item (.idx (.idx (.fld (.var 0) "rows") (.var 1)) (.var 2)) (envB false (ciR x w)) := by
  cases b with
  | true => exact el_idx (el_idx (el_fld (el_var rfl) rfl) (el_var rfl) rfl) (el_var rfl) rfl
  | false => rfl
theorem ci_a (x : A2) (w : List (Bool × Int)) : ev gd_Clearing_clear_item (.idx (.idx (.fld (.var 0) "rows") (.var 2)) (.var 2)) (bor (ciR x w)) = some (.ok (.int x.a)) := el_idx (el_idx (el_fld (el_var rfl) rfl) (el_var rfl) rfl) (el_var rfl) rfl
theorem ci_c' (x : A2) (w : List (Bool × Int)) : ev gd_Clearing_clear_item (.idx (.idx (.fld (.var 0) "rows") (.var 1)) (.var 2)) (bor (ciR x w)) = some (.ok (.int x.c)) := el_idx (el_idx (el_fld (el_var rfl) rfl) (el_var rfl) rfl) (el_var rfl) rfl
theorem inA_ne0 (i : Int) : inA .NotEq (.int i) (.int 0) = some (.bl (!(i == 0))) := by simp [inA, cmpD, shp_int, eqD_int]
theorem inA_eq (i j : Int) : inA .Eq (.int i) (.int j) = some (.bl (i == j)) := by simp [inA, cmpD, shp_int, eqD_int]
theorem ci_C (x : A2) (w : List (Bool × Int)) : tru (ev gd_Clearing_clear_item ciC (bor (ciR x w))) = some (.ok (!(x.c == 0))) := el_tru (el_cmp (ci_c' x w) el_cst (inA_ne0 _)) rfl
theorem fdv {i j : Int} (h : DivP j) : binD .FloorDiv (.int i) (.int j) = some (.int (i.fdiv j)) := by unfold binD; dsimp only; rw [if_pos h]
/-- one turn, a not becoming 0 .. or becoming it -/
def ci1 (x : A2) : A2 := sub01 x (x.a.fdiv x.c)
def ci2 (x : A2) : A2 := if (ci1 x).a = 0 then sub01 (ci1 x) (-1) else ci1 x
def ci3 (x : A2) : A2 := sub10 (ci2 x) ((ci2 x).c.fdiv (ci2 x).a)
def cw1 (x : A2) (w : List (Bool × Int)) := tkW w (true, x.a.fdiv x.c)
def cw2 (x : A2) (w : List (Bool × Int)) := if (ci1 x).a = 0 then tkW (cw1 x w) (true, -1) else cw1 x w
def cw3 (x : A2) (w : List (Bool × Int)) := tkW (cw2 x w) (false, (ci2 x).c.fdiv (ci2 x).a)
theorem tkW_len (w : List (Bool × Int)) (s : Bool × Int) : (tkW w s).length ≤ w.length + 1 := by
  unfold tkW
  split
  · omega
  · simp
theorem ci_turn {x : A2} {w : List (Bool × Int)} (hc : DivP x.c) (h1 : MulP (x.a.fdiv x.c) x.c) (h2 : MulP (x.a.fdiv x.c) x.d) (ha : DivP (ci2 x).a) (h3 : MulP ((ci2 x).c.fdiv (ci2 x).a) (ci2 x).a) (h4 : MulP ((ci2 x).c.fdiv (ci2 x).a) (ci2 x).b) (hw : w.length + 3 < 16777216) :
    evB gd_Clearing_clear_item 5000 ciB (ciR x w) = some (.nx (ciR (ci3 x) (cw3 x w))) := by
  have l1 := tkW_len w (true, x.a.fdiv x.c)
  have l2 : (cw2 x w).length ≤ w.length + 2 := by
    unfold cw2 cw1
    split
    · have := tkW_len (tkW w (true, x.a.fdiv x.c)) (true, -1); omega
    · omega
  have s1 : evS gd_Clearing_clear_item 5000 (.mcl 0 0 true [(.var 2), (.var 1), (.bin .FloorDiv (.idx (.idx (.fld (.var 0) "rows") (.var 2)) (.var 2)) (.idx (.idx (.fld (.var 0) "rows") (.var 1)) (.var 2)))]) (ciR x w) = some (.nx (ciR (ci1 x) (cw1 x w))) :=
    es_mcl (c0 := "Clearing") (m0 := "take") (np := 3) (f := fd_Clearing_take) rfl rfl rfl (els_cons (el_var rfl) (els_cons (el_var rfl) (els_cons (el_bin (ci_a x w) (ci_c' x w) (fdv hc)) els_nil))) (.inr rfl) (f_take01 h1 h2 (by omega))
  have s2 : evS gd_Clearing_clear_item 5000 (.ite (.cmp .Eq (.idx (.idx (.fld (.var 0) "rows") (.var 2)) (.var 2)) (.cst (.int (0)))) [.mcl 0 0 false [(.var 2), (.var 1), (.neg (.cst (.int (1))))]] []) (ciR (ci1 x) (cw1 x w)) = some (.nx (ciR (ci2 x) (cw2 x w))) := by
    refine es_ite (el_tru (el_cmp (ci_a (ci1 x) (cw1 x w)) el_cst (inA_eq _ _)) rfl) ?_
    unfold ci2 cw2
    by_cases h : (ci1 x).a = 0
    · rw [if_pos (by simpa using h), if_pos h, if_pos h]
      rw [evB_nx (es_mcl (c0 := "Clearing") (m0 := "take") (np := 3) (f := fd_Clearing_take) (ρ := ciR (ci1 x) (cw1 x w)) (m := 2) (dob := cO (ci1 x) (cw1 x w)) rfl rfl rfl (els_cons (el_var rfl) (els_cons (el_var rfl) (els_cons (el_neg el_cst rfl) els_nil))) (.inl rfl) (f_take01 (.inl (by decide)) (.inl (by decide)) (by unfold cw1; omega)))]
      rfl
    · rw [if_neg (by simpa using h), if_neg h, if_neg h]; rfl
  have s3 : evS gd_Clearing_clear_item 5000 (.mcl 0 0 true [(.var 1), (.var 2), (.bin .FloorDiv (.idx (.idx (.fld (.var 0) "rows") (.var 1)) (.var 2)) (.idx (.idx (.fld (.var 0) "rows") (.var 2)) (.var 2)))]) (ciR (ci2 x) (cw2 x w)) = some (.nx (ciR (ci3 x) (cw3 x w))) :=
    es_mcl (c0 := "Clearing") (m0 := "take") (np := 3) (f := fd_Clearing_take) rfl rfl rfl (els_cons (el_var rfl) (els_cons (el_var rfl) (els_cons (el_bin (ci_c' (ci2 x) (cw2 x w)) (ci_a (ci2 x) (cw2 x w)) (fdv ha)) els_nil))) (.inr rfl) (f_take10 h3 h4 (by omega))
  unfold ciB
  rw [evB_nx s1, evB_nx s2, evB_nx s3]; rfl
end DE
set_option linter.all false
set_option maxRecDepth 100000
set_option maxHeartbeats 4000000
set_option exponentiation.threshold 4000
namespace DE
open PySem PySem.Spec PyProof.Rows L2
theorem bd_nat {u v b d : Nat} (huv : u < v) (h : b * v ≤ u * d + 1) : b ≤ max d 1 := by
  apply Classical.byContradiction
  intro z
  have h1 : d + 1 ≤ b ∧ 2 ≤ b := by omega
  have h2 : (d + 1) * v ≤ b * v := Nat.mul_le_mul_right v h1.1
  have h3 : u * d + d ≤ v * d := by have := Nat.mul_le_mul_right d (show u + 1 ≤ v from huv); rw [Nat.succ_mul] at this; exact this
  have h4 : (d + 1) * v = v * d + v := by rw [Nat.succ_mul, Nat.mul_comm]
  have h5 : 2 * v ≤ b * v := Nat.mul_le_mul_right v h1.2
  by_cases hd : d = 0
  · subst hd; omega
  · omega
theorem bd_int {u v b d : Int} (huv : u.natAbs < v.natAbs) (h : b * v = u * d + 1 ∨ b * v = u * d - 1) : b.natAbs ≤ max d.natAbs 1 := by
  apply bd_nat huv
  rw [← Int.natAbs_mul, ← Int.natAbs_mul]
  omega
theorem fd_le {a c : Int} (hc : c ≠ 0) : (a.fdiv c).natAbs ≤ a.natAbs := by
  have e := fd_sub a c
  have hb : (a.fmod c).natAbs < c.natAbs := by
    rcases Int.lt_or_gt_of_ne hc with h1 | h1
    · have := fm_neg a h1; omega
    · have := fm_pos a h1; omega
  apply Classical.byContradiction
  intro z
  have h1 : (a.natAbs + 1) * c.natAbs ≤ (a.fdiv c).natAbs * c.natAbs := Nat.mul_le_mul_right _ (by omega)
  have h2 : (a.fdiv c).natAbs * c.natAbs = (a.fdiv c * c).natAbs := (Int.natAbs_mul _ _).symm
  have h3 : a.natAbs * 1 ≤ a.natAbs * c.natAbs := Nat.mul_le_mul_left _ (by omega)
  rw [Nat.succ_mul] at h1
  omega
theorem S1.div {c : Int} (h : S1 c) (hc : c ≠ 0) : DivP c := ⟨hc, by have := log2_lt _ _ h (by decide); omega⟩
theorem S1.le {x : Int} {B : Nat} (h : x.natAbs ≤ B) (hB : B < 2 ^ 1000) : S1 x := Nat.lt_of_le_of_lt h hB
theorem St2.sub01 (x : A2) (k : Int) : (St2.A (true, k)).mul (DE.sub01 x k) = x := by
  apply A2.ext' <;> simp [St2.A, A2.stp, A2.mul, DE.sub01] <;> grind
theorem St2.sub10 (x : A2) (k : Int) : (St2.A (false, k)).mul (DE.sub10 x k) = x := by
  apply A2.ext' <;> simp [St2.A, A2.stp, A2.mul, DE.sub10] <;> grind
theorem St2.A0 (b : Bool) : St2.A (b, 0) = A2.one := by cases b <;> rfl
theorem wA_tk (w : List (Bool × Int)) (s : Bool × Int) : wA (tkW w s) = (wA w).mul (St2.A s) := by
  unfold tkW
  split
  · rename_i h
    obtain ⟨b, k⟩ := s
    have h : k = 0 := h
    subst h
    rw [St2.A0, A2.mul_one]
  · rw [wA_app]
    show (wA w).mul ((St2.A s).mul A2.one) = _
    rw [A2.mul_one]
def Nz (w : List (Bool × Int)) : Prop := ∀ s ∈ w, s.2 ≠ 0
theorem Nz.tk {w : List (Bool × Int)} (h : Nz w) (s : Bool × Int) : Nz (tkW w s) := by
  unfold tkW
  split
  · exact h
  · rename_i h2
    intro t ht
    rcases List.mem_append.mp ht with z | z
    · exact h t z
    · rw [List.mem_singleton] at z; subst z; exact h2
theorem sub01_det (x : A2) (k : Int) : (sub01 x k).det = x.det := by simp only [sub01, A2.det]; grind
theorem sub10_det (x : A2) (k : Int) : (sub10 x k).det = x.det := by simp only [sub10, A2.det]; grind
theorem take_mul01 {w : List (Bool × Int)} {x : A2} (k : Int) : (wA (tkW w (true, k))).mul (sub01 x k) = (wA w).mul x := by rw [wA_tk, A2.mul_assoc, St2.sub01]
theorem take_mul10 {w : List (Bool × Int)} {x : A2} (k : Int) : (wA (tkW w (false, k))).mul (sub10 x k) = (wA w).mul x := by rw [wA_tk, A2.mul_assoc, St2.sub10]
structure CiOk (x : A2) (w : List (Bool × Int)) (B : Nat) : Prop where
  turn : evB gd_Clearing_clear_item 5000 ciB (ciR x w) = some (.nx (ciR (ci3 x) (cw3 x w)))
  det : (ci3 x).det = 1
  mul : (wA (cw3 x w)).mul (ci3 x) = (wA w).mul x
  sz : (ci3 x).Sz (B + 1)
  len : (cw3 x w).length ≤ w.length + 3
  nz : Nz w → Nz (cw3 x w)
  dn : (ci3 x).c = 0 ∨ (2 * (ci3 x).c.natAbs < x.c.natAbs ∧ (ci3 x).Sz B)
theorem ci_ok {x : A2} {w : List (Bool × Int)} {B : Nat} (hd : x.det = 1) (hc : x.c ≠ 0) (s : x.Sz B) (hB1 : 1 ≤ B) (hB : B + 1 < 2 ^ 1000) (hw : w.length + 3 < 16777216) : CiOk x w B := by
  have hB' : B < 2 ^ 1000 := by omega
  have kle := fd_le (a := x.a) hc
  have ea : (ci1 x).a = x.a.fmod x.c := fd_sub _ _
  have ab : (x.a.fmod x.c).natAbs < x.c.natAbs := by
    rcases Int.lt_or_gt_of_ne hc with h1 | h1
    · have := fm_neg x.a h1; omega
    · have := fm_pos x.a h1; omega
  have d1 : (ci1 x).det = 1 := (sub01_det _ _).trans hd
  have e1 : (ci1 x).a * x.d - (ci1 x).b * x.c = 1 := d1
  have b1 : (ci1 x).b.natAbs ≤ max x.d.natAbs 1 := by
    rw [ea] at e1
    exact bd_int (u := x.a.fmod x.c) (v := x.c) ab (.inr (by omega))
  have sa := s.a; have sb := s.b; have sc := s.c; have sd := s.d
  have sz1 : (ci1 x).Sz B := ⟨by rw [ea]; omega, by omega, sc, sd⟩
  have m1 : (wA (cw1 x w)).mul (ci1 x) = (wA w).mul x := take_mul01 _
  have P1 : MulP (x.a.fdiv x.c) x.c := mul11 (S1.le (Nat.le_trans kle sa) hB') (S1.le sc hB')
  have P2 : MulP (x.a.fdiv x.c) x.d := mul11 (S1.le (Nat.le_trans kle sa) hB') (S1.le sd hB')
  have l1 := tkW_len w (true, x.a.fdiv x.c)
  have l2 : (cw2 x w).length ≤ w.length + 2 := by
    unfold cw2 cw1
    split
    · have := tkW_len (tkW w (true, x.a.fdiv x.c)) (true, -1); omega
    · omega
  have l3 : (cw3 x w).length ≤ w.length + 3 := by
    have := tkW_len (cw2 x w) (false, (ci2 x).c.fdiv (ci2 x).a)
    unfold cw3; omega
  have n3 : Nz w → Nz (cw3 x w) := fun h => by
    unfold cw3 cw2 cw1
    split
    · exact ((h.tk _).tk _).tk _
    · exact (h.tk _).tk _
  by_cases h0 : (ci1 x).a = 0
  · have ez : (ci1 x).b * x.c = -1 := by rw [h0] at e1; omega
    have eu : x.c.natAbs = 1 ∧ (ci1 x).b.natAbs = 1 := by
      have := congrArg Int.natAbs ez
      rw [Int.natAbs_mul] at this
      have h2 : (ci1 x).b.natAbs * x.c.natAbs = 1 := this
      exact ⟨Nat.eq_one_of_mul_eq_one_left h2, Nat.eq_one_of_mul_eq_one_right h2⟩
    have e2 : ci2 x = sub01 (ci1 x) (-1) := by unfold ci2; rw [if_pos h0]
    have e2a : (ci2 x).a = x.c := by rw [e2]; show (ci1 x).a - -1 * x.c = x.c; omega
    have e2b : (ci2 x).b = (ci1 x).b + x.d := by rw [e2]; show (ci1 x).b - -1 * x.d = _; omega
    have e2c : (ci2 x).c = x.c := by rw [e2]; rfl
    have e2d : (ci2 x).d = x.d := by rw [e2]; rfl
    have q : (ci2 x).c.fdiv (ci2 x).a = 1 := by rw [e2c, e2a]; exact Int.fdiv_self hc
    have w2 : cw2 x w = tkW (cw1 x w) (true, -1) := by unfold cw2; rw [if_pos h0]
    have m2 : (wA (cw2 x w)).mul (ci2 x) = (wA w).mul x := by rw [w2, e2, take_mul01, m1]
    have e3c : (ci3 x).c = 0 := by show (ci2 x).c - (ci2 x).c.fdiv (ci2 x).a * (ci2 x).a = 0; rw [q, e2c, e2a]; omega
    have e3d : (ci3 x).d = -(ci1 x).b := by show (ci2 x).d - (ci2 x).c.fdiv (ci2 x).a * (ci2 x).b = _; rw [q, e2d, e2b]; omega
    have e3a : (ci3 x).a = x.c := e2a
    have e3b : (ci3 x).b = (ci1 x).b + x.d := e2b
    exact ⟨ci_turn ((S1.le sc hB').div hc) P1 P2 (by rw [e2a]; exact (S1.le sc hB').div hc) (by rw [q]; exact .inl (by decide)) (by rw [q]; exact .inl (by decide)) hw,
      by unfold ci3; rw [sub10_det, e2, sub01_det, d1], by show (wA (tkW (cw2 x w) _)).mul (sub10 (ci2 x) _) = _; rw [take_mul10, m2],
      ⟨by omega, by omega, by omega, by omega⟩, l3, n3, .inl e3c⟩
  · have e2 : ci2 x = ci1 x := by unfold ci2; rw [if_neg h0]
    have w2 : cw2 x w = cw1 x w := by unfold cw2; rw [if_neg h0]
    have kl2 := fd_le (a := x.c) h0
    have e3c : (ci3 x).c = x.c.fmod (ci1 x).a := by show (ci2 x).c - (ci2 x).c.fdiv (ci2 x).a * (ci2 x).a = _; rw [e2]; exact fd_sub _ _
    have d3 : (ci3 x).det = 1 := by unfold ci3; rw [sub10_det, e2, d1]
    have e3a : (ci3 x).a = (ci1 x).a := by show (ci2 x).a = _; rw [e2]
    have e3b : (ci3 x).b = (ci1 x).b := by show (ci2 x).b = _; rw [e2]
    have cb : (x.c.fmod (ci1 x).a).natAbs < (ci1 x).a.natAbs ∧ 2 * (x.c.fmod (ci1 x).a).natAbs < x.c.natAbs := by
      have ec := Int.fmod_add_mul_fdiv x.c (ci1 x).a
      generalize x.c.fdiv (ci1 x).a = q at ec
      rw [ea] at h0 ec ⊢
      rcases Int.lt_or_gt_of_ne hc with h1 | h1
      · have g1 := fm_neg x.a h1
        have h2 : x.a.fmod x.c < 0 := by omega
        have g2 := fm_neg x.c h2
        generalize x.a.fmod x.c = u at *
        generalize x.c.fmod u = v at *
        have hq : 1 ≤ q := by
          apply Classical.byContradiction
          intro z
          have : u * q ≥ 0 := Int.mul_nonneg_of_nonpos_of_nonpos (by omega) (by omega)
          omega
        have : u * q ≤ u * 1 := Int.mul_le_mul_of_nonpos_left (by omega) hq
        omega
      · have g1 := fm_pos x.a h1
        have h2 : 0 < x.a.fmod x.c := by omega
        have g2 := fm_pos x.c h2
        generalize x.a.fmod x.c = u at *
        generalize x.c.fmod u = v at *
        have hq : 1 ≤ q := by
          apply Classical.byContradiction
          intro z
          have : u * q ≤ 0 := Int.mul_nonpos_of_nonneg_of_nonpos (by omega) (by omega)
          omega
        have : u * 1 ≤ u * q := Int.mul_le_mul_of_nonneg_left hq (by omega)
        omega
    have e3 : (ci1 x).a * (ci3 x).d - (ci1 x).b * (ci3 x).c = 1 := by
      have : (ci3 x).a * (ci3 x).d - (ci3 x).b * (ci3 x).c = 1 := d3
      rw [e3a, e3b] at this; exact this
    have b3 : (ci3 x).d.natAbs ≤ max (ci1 x).b.natAbs 1 := by
      refine bd_int (u := (ci3 x).c) (v := (ci1 x).a) (by rw [e3c]; exact cb.1) (.inl ?_)
      rw [Int.mul_comm (ci3 x).d, Int.mul_comm (ci3 x).c]; omega
    have s3 : (ci3 x).Sz B := ⟨by rw [e3a]; exact sz1.a, by rw [e3b]; exact sz1.b, by rw [e3c]; omega, by have := sz1.b; omega⟩
    refine ⟨ci_turn ((S1.le sc hB').div hc) P1 P2 (by rw [e2]; exact (S1.le sz1.a hB').div h0) ?_ ?_ hw, d3, ?_, s3.mono (by omega), l3, n3, .inr ⟨by rw [e3c]; exact cb.2, s3⟩⟩
    · rw [e2]; exact mul11 (S1.le (Nat.le_trans kl2 sc) hB') (S1.le sz1.a hB')
    · rw [e2]; exact mul11 (S1.le (Nat.le_trans kl2 sc) hB') (S1.le sz1.b hB')
    · show (wA (tkW (cw2 x w) _)).mul (sub10 (ci2 x) _) = _
      rw [take_mul10, w2, e2, m1]
/-- the loop -/
theorem ci_loop : ∀ (n fu : Nat) (x : A2) (w : List (Bool × Int)) (B : Nat), x.det = 1 → x.c.natAbs < 2 ^ n → n + 1 < fu → x.Sz B → 1 ≤ B → B + 1 < 2 ^ 1000 → w.length + 3 * n + 10 < 16777216 →
    ∃ x' w', whlO (fun ρ => tru (ev gd_Clearing_clear_item ciC (bor ρ))) (evB gd_Clearing_clear_item 5000 ciB) fu (ciR x w) = some (.nx (ciR x' w')) ∧ x'.c = 0 ∧ x'.det = 1 ∧ (wA w').mul x' = (wA w).mul x ∧ x'.Sz (B + 1) ∧ w'.length ≤ w.length + 3 * n ∧ (Nz w → Nz w')
  | n, 0, x, w, B, _, _, h, _, _, _, _ => absurd h (by omega)
  | n, fu + 1, x, w, B, hd, hc, hf, s, hB1, hB, hw => by
    by_cases h0 : x.c = 0
    · exact ⟨x, w, wh_end (by rw [ci_C, h0]; rfl), h0, hd, rfl, s.mono (by omega), by omega, id⟩
    · have hn : n ≠ 0 := by intro z; subst z; omega
      obtain ⟨m, rfl⟩ : ∃ m, n = m + 1 := ⟨n - 1, by omega⟩
      have k := ci_ok (w := w) hd h0 s hB1 hB (by omega)
      have hC : tru (ev gd_Clearing_clear_item ciC (bor (ciR x w))) = some (.ok true) := by rw [ci_C]; simp [h0]
      rcases k.dn with z | ⟨z, sB⟩
      · refine ⟨ci3 x, cw3 x w, ?_, z, k.det, k.mul, k.sz, by have := k.len; omega, k.nz⟩
        rw [wh_nx hC k.turn]
        obtain ⟨f2, rfl⟩ : ∃ f2, fu = f2 + 1 := ⟨fu - 1, by omega⟩
        exact wh_end (by rw [ci_C, z]; rfl)
      · have kl := k.len
        obtain ⟨x', w', g1, g2, g3, g4, g5, g6, g7⟩ := ci_loop m fu (ci3 x) (cw3 x w) B k.det (by rw [Nat.pow_succ] at hc; omega) (by omega) sB hB1 hB (by omega)
        exact ⟨x', w', by rw [wh_nx hC k.turn, g1], g2, g3, g4.trans k.mul, g5, by omega, fun z => g7 (k.nz z)⟩
end DE
set_option linter.all false
set_option maxRecDepth 100000
set_option maxHeartbeats 4000000
set_option exponentiation.threshold 4000
namespace DE
open PySem PySem.Spec PyProof.Rows L2
theorem cO_m (x : A2) (w : List (Bool × Int)) : isObj "Clearing" "clear_item" (cO x w) = true ∧ isObj "Clearing" "clear_below" (cO x w) = true ∧ isObj "Clearing" "clear_above" (cO x w) = true := by
  have h : ((decide (("Clearing" : Str) = "Clearing") && !([(("rows" : Str), 1), ("word", 1)].any fun p => decide (p.1 = ("clear_item" : Str)))) = true) ∧ ((decide (("Clearing" : Str) = "Clearing") && !([(("rows" : Str), 1), ("word", 1)].any fun p => decide (p.1 = ("clear_below" : Str)))) = true) ∧ ((decide (("Clearing" : Str) = "Clearing") && !([(("rows" : Str), 1), ("word", 1)].any fun p => decide (p.1 = ("clear_above" : Str)))) = true) := by decide +kernel
  exact h
theorem f_clear_item {x : A2} {w : List (Bool × Int)} {B : Nat} (hd : x.det = 1) (s : x.Sz B) (hB1 : 1 ≤ B) (hB : B < 2 ^ 900) (hw : w.length + 3000 < 16777216) :
    ∃ x' w', fd_Clearing_clear_item (cO x w) [.int 1, .int 0] = some (.ok (.non, cO x' w')) ∧ x'.c = 0 ∧ x'.det = 1 ∧ (wA w').mul x' = (wA w).mul x ∧ x'.Sz (B + 1) ∧ w'.length ≤ w.length + 3000 ∧ (Nz w → Nz w') := by
  have h9 : (2 : Nat) ^ 900 + 1 < 2 ^ 1000 := by decide
  obtain ⟨x', w', g1, g2, g3, g4, g5, g6, g7⟩ := ci_loop 900 5000 x w B hd (Nat.lt_of_le_of_lt s.c hB) (by decide) s hB1 (by omega) (by omega)
  refine ⟨x', w', ?_, g2, g3, g4, g5, by omega, g7⟩
  show resM (evB gd_Clearing_clear_item 5000 [.whl ciC ciB] (ciR x w)) = _
  rw [evB_nx (show evS gd_Clearing_clear_item 5000 (.whl ciC ciB) (ciR x w) = _ from (by rw [evS]; exact g1))]
  rfl
def cbF : S := .for (.nm 2) .rng2 true [(.bin .Add (.var 1) (.cst (.int (1)))), (.blt .len [(.fld (.var 0) "rows")])] [.mcl 0 0 false [(.var 2), (.var 1)]]
def cbI : S := .ite (.cmp .Eq (.idx (.idx (.fld (.var 0) "rows") (.var 1)) (.var 1)) (.neg (.cst (.int (1))))) [.mcl 1 0 false [(.bin .Add (.var 1) (.cst (.int (1)))), (.var 1), (.cst (.int (1)))], .mcl 1 0 false [(.var 1), (.bin .Add (.var 1) (.cst (.int (1)))), (.neg (.cst (.int (2))))], .mcl 1 0 false [(.bin .Add (.var 1) (.cst (.int (1)))), (.var 1), (.cst (.int (1)))]] []
theorem cb_eq : bd_Clearing_clear_below = [cbF, cbI] := rfl
def cbR (x : A2) (w : List (Bool × Int)) (y : Sl) : List Sl := [some (3, cO x w), some (0, .int 0), y]
theorem cb_run (x : A2) : fd_Clearing_clear_below (cO x []) [.int 0] = resM (evB gd_Clearing_clear_below 5000 [cbF, cbI] (cbR x [] none)) := by
  exact meth_run (Γ := gd_Clearing_clear_below) (fu := 5000) (np := 1) (body := [cbF, cbI]) (dob := cO x []) (ds := [.int 0]) rfl rfl
theorem f_clear_below {x : A2} {B : Nat} (hd : x.det = 1) (s : x.Sz B) (hB1 : 1 ≤ B) (hB : B < 2 ^ 900) :
    ∃ x' w', fd_Clearing_clear_below (cO x []) [.int 0] = some (.ok (.non, cO x' w')) ∧ x'.c = 0 ∧ x'.a = 1 ∧ x'.d = 1 ∧ (wA w').mul x' = x ∧ w'.length ≤ 3003 ∧ Nz w' ∧ x'.b.natAbs ≤ 3 * B + 3 := by
  obtain ⟨x', w', g1, g2, g3, g4, g5, g6, g7⟩ := f_clear_item (w := []) hd s hB1 hB (by decide)
  rw [show wA [] = A2.one from rfl, A2.one_mul] at g4
  have g7 := g7 (fun s hs => by cases hs)
  have ul : x'.a * x'.d = 1 := by have : x'.a * x'.d - x'.b * x'.c = 1 := g3; rw [g2] at this; omega
  obtain ⟨u1, u2⟩ := Tn.unit ul
  have e1 : evS gd_Clearing_clear_below 5000 cbF (cbR x [] none) = some (.nx (cbR x' w' (some (0, .int 1)))) := by
    unfold cbF
    rw [for_eq]
    have e0 := it_rng2 (Γ := gd_Clearing_clear_below) (ρ := cbR x [] none) (b := true) (args := [(.bin .Add (.var 1) (.cst (.int (1)))), (.blt .len [(.fld (.var 0) "rows")])]) (i := 1) (j := 2) (els_cons (el_bin (el_var rfl) el_cst rfl) (els_cons (el_blt (els_cons (el_fld (el_var rfl) rfl) els_nil) rfl) els_nil)) (by decide)
    rw [show ((2 : Int) - 1).toNat = 1 from rfl, rngL_1] at e0
    rw [e0, exE, if_neg (by simp [IK.rg])]
    have e2 : forF (.nm 2) (evB gd_Clearing_clear_below 5000 [.mcl 0 0 false [(.var 2), (.var 1)]]) (.int 1) (cbR x [] none) = some (.nx (cbR x' w' (some (0, .int 1)))) := by
      show evB gd_Clearing_clear_below 5000 [.mcl 0 0 false [(.var 2), (.var 1)]] (cbR x [] (some (0, .int 1))) = _
      rw [evB_nx (es_mcl (c0 := "Clearing") (m0 := "clear_item") (np := 2) (f := fd_Clearing_clear_item) (m := 2) (dob := cO x []) rfl rfl rfl (els_cons (el_var rfl) (els_cons (el_var rfl) els_nil)) (.inl rfl) g1)]
      rfl
    unfold forO
    rw [e2]; rfl
  have k1 : ev gd_Clearing_clear_below (.idx (.idx (.fld (.var 0) "rows") (.var 1)) (.var 1)) (bor (cbR x' w' (some (0, .int 1)))) = some (.ok (.int x'.a)) := el_idx (el_idx (el_fld (el_var rfl) rfl) (el_var rfl) rfl) (el_var rfl) rfl
  have k2 : tru (ev gd_Clearing_clear_below (.cmp .Eq (.idx (.idx (.fld (.var 0) "rows") (.var 1)) (.var 1)) (.neg (.cst (.int (1))))) (bor (cbR x' w' (some (0, .int 1))))) = some (.ok (x'.a == -1)) := el_tru (el_cmp k1 (el_neg el_cst rfl) (inA_eq _ _)) rfl
  have sz := g5
  rcases u2 with u2 | u2
  · refine ⟨x', w', ?_, g2, u2, by omega, g4, by simp at g6; omega, g7, by have := sz.b; omega⟩
    rw [cb_run, evB_nx e1, evB_nx (show evS gd_Clearing_clear_below 5000 cbI (cbR x' w' (some (0, .int 1))) = some (.nx (cbR x' w' (some (0, .int 1)))) from es_ite k2 (by rw [u2]; rfl))]
    rfl
  · let x1 := sub10 x' 1
    let x2 := sub01 x1 (-2)
    let x3 := sub10 x2 1
    let w1 := tkW w' (false, 1)
    let w2 := tkW w1 (true, -2)
    let w3 := tkW w2 (false, 1)
    have ud : x'.d = -1 := by omega
    have l1 : w1.length ≤ w'.length + 1 := tkW_len _ _
    have l2 : w2.length ≤ w1.length + 1 := tkW_len _ _
    have l3 : w3.length ≤ w2.length + 1 := tkW_len _ _
    simp at g6
    have t1 : fd_Clearing_take (cO x' w') [.int 1, .int 0, .int 1] = some (.ok (.non, cO x1 w1)) := f_take10 (.inl (by decide)) (.inl (by decide)) (by omega)
    have t2 : fd_Clearing_take (cO x1 w1) [.int 0, .int 1, .int (-2)] = some (.ok (.non, cO x2 w2)) := f_take01 (.inl (by decide)) (.inl (by decide)) (by omega)
    have t3 : fd_Clearing_take (cO x2 w2) [.int 1, .int 0, .int 1] = some (.ok (.non, cO x3 w3)) := f_take10 (.inl (by decide)) (.inl (by decide)) (by omega)
    have a2 : x2.a = 1 := by show x'.a - -2 * (x'.c - 1 * x'.a) = 1; rw [u2, g2]; decide
    have b2 : x2.b = x'.b - -2 * (x'.d - 1 * x'.b) := rfl
    have c3 : x3.c = 0 := by show (x'.c - 1 * x'.a) - 1 * x2.a = 0; rw [a2, u2, g2]; decide
    have d3 : x3.det = 1 := by
      show (sub10 (sub01 (sub10 x' 1) (-2)) 1).det = 1
      rw [sub10_det, sub01_det, sub10_det, g3]
    have a3 : x3.a = 1 := a2
    have dd : x3.d = 1 := by
      have : x3.a * x3.d - x3.b * x3.c = 1 := d3
      rw [a3, c3] at this; omega
    refine ⟨x3, w3, ?_, c3, a3, dd, ?_, by omega, ((g7.tk _).tk _).tk _, ?_⟩
    · rw [cb_run]
      have e5 : evS gd_Clearing_clear_below 5000 cbI (cbR x' w' (some (0, .int 1))) = some (.nx (cbR x3 w3 (some (0, .int 1)))) := by
        refine es_ite k2 ?_
        rw [u2, if_pos (by rfl)]
        rw [evB_nx (es_mcl (c0 := "Clearing") (m0 := "take") (np := 3) (f := fd_Clearing_take) (ρ := cbR x' w' (some (0, .int 1))) (m := 2) (dob := cO x' w') rfl rfl rfl (els_cons (el_bin (el_var rfl) el_cst rfl) (els_cons (el_var rfl) (els_cons el_cst els_nil))) (.inl rfl) t1)]
        rw [evB_nx (es_mcl (c0 := "Clearing") (m0 := "take") (np := 3) (f := fd_Clearing_take) (m := 2) (dob := cO x1 w1) rfl rfl rfl (els_cons (el_var rfl) (els_cons (el_bin (el_var rfl) el_cst rfl) (els_cons (el_neg el_cst rfl) els_nil))) (.inl rfl) t2)]
        rw [evB_nx (es_mcl (c0 := "Clearing") (m0 := "take") (np := 3) (f := fd_Clearing_take) (m := 2) (dob := cO x2 w2) rfl rfl rfl (els_cons (el_bin (el_var rfl) el_cst rfl) (els_cons (el_var rfl) (els_cons el_cst els_nil))) (.inl rfl) t3)]
        rfl
      rw [evB_nx e1, evB_nx e5]
      rfl
    · show (wA (tkW (tkW (tkW w' (false, 1)) (true, -2)) (false, 1))).mul (sub10 (sub01 (sub10 x' 1) (-2)) 1) = x
      rw [take_mul10, take_mul01, take_mul10, g4]
    · show (x2.b).natAbs ≤ _
      rw [b2, ud]
      have := sz.b
      omega
theorem f_clear_above {x : A2} {w : List (Bool × Int)} (hc : x.c = 0) (ha : x.a = 1) (hd : x.d = 1) (hb : S1 x.b) (hw : w.length < 1000000) : fd_Clearing_clear_above (cO x w) [.int 1] = some (.ok (.non, cO A2.one (tkW w (true, x.b)))) := by
  have e : sub01 x x.b = A2.one := by
    apply A2.ext' <;> simp [sub01, A2.one, hc, ha, hd]
  have t1 := f_take01 (x := x) (w := w) (k := x.b) (by rw [hc]; exact .inr (.inl (by decide))) (by rw [hd]; exact .inr (.inl (by decide))) (by omega)
  rw [e] at t1
  show resM (evB gd_Clearing_clear_above 5000 [.for (.nm 2) .rng1 false [(.var 1)] [.mcl 0 0 true [(.var 2), (.var 1), (.idx (.idx (.fld (.var 0) "rows") (.var 2)) (.var 1))]]] [some (3, cO x w), some (0, .int 1), none]) = _
  have k1 : ev gd_Clearing_clear_above (.idx (.idx (.fld (.var 0) "rows") (.var 2)) (.var 1)) (envB true [some (3, cO x w), some (0, .int 1), some (0, .int 0)]) = some (.ok (.int x.b)) := el_idx (el_idx (el_fld (el_var rfl) rfl) (el_var rfl) rfl) (el_var rfl) rfl
  have e2 : forF (.nm 2) (evB gd_Clearing_clear_above 5000 [.mcl 0 0 true [(.var 2), (.var 1), (.idx (.idx (.fld (.var 0) "rows") (.var 2)) (.var 1))]]) (.int 0) [some (3, cO x w), some (0, .int 1), none] = some (.nx [some (3, cO A2.one (tkW w (true, x.b))), some (0, .int 1), some (0, .int 0)]) := by
    show evB gd_Clearing_clear_above 5000 [.mcl 0 0 true [(.var 2), (.var 1), (.idx (.idx (.fld (.var 0) "rows") (.var 2)) (.var 1))]] [some (3, cO x w), some (0, .int 1), some (0, .int 0)] = _
    rw [evB_nx (es_mcl (c0 := "Clearing") (m0 := "take") (np := 3) (f := fd_Clearing_take) (m := 2) (dob := cO x w) rfl rfl rfl (els_cons (el_var rfl) (els_cons (el_var rfl) (els_cons k1 els_nil))) (.inr rfl) t1)]
    rfl
  have e3 : evS gd_Clearing_clear_above 5000 (.for (.nm 2) .rng1 false [(.var 1)] [.mcl 0 0 true [(.var 2), (.var 1), (.idx (.idx (.fld (.var 0) "rows") (.var 2)) (.var 1))]]) [some (3, cO x w), some (0, .int 1), none] = some (.nx [some (3, cO A2.one (tkW w (true, x.b))), some (0, .int 1), some (0, .int 0)]) := by
    refine (forB_eq (items := [.int 0]) rfl).trans ?_
    unfold forO
    rw [e2]; rfl
  rw [evB_nx e3]; rfl
theorem f_word_of {x : A2} {B : Nat} (hd : x.det = 1) (s : x.Sz B) (hB1 : 1 ≤ B) (hB : B < 2 ^ 900) : ∃ w, fd_word_of [x.D] = some (.ok (wD w)) ∧ wA w = x ∧ w.length ≤ 3004 ∧ Nz w := by
  have h9 : 3 * (2 : Nat) ^ 900 + 3 < 2 ^ 1000 := by decide
  obtain ⟨x', w', g1, g2, g3, g4, g5, g6, g7, g8⟩ := f_clear_below hd s hB1 hB
  have sb : S1 x'.b := S1.le g8 (by omega)
  have g9 := f_clear_above (w := w') g2 g3 g4 sb (by omega)
  have hck : fd_check_table [x.D] = some (.ok .non) := f_check2 (S1.le s.a (by omega)) (S1.le s.b (by omega)) (S1.le s.c (by omega)) (S1.le s.d (by omega)) hd
  have i1 : fd_Clearing_init (.obj "Clearing" [] []) [x.D] = some (.ok (.non, cO x [])) := rfl
  have hx1 : (⟨1, x'.b, 0, 1⟩ : A2) = x' := by apply A2.ext' <;> simp [g2, g3, g4]
  refine ⟨tkW w' (true, x'.b), ?_, ?_, by have := tkW_len w' (true, x'.b); omega, g7.tk _⟩
  · have e0 : fd_word_of [x.D] = resO (evB gd_word_of 5000 [.exp (.call 0 [(.var 0)]), .asg 1 false (.blt .len [(.var 0)]), .own 2 1 (.new 0 [(.var 0)]), .for (.nm 3) .rng1 false [(.bin .Sub (.var 1) (.cst (.int (1))))] [.mcl 1 2 false [(.var 3)]], .for (.nm 3) .rng2 false [(.cst (.int (1))), (.var 1)] [.mcl 2 2 false [(.var 3)]], .frz 2, .ret (.fld (.var 2) "word")] [some (0, x.D), none, none, none]) := def_run (Γ := gd_word_of) (fu := 5000) (np := 1) (body := bd_word_of) (ds := [x.D]) rfl
    have s1 : evS gd_word_of 5000 (.exp (.call 0 [(.var 0)])) [some (0, x.D), none, none, none] = some (.nx [some (0, x.D), none, none, none]) := es_exp (el_call (nm := "check_table") (np := 1) (f := fd_check_table) rfl (els_cons (el_var rfl) els_nil) hck)
    have s2 : evS gd_word_of 5000 (.asg 1 false (.blt .len [(.var 0)])) [some (0, x.D), none, none, none] = some (.nx [some (0, x.D), some (0, .int 2), none, none]) := rfl
    have s3 : evS gd_word_of 5000 (.own 2 1 (.new 0 [(.var 0)])) [some (0, x.D), some (0, .int 2), none, none] = some (.nx [some (0, x.D), some (0, .int 2), some (1, cO x []), none]) := by
      have : ev gd_word_of (.new 0 [(.var 0)]) (stc [some (0, x.D), some (0, .int 2), none, none]) = some (.ok (cO x [])) := by
        rw [ev, show gd_word_of.mks[0]? = some ⟨"Clearing", "__init__", 1, fd_Clearing_init⟩ from rfl]
        dsimp only
        rw [els_cons (el_var (x := x.D) rfl) els_nil, bnd_ok, i1, bnd_ok]
      rw [es_own1 this rfl]; rfl
    have s4 : evS gd_word_of 5000 (.for (.nm 3) .rng1 false [(.bin .Sub (.var 1) (.cst (.int (1))))] [.mcl 1 2 false [(.var 3)]]) [some (0, x.D), some (0, .int 2), some (1, cO x []), none] = some (.nx [some (0, x.D), some (0, .int 2), some (1, cO x' w'), some (0, .int 0)]) := by
      refine (forB_eq (items := [.int 0]) rfl).trans ?_
      unfold forO
      rw [show forF (.nm 3) (evB gd_word_of 5000 [.mcl 1 2 false [(.var 3)]]) (.int 0) [some (0, x.D), some (0, .int 2), some (1, cO x []), none] = some (.nx [some (0, x.D), some (0, .int 2), some (1, cO x' w'), some (0, .int 0)]) from by
        show evB gd_word_of 5000 [.mcl 1 2 false [(.var 3)]] [some (0, x.D), some (0, .int 2), some (1, cO x []), some (0, .int 0)] = _
        have t : evS gd_word_of 5000 (.mcl 1 2 false [(.var 3)]) [some (0, x.D), some (0, .int 2), some (1, cO x []), some (0, .int 0)] = some (.nx [some (0, x.D), some (0, .int 2), some (1, cO x' w'), some (0, .int 0)]) := es_mcl (c0 := "Clearing") (m0 := "clear_below") (np := 1) (f := fd_Clearing_clear_below) (m := 0) (dob := cO x []) (ds := [.int 0]) rfl rfl (cO_m _ _).2.1 (els_cons (el_var rfl) els_nil) (.inl rfl) g1
        rw [evB_nx t]; rfl]
      rfl
    have s5 : evS gd_word_of 5000 (.for (.nm 3) .rng2 false [(.cst (.int (1))), (.var 1)] [.mcl 2 2 false [(.var 3)]]) [some (0, x.D), some (0, .int 2), some (1, cO x' w'), some (0, .int 0)] = some (.nx [some (0, x.D), some (0, .int 2), some (1, cO A2.one (tkW w' (true, x'.b))), some (0, .int 1)]) := by
      have ei := it_rng2 (Γ := gd_word_of) (ρ := [some (0, x.D), some (0, .int 2), some (1, cO x' w'), some (0, .int 0)]) (b := false) (args := [(.cst (.int (1))), (.var 1)]) (i := 1) (j := 2) (els_cons el_cst (els_cons (el_var rfl) els_nil)) (by decide)
      rw [show ((2 : Int) - 1).toNat = 1 from rfl, rngL_1] at ei
      refine (forB_eq ei).trans ?_
      unfold forO
      rw [show forF (.nm 3) (evB gd_word_of 5000 [.mcl 2 2 false [(.var 3)]]) (.int 1) [some (0, x.D), some (0, .int 2), some (1, cO x' w'), some (0, .int 0)] = some (.nx [some (0, x.D), some (0, .int 2), some (1, cO A2.one (tkW w' (true, x'.b))), some (0, .int 1)]) from by
        show evB gd_word_of 5000 [.mcl 2 2 false [(.var 3)]] [some (0, x.D), some (0, .int 2), some (1, cO x' w'), some (0, .int 1)] = _
        have t : evS gd_word_of 5000 (.mcl 2 2 false [(.var 3)]) [some (0, x.D), some (0, .int 2), some (1, cO x' w'), some (0, .int 1)] = some (.nx [some (0, x.D), some (0, .int 2), some (1, cO A2.one (tkW w' (true, x'.b))), some (0, .int 1)]) := es_mcl (c0 := "Clearing") (m0 := "clear_above") (np := 1) (f := fd_Clearing_clear_above) (m := 0) (dob := cO x' w') (ds := [.int 1]) rfl rfl (cO_m _ _).2.2 (els_cons (el_var rfl) els_nil) (.inl rfl) g9
        rw [evB_nx t]; rfl]
      rfl
    rw [e0, evB_nx s1, evB_nx s2, evB_nx s3, evB_nx s4, evB_nx s5]
    rfl
  · have e : sub01 x' x'.b = A2.one := by apply A2.ext' <;> simp [sub01, A2.one, g2, g3, g4]
    have := take_mul01 (w := w') (x := x') x'.b
    rw [e, A2.mul_one] at this
    rw [this, g5]
end DE
set_option linter.all false
set_option maxRecDepth 100000
set_option maxHeartbeats 4000000
set_option exponentiation.threshold 4000
namespace DE
open PySem PySem.Spec PyProof.Rows L2
theorem f_one2 : fd_identity [.int 2] = some (.ok A2.one.D) := f_ident2'
theorem g_check {x : A2} {B : Nat} (hd : x.det = 1) (s : x.Sz B) (hB : B < 2 ^ 900) : fd_check_table [x.D] = some (.ok .non) := by
  have h9 : (2 : Nat) ^ 900 < 2 ^ 1000 := by decide
  exact f_check2 (S1.le s.a (by omega)) (S1.le s.b (by omega)) (S1.le s.c (by omega)) (S1.le s.d (by omega)) hd
theorem g_turned {e : Nat} (he : e < 29) {x : A2} {B : Nat} (hd : x.det = 1) (s : x.Sz B) (hB1 : 1 ≤ B) (hB : B < 2 ^ 900) : fd_turned [.int ((e + 2 : Nat) : Int), x.D] = some (.ok ((tnE e).rA x).D) := by
  obtain ⟨w, g1, g2, g3, _⟩ := f_word_of hd s hB1 hB
  rw [← g2]
  have hw : fd_word_of [(wA w).D] = some (.ok (wD w)) := by rw [g2]; exact g1
  have hc : fd_check_table_of [.int 2, (wA w).D] = some (.ok .non) := f_ckof (by rw [g2]; exact g_check hd s hB) rfl
  exact f_turned he hc hw (by omega)
/-- whether a table is made, as is_made tells it -/
def mdB (e : Nat) (x : A2) : Bool := decide (x.red ((e + 2 : Nat) : Int) = A2.one.red ((e + 2 : Nat) : Int)) && eqD ((tnE e).rA x).D (T3.one : T3 (RN e)).D
theorem mdB_iff (e : Nat) (x : A2) : mdB e x = true ↔ A2.Cg ((e + 2 : Nat) : Int) x A2.one ∧ (tnE e).rA x = (tnE e).one := by
  unfold mdB
  rw [Bool.and_eq_true, decide_eq_true_eq, eqD_T3]
  exact ⟨fun h => ⟨A2.Cg.of_red h.1, h.2⟩, fun h => ⟨A2.Cg.red h.1, h.2⟩⟩
theorem g_is_made {e : Nat} (he : e < 29) {x : A2} {B : Nat} (hd : x.det = 1) (s : x.Sz B) (hB1 : 1 ≤ B) (hB : B < 2 ^ 900) : fd_is_made [.int ((e + 2 : Nat) : Int), x.D] = some (.ok (.bl (mdB e x))) := by
  have k1 := f_order he
  have k2 := g_check hd s hB
  have k3 := f_ckof k2 rfl
  have k4 := f_alike he k2 (g_check (x := A2.one) (B := 1) rfl .one (by decide))
  have k5 := g_turned he hd s hB1 hB
  have k6 := f_unit he
  have k7 : inA .Eq ((tnE e).rA x).D (T3.one : T3 (RN e)).D = some (.bl (eqD ((tnE e).rA x).D (T3.one : T3 (RN e)).D)) := by
    show cmpD .Eq _ _ = _
    unfold cmpD
    dsimp only
    rw [(Shq.T3 _).shp (by decide), (Shq.T3 _).shp (by decide)]; rfl
  have e0 : fd_is_made [.int ((e + 2 : Nat) : Int), x.D] = resO (evB gd_is_made 5000 bd_is_made [some (0, .int ((e + 2 : Nat) : Int)), some (0, x.D)]) := def_run (Γ := gd_is_made) (fu := 5000) (np := 2) (body := bd_is_made) (ds := [.int ((e + 2 : Nat) : Int), x.D]) rfl
  unfold mdB
  rw [e0]
  unfold bd_is_made
  generalize ((e + 2 : Nat) : Int) = N at *
  have s1 : evS gd_is_made 5000 (.exp (.call 0 [(.var 0)])) [some (0, .int N), some (0, x.D)] = some (.nx [some (0, .int N), some (0, x.D)]) := es_exp (el_call (nm := "check_order") (np := 1) (f := fd_check_order) rfl (els_cons (el_var rfl) els_nil) k1)
  have s2 : evS gd_is_made 5000 (.exp (.call 1 [(.cst (.int (2))), (.var 1)])) [some (0, .int N), some (0, x.D)] = some (.nx [some (0, .int N), some (0, x.D)]) := es_exp (el_call (nm := "check_table_of") (np := 2) (f := fd_check_table_of) rfl (els_cons el_cst (els_cons (el_var rfl) els_nil)) k3)
  rw [evB_nx s1, evB_nx s2]
  have c1 : ev gd_is_made (.call 2 [(.var 0), (.var 1), (.call 3 [(.cst (.int (2)))])]) [some (.int N), some x.D] = some (.ok (.bl (decide (x.red N = A2.one.red N)))) := el_call (nm := "is_alike") (np := 3) (f := fd_is_alike) rfl (els_cons (el_var rfl) (els_cons (el_var rfl) (els_cons (el_call (nm := "identity") (np := 1) (f := fd_identity) rfl (els_cons el_cst els_nil) f_one2) els_nil))) k4
  have c2 : ev gd_is_made (.cmp .Eq (.call 4 [(.var 0), (.var 1)]) (.call 5 [(.var 0)])) [some (.int N), some x.D] = some (.ok (.bl (eqD ((tnE e).rA x).D (T3.one : T3 (RN e)).D))) := el_cmp (el_call (nm := "turned") (np := 2) (f := fd_turned) rfl (els_cons (el_var rfl) (els_cons (el_var rfl) els_nil)) k5) (el_call (nm := "unit_turning") (np := 1) (f := fd_unit_turning) rfl (els_cons (el_var rfl) els_nil) k6) k7
  rw [eb_ret (el_and c1 rfl (z := .bl (decide (x.red N = A2.one.red N) && eqD ((tnE e).rA x).D (T3.one : T3 (RN e)).D)) (by
    cases decide (x.red N = A2.one.red N) with
    | true => rw [if_pos rfl]; exact c2
    | false => rw [if_neg Bool.false_ne_true]; rfl))]
  rfl
/-! ### what is made: the laws' facts -/
section
variable {e : Nat}
theorem md_one : mdB e A2.one = true := (mdB_iff e _).mpr ⟨A2.Cg.refl _ _, (tnE e).rA_one⟩
theorem md_mul {x y : A2} (hx : x.det = 1) (hy : y.det = 1) (h : mdB e x = true) : mdB e (x.mul y) = mdB e y := by
  obtain ⟨h1, h2⟩ := (mdB_iff e x).mp h
  rw [Bool.eq_iff_iff, mdB_iff, mdB_iff, (tnE e).rA_mul hx hy, h2, (tnE e).one_mul]
  have g : A2.Cg ((e + 2 : Nat) : Int) (x.mul y) y := by
    have := h1.mul (A2.Cg.refl _ y)
    rw [A2.one_mul] at this; exact this
  exact ⟨fun z => ⟨g.symm.trans z.1, z.2⟩, fun z => ⟨g.trans z.1, z.2⟩⟩
theorem md_mul' {x y : A2} (hx : x.det = 1) (hy : y.det = 1) (h : mdB e x = true) : mdB e (y.mul x) = mdB e y := by
  obtain ⟨h1, h2⟩ := (mdB_iff e x).mp h
  rw [Bool.eq_iff_iff, mdB_iff, mdB_iff, (tnE e).rA_mul hy hx, h2, (tnE e).mul_one]
  have g : A2.Cg ((e + 2 : Nat) : Int) (y.mul x) y := by
    have := (A2.Cg.refl ((e + 2 : Nat) : Int) y).mul h1
    rw [A2.mul_one] at this; exact this
  exact ⟨fun z => ⟨g.symm.trans z.1, z.2⟩, fun z => ⟨g.trans z.1, z.2⟩⟩
theorem md_conj {x C : A2} (hx : x.det = 1) (hC : C.det = 1) : mdB e ((C.mul x).mul C.adj) = mdB e x := by
  have key : ∀ {x C : A2}, x.det = 1 → C.det = 1 → mdB e x = true → mdB e ((C.mul x).mul C.adj) = true := fun {x C} hx hC h => by
    obtain ⟨h1, h2⟩ := (mdB_iff e x).mp h
    refine (mdB_iff e _).mpr ⟨h1.conj hC, ?_⟩
    rw [(tnE e).rA_mul (by rw [A2.det_mul, hx, hC]; rfl) (A2.det_adj hC), (tnE e).rA_mul hC hx, h2, (tnE e).mul_one, ((tnE e).rA_adj hC).1]
  rw [Bool.eq_iff_iff]
  refine ⟨fun h => ?_, key hx hC⟩
  have := key (C := C.adj) (by rw [A2.det_mul, A2.det_mul, hx, hC, A2.det_adj hC]; rfl) (A2.det_adj hC) h
  have e1 : (C.adj.mul ((C.mul x).mul C.adj)).mul C.adj.adj = x := by
    have ea : C.adj.adj = C := by apply A2.ext' <;> simp [A2.adj]
    rw [ea, A2.mul_assoc, A2.mul_assoc (C.mul x), A2.adj_mul hC, A2.mul_one, ← A2.mul_assoc, A2.adj_mul hC, A2.one_mul]
  rw [e1] at this
  exact this
theorem md_adj {x : A2} (hx : x.det = 1) (h : mdB e x = true) : mdB e x.adj = true := by
  have := md_mul (y := x.adj) hx (A2.det_adj hx) h
  rw [A2.mul_adj hx, md_one] at this
  exact this.symm
theorem tpN (k : Int) : (tnE e).tp (((e + 2 : Nat) : Int) * k) = (tnE e).one := by
  show T3.pw _ ((((e + 2 : Nat) : Int) * k) % ((e + 2 : Nat) : Int)).toNat = _
  rw [Int.mul_emod_right]; rfl
theorem md_up (k : Int) : mdB e (A2.stp 0 1 (((e + 2 : Nat) : Int) * k)) = true := (mdB_iff e _).mpr ⟨A2.Cg.stp Cg.zero, by rw [(tnE e).rA_up, tpN]⟩
theorem md_dn (k : Int) : mdB e (A2.stp 1 0 (((e + 2 : Nat) : Int) * k)) = true := (mdB_iff e _).mpr ⟨A2.Cg.stp Cg.zero, by
  rw [(tnE e).rA_dn, ← Int.mul_neg, tpN, (tnE e).mul_one]; exact (tnE e).ss⟩
end
end DE
set_option linter.all false
set_option maxRecDepth 100000
set_option maxHeartbeats 4000000
set_option exponentiation.threshold 4000
namespace DE
open PySem PySem.Spec PyProof.Rows L2
theorem f_lmul {x y : A2} {B C : Nat} (s : x.Sz B) (hB : B < 2 ^ 1000) (t : y.Sz C) (hC : C < 2 ^ 1000) : fd_law_mul [x.D, y.D] = some (.ok (x.mul y).D) := by
  have g := fun {u v : Int} (h1 : u.natAbs ≤ B) (h2 : v.natAbs ≤ C) => mul11 (S1.le h1 hB) (S1.le h2 hC)
  have h1 := g s.a t.a
  have h2 := g s.b t.c
  have h3 := g s.a t.b
  have h4 := g s.b t.d
  have h5 := g s.c t.a
  have h6 := g s.d t.c
  have h7 := g s.c t.b
  have h8 := g s.d t.d
  simp [fd_law_mul, gd_law_mul, bd_law_mul, defF, resO, evB, evS, ev, evs, evi, evo, bnd, exE, lft, tru, seqO, truD, bor, stc, envB, keepB, setS, initS, binD, cmpD, inA, idxA, idxD, bltD, itD, itS, it1, it2, lcF, turns, turnF, pat, pats, wipeE, setE, val?, forO, D.noL, D.noLs, atI, ixN, intsD, blsD, negD, slcD, cutD, isiD, isiO, rngL, flatD, shp_int, eqD_int, szl, List.range, List.range.loop, ownG, getO, putO, okT, A2.D, A2.mul, h1, h2, h3, h4, h5, h6, h7, h8]
theorem f_lback (x : A2) : fd_law_back [x.D] = some (.ok x.adj.D) := by
  simp [fd_law_back, gd_law_back, bd_law_back, defF, resO, evB, evS, ev, evs, evi, evo, bnd, exE, lft, tru, seqO, truD, bor, stc, envB, keepB, setS, initS, binD, cmpD, inA, idxA, idxD, bltD, itD, itS, it1, it2, lcF, turns, turnF, pat, pats, wipeE, setE, val?, forO, D.noL, D.noLs, atI, ixN, intsD, blsD, negD, slcD, cutD, isiD, isiO, rngL, flatD, shp_int, eqD_int, szl, List.range, List.range.loop, ownG, getO, putO, okT, A2.D, A2.adj]
theorem modv {i j : Int} (h : 0 < j) : binD .Mod (.int i) (.int j) = some (.int (i % j)) := by
  unfold binD
  dsimp only
  rw [if_pos (by omega), Int.fmod_eq_emod_of_nonneg _ (by omega)]
theorem es_app0 {Γ : G} {fu i : Nat} {b : Bool} {e : T} {ρ : List Sl} {ds : List D} {d : D} (h0 : ρ[i]? = some (some (1, .lst ds))) (hl : ds.length < sizeLine) (h : ev Γ e (envB b ρ) = some (.ok d)) (hk : keepB b d = true) : evS Γ fu (.app (.sl i) 0 b e) ρ = some (.nx (ρ.set i (some (1, .lst (ds ++ [d]))))) := by
  rw [evS]
  rw [show getO (.sl i) ρ = some (1, .lst ds) from by unfold getO; dsimp only; rw [h0]]
  dsimp only
  rw [if_pos ⟨rfl, hl, rfl⟩, h, exE, if_pos hk]; rfl
theorem fm0 {N : Nat} (h : N ≠ 0) (x : Int) : (x.fmod (N : Int) = 0) ↔ Cg (N : Int) x 0 := by
  rw [← Cg.iff]
  rw [show (0 : Int).fmod (N : Int) = 0 from Int.zero_fmod _]
/-- the law's is_one -/
def isO1 (N : Int) (x : A2) : Bool := (x.a - 1).fmod N == 0 && ((x.d - 1).fmod N == 0 && (x.b.fmod N == 0 && x.c.fmod N == 0))
theorem f_is_one {N : Int} (hN : N ≠ 0) (x : A2) : fd_law_is_one [.int N, x.D] = some (.ok (.bl (isO1 N x))) := by
  unfold isO1
  simp [fd_law_is_one, gd_law_is_one, bd_law_is_one, defF, resO, evB, evS, ev, evs, evi, evo, bnd, exE, lft, tru, seqO, truD, bor, stc, envB, keepB, setS, initS, binD, cmpD, inA, idxA, idxD, bltD, itD, itS, it1, it2, lcF, turns, turnF, pat, pats, wipeE, setE, val?, forO, D.noL, D.noLs, atI, ixN, intsD, blsD, negD, slcD, cutD, isiD, isiO, rngL, flatD, shp_int, eqD_int, szl, List.range, List.range.loop, ownG, getO, putO, okT, A2.D, hN]
  by_cases h1 : (x.a - 1).fmod N = 0
  · by_cases h2 : (x.d - 1).fmod N = 0
    · by_cases h3 : x.b.fmod N = 0
      · simp [h1, h2, h3]
      · simp [h1, h2, h3]
    · simp [h1, h2]
  · simp [h1]
theorem isO1_iff {N : Nat} (hN : N ≠ 0) (x : A2) : isO1 (N : Int) x = true ↔ A2.Cg (N : Int) x A2.one := by
  unfold isO1
  simp only [Bool.and_eq_true, beq_iff_eq, fm0 hN]
  constructor
  · rintro ⟨h1, h2, h3, h4⟩
    refine ⟨?_, h3, h4, ?_⟩
    · obtain ⟨q, e⟩ := h1; exact ⟨q, by show x.a = 1 + _; omega⟩
    · obtain ⟨q, e⟩ := h2; exact ⟨q, by show x.d = 1 + _; omega⟩
  · rintro ⟨h1, h2, h3, h4⟩
    refine ⟨?_, ?_, h2, h3⟩
    · obtain ⟨q, e⟩ := h1; have e : x.a = 1 + (N : Int) * q := e; exact ⟨q, by omega⟩
    · obtain ⟨q, e⟩ := h4; have e : x.d = 1 + (N : Int) * q := e; exact ⟨q, by omega⟩
theorem slc_dl (ds : List Int) {i : Nat} (h : i ≤ ds.length) : slcD (dl ds) (some (i : Int)) none = some (dl (ds.drop i)) := by
  show some (D.lst (cutD (ds.map D.int) (some (i : Int)) none)) = _
  unfold cutD
  rw [List.length_map, HT.sIx_nat, Nat.min_eq_left h, HT.sIx_none, List.take_of_length_le (by rw [List.length_drop, List.length_map]; exact Nat.le_refl _), ← List.map_drop]
  rfl
theorem el_slc {Γ : G} {ρ : Env} {a t : T} {x z : DE.D} {i : Int} (ha : ev Γ a ρ = some (.ok x)) (ht : ev Γ t ρ = some (.ok (.int i))) (h : slcD x (some i) none = some z) : ev Γ (.slc a (some t) none) ρ = some (.ok z) := by
  have h1 : evo Γ (some t) ρ = some (.ok (some i)) := by rw [evo, ht]; rfl
  have h2 : evo Γ none ρ = some (.ok none) := by rw [evo]
  rw [ev, ha, bnd_ok, h1, bnd_ok, h2, bnd_ok, h, lft]
theorem Dr.drop {xs : List Int} (h : Dr xs) (k : Nat) : Dr (xs.drop k) := fun x hx => h x (List.mem_of_mem_drop hx)
theorem ix_dl {ds : List Int} {i : Nat} {v : Int} (h : ds[i]? = some v) : idxA (dl ds) (.int (i : Int)) = some (.int v) := atM_nat h
theorem dr_at {ds : List Int} (h : Dr ds) {i : Nat} (hi : i < ds.length) : ∃ v, ds[i]? = some v ∧ 0 ≤ v ∧ v < 65521 := ⟨_, List.getElem?_eq_getElem hi, h _ (List.getElem_mem hi)⟩
theorem isO1_one (N : Nat) (h : N ≠ 0) {x : A2} {e : Nat} (hN : N = e + 2) (hm : mdB e x = true) : isO1 (N : Int) x = true := by
  subst hN
  exact (isO1_iff h x).mpr ((mdB_iff e x).mp hm).1
theorem inA_isf (b : Bool) : inA .Is (.bl b) (.bl false) = some (.bl (decide (b = false))) := rfl
theorem inA_neb (a b : Bool) : inA .NotEq (.bl a) (.bl b) = some (.bl (!(a == b))) := by cases a <;> cases b <;> rfl
theorem pick3 {p q r : Int} {i : Nat} (h : i < 3) : ∃ m : Int, (m = p ∨ m = q ∨ m = r) ∧ idxA (.lst [.int p, .int q, .int r]) (.int (i : Int)) = some (.int m) := by
  have : i = 0 ∨ i = 1 ∨ i = 2 := by omega
  rcases this with rfl | rfl | rfl
  · exact ⟨p, .inl rfl, rfl⟩
  · exact ⟨q, .inr (.inl rfl), rfl⟩
  · exact ⟨r, .inr (.inr rfl), rfl⟩
end DE
set_option linter.all false
set_option maxRecDepth 100000
set_option maxHeartbeats 4000000
set_option exponentiation.threshold 4000
namespace DE
open PySem PySem.Spec PyProof.Rows L2
/-! ### the laws' tables and words -/
inductive Lt | s | t | u
def Lt.D : Lt → DE.D | .s => .str "s" | .t => .str "t" | .u => .str "u"
def Lt.A : Lt → A2 | .s => ⟨0, -1, 1, 0⟩ | .t => ⟨1, 1, 0, 1⟩ | .u => ⟨1, -1, 0, 1⟩
theorem Lt.det (l : Lt) : l.A.det = 1 := by cases l <;> rfl
theorem Lt.sz (l : Lt) : l.A.Sz 1 := by cases l <;> exact ⟨by decide, by decide, by decide, by decide⟩
def ltA : List Lt → A2
  | [] => A2.one
  | l :: ls => l.A.mul (ltA ls)
theorem ltA_app : ∀ v w, ltA (v ++ w) = (ltA v).mul (ltA w)
  | [], w => (A2.one_mul _).symm
  | s :: v, w => by show s.A.mul (ltA (v ++ w)) = (s.A.mul (ltA v)).mul (ltA w); rw [ltA_app v w, A2.mul_assoc]
theorem ltA_det : ∀ w, (ltA w).det = 1
  | [] => rfl
  | s :: w => by show (s.A.mul (ltA w)).det = 1; rw [A2.det_mul, s.det, ltA_det w]; rfl
theorem ix_word {i : Int} (h : 0 ≤ i ∧ i < 8) : ∃ l : Lt, idxA (.str "stuttuus") (.int i) = some l.D := by
  have : i = 0 ∨ i = 1 ∨ i = 2 ∨ i = 3 ∨ i = 4 ∨ i = 5 ∨ i = 6 ∨ i = 7 := by omega
  rcases this with rfl | rfl | rfl | rfl | rfl | rfl | rfl | rfl
  · exact ⟨.s, rfl⟩
  · exact ⟨.t, rfl⟩
  · exact ⟨.u, rfl⟩
  · exact ⟨.t, rfl⟩
  · exact ⟨.t, rfl⟩
  · exact ⟨.u, rfl⟩
  · exact ⟨.u, rfl⟩
  · exact ⟨.s, rfl⟩
def lwE : T := .idx (.cst (.str "stuttuus")) (.bin .Mod (.blt .int [(.bin .FloorDiv (.idx (.var 0) (.bin .Mod (.blt .int [(.var 3)]) (.blt .len [(.var 0)]))) (.bin .Add (.var 3) (.cst (.int (1)))))]) (.cst (.int (8))))
theorem lw_eq : bd_law_word = [.own 2 1 (.lst []), .for (.nm 3) .rng1 false [(.var 1)] [.app (.sl 2) 0 false lwE], .frz 2, .ret (.var 2)] := rfl
theorem lw_turn {ds : List Int} (hd : Dr ds) (h0 : ds ≠ []) (hl0 : ds.length < 100000) {many : Int} {ls : List Lt} (hl : ls.length < 100000) {k : Nat} (hk : k < 100000) : ∃ l : Lt, evB gd_law_word 5000 [.app (.sl 2) 0 false lwE] [some (0, dl ds), some (0, .int many), some (1, .lst (ls.map Lt.D)), some (0, .int (k : Int))] = some (.nx [some (0, dl ds), some (0, .int many), some (1, .lst ((ls ++ [l]).map Lt.D)), some (0, .int (k : Int))]) := by
  have hp : 0 < ds.length := List.length_pos_iff.mpr h0
  have hm := Nat.mod_lt k hp
  have hg : ds[k % ds.length]? = some (ds[k % ds.length]) := List.getElem?_eq_getElem hm
  have hx := hd _ (List.mem_of_getElem? hg)
  generalize ds[k % ds.length] = v at hg hx
  have e1 : ev gd_law_word (.bin .Mod (.blt .int [(.var 3)]) (.blt .len [(.var 0)])) [some (dl ds), some (.int many), none, some (.int (k : Int))] = some (.ok (.int ((k % ds.length : Nat) : Int))) := by
    have h1 : ev gd_law_word (.blt .len [(.var 0)]) [some (dl ds), some (.int many), none, some (.int (k : Int))] = some (.ok (.int (ds.length : Int))) := el_blt (els_cons (el_var rfl) els_nil) (by show some (D.int ((ds.map D.int).length : Int)) = _; rw [List.length_map])
    rw [Int.natCast_emod]
    exact el_bin (el_blt (els_cons (el_var rfl) els_nil) rfl) h1 (modv (by omega))
  have e2 : ev gd_law_word (.idx (.var 0) (.bin .Mod (.blt .int [(.var 3)]) (.blt .len [(.var 0)]))) [some (dl ds), some (.int many), none, some (.int (k : Int))] = some (.ok (.int v)) := el_idx (el_var rfl) e1 (atM_nat hg)
  have hdv : DivP ((k : Int) + 1) := ⟨by omega, by
    have : ((k : Int) + 1).natAbs < 2 ^ 17 := by omega
    have := log2_lt _ _ this (by decide); omega⟩
  obtain ⟨l, el⟩ := ix_word (i := (v.fdiv ((k : Int) + 1)) % 8) ⟨Int.emod_nonneg _ (by decide), Int.emod_lt_of_pos _ (by decide)⟩
  refine ⟨l, ?_⟩
  have e3 : ev gd_law_word lwE [some (dl ds), some (.int many), none, some (.int (k : Int))] = some (.ok l.D) := el_idx el_cst (el_bin (el_blt (els_cons (el_bin e2 (el_bin (el_var rfl) el_cst rfl) (fdv hdv)) els_nil) rfl) el_cst (modv (by decide))) el
  rw [evB_nx (es_app0 (ds := ls.map Lt.D) rfl (by rw [List.length_map, szl]; omega) e3 rfl), List.map_append]
  rfl
theorem f_lword {ds : List Int} (hd : Dr ds) (h0 : ds ≠ []) (hl0 : ds.length < 100000) {many : Nat} (hm : many < 100000) : ∃ ls : List Lt, ls.length = many ∧ fd_law_word [dl ds, .int (many : Int)] = some (.ok (.lst (ls.map Lt.D))) := by
  obtain ⟨ρ', g1, ls, y, g2, g3⟩ := forO_ix (p := .nm 3) (fb := evB gd_law_word 5000 [.app (.sl 2) 0 false lwE]) (fun n ρ => ∃ (ls : List Lt) (y : Sl), ls.length = n ∧ ρ = [some (0, dl ds), some (0, .int (many : Int)), some (1, .lst (ls.map Lt.D)), y]) (rngL 0 many) 0 [some (0, dl ds), some (0, .int (many : Int)), some (1, .lst []), none] (by
    rintro k d hk ρ ⟨ls, y, hl, rfl⟩
    have hkm : k < many := by have := (List.getElem?_eq_some_iff.mp hk).1; rwa [rngL_len] at this
    have hx := rngL_get hk
    subst hx
    rw [Int.zero_add]
    rw [Nat.zero_add] at hl
    obtain ⟨l, e1⟩ := lw_turn hd h0 hl0 (many := (many : Int)) (ls := ls) (by omega) (k := k) (by omega)
    exact ⟨_, e1, ls ++ [l], _, by rw [List.length_append]; simp; omega, rfl⟩) ⟨[], none, rfl, rfl⟩
  rw [rngL_len, Nat.zero_add] at g2
  subst g3
  refine ⟨ls, g2, ?_⟩
  have e0 : fd_law_word [dl ds, .int (many : Int)] = resO (evB gd_law_word 5000 [.own 2 1 (.lst []), .for (.nm 3) .rng1 false [(.var 1)] [.app (.sl 2) 0 false lwE], .frz 2, .ret (.var 2)] [some (0, dl ds), some (0, .int (many : Int)), none, none]) := def_run (Γ := gd_law_word) (fu := 5000) (np := 2) (body := bd_law_word) (ds := [dl ds, .int (many : Int)]) rfl
  have e1 : evS gd_law_word 5000 (.own 2 1 (.lst [])) [some (0, dl ds), some (0, .int (many : Int)), none, none] = some (.nx [some (0, dl ds), some (0, .int (many : Int)), some (1, .lst []), none]) := rfl
  have e2 : evS gd_law_word 5000 (.for (.nm 3) .rng1 false [(.var 1)] [.app (.sl 2) 0 false lwE]) [some (0, dl ds), some (0, .int (many : Int)), some (1, .lst []), none] = _ := (forB_eq (rng1_var (n := many) rfl (by omega))).trans g1
  rw [e0, evB_nx e1, evB_nx e2]
  rfl
def tabs : DE.D := .dK [.inr "s", .inr "t", .inr "u"] [Lt.s.A.D, Lt.t.A.D, Lt.u.A.D]
theorem ix_tabs (l : Lt) : idxA tabs l.D = some l.A.D := by cases l <;> rfl
theorem lt_loop {wd : DE.D} : ∀ (ls : List Lt) (x : A2) (B : Nat) (y : Sl), x.Sz B → B * 2 ^ ls.length < 2 ^ 1000 → ∃ y', forO (forF (.nm 3) (evB gd_law_table 5000 [.asg 2 false (.call 0 [(.var 2), (.idx (.var 1) (.var 3))])])) (ls.map Lt.D) [some (0, wd), some (0, tabs), some (0, x.D), y] = some (.nx [some (0, wd), some (0, tabs), some (0, (x.mul (ltA ls)).D), y']) ∧ (x.mul (ltA ls)).Sz (B * 2 ^ ls.length)
  | [], x, B, y, s, h => ⟨y, by rw [show ltA [] = A2.one from rfl, A2.mul_one]; rfl, by rw [show ltA [] = A2.one from rfl, A2.mul_one]; exact s.mono (by simp)⟩
  | l :: ls, x, B, y, s, h => by
    have hs : (x.mul l.A).Sz (B * 2) := (s.mul l.sz).mono (by omega)
    have hp : B * 2 ^ (l :: ls).length = B * 2 * 2 ^ ls.length := by rw [List.length_cons, Nat.pow_succ, Nat.mul_assoc, Nat.mul_comm 2]
    rw [hp] at h ⊢
    obtain ⟨y', g1, g2⟩ := lt_loop (wd := wd) ls (x.mul l.A) (B * 2) (some (0, l.D)) hs h
    rw [A2.mul_assoc] at g1 g2
    refine ⟨y', ?_, g2⟩
    have hB : B < 2 ^ 1000 := Nat.lt_of_le_of_lt (Nat.le_trans (show B ≤ B * 2 by omega) (Nat.le_mul_of_pos_right _ (Nat.pow_pos (by decide)))) h
    have e1 : evS gd_law_table 5000 (.asg 2 false (.call 0 [(.var 2), (.idx (.var 1) (.var 3))])) [some (0, wd), some (0, tabs), some (0, x.D), some (0, l.D)] = some (.nx [some (0, wd), some (0, tabs), some (0, (x.mul l.A).D), some (0, l.D)]) := es_asg (el_call (nm := "_law_mul") (np := 2) (f := fd_law_mul) rfl (els_cons (el_var rfl) (els_cons (el_idx (el_var rfl) (el_var rfl) (ix_tabs l)) els_nil)) (f_lmul s hB l.sz (by decide))) rfl
    rw [List.map_cons]
    unfold forO
    rw [show forF (.nm 3) (evB gd_law_table 5000 [.asg 2 false (.call 0 [(.var 2), (.idx (.var 1) (.var 3))])]) l.D [some (0, wd), some (0, tabs), some (0, x.D), y] = some (.nx [some (0, wd), some (0, tabs), some (0, (x.mul l.A).D), some (0, l.D)]) from by
      show evB gd_law_table 5000 [.asg 2 false (.call 0 [(.var 2), (.idx (.var 1) (.var 3))])] [some (0, wd), some (0, tabs), some (0, x.D), some (0, l.D)] = _
      rw [evB_nx e1]; rfl]
    exact g1
theorem f_ltable (ls : List Lt) (h : ls.length ≤ 100) : fd_law_table [.lst (ls.map Lt.D)] = some (.ok (ltA ls).D) ∧ (ltA ls).Sz (2 ^ ls.length) := by
  have hp : (2 : Nat) ^ ls.length ≤ 2 ^ 100 := Nat.pow_le_pow_right (by decide) h
  have h9 : (2 : Nat) ^ 100 < 2 ^ 1000 := by decide
  obtain ⟨y', g1, g2⟩ := lt_loop (wd := .lst (ls.map Lt.D)) ls A2.one 1 none .one (by omega)
  rw [A2.one_mul] at g1 g2
  refine ⟨?_, by simpa using g2⟩
  have e0 : fd_law_table [.lst (ls.map Lt.D)] = resO (evB gd_law_table 5000 bd_law_table [some (0, .lst (ls.map Lt.D)), none, none, none]) := def_run (Γ := gd_law_table) (fu := 5000) (np := 1) (body := bd_law_table) (ds := [.lst (ls.map Lt.D)]) rfl
  rw [e0]
  unfold bd_law_table
  have k1 : ∀ t, evS gd_law_table 5000 t [some (0, .lst (ls.map Lt.D)), none, none, none] = evS gd_law_table 5000 t [some (0, .lst (ls.map Lt.D)), none, none, none] := fun _ => rfl
  rw [evB_nx (ρ' := [some (0, .lst (ls.map Lt.D)), some (0, tabs), none, none]) (es_asg (d := tabs) (by rfl) rfl), evB_nx (ρ' := [some (0, .lst (ls.map Lt.D)), some (0, tabs), some (0, A2.one.D), none]) (es_asg (d := A2.one.D) (by rfl) rfl)]
  rw [evB_nx ((forB_eq (items := ls.map Lt.D) rfl).trans g1)]
  rfl
end DE
set_option linter.all false
set_option maxRecDepth 100000
set_option maxHeartbeats 4000000
set_option exponentiation.threshold 4000
namespace DE
open PySem PySem.Spec PyProof.Rows L2
def A2.ng (x : A2) : A2 := ⟨-x.a, -x.b, -x.c, -x.d⟩
theorem A2.ng_det {x : A2} (h : x.det = 1) : x.ng.det = 1 := by
  unfold A2.det A2.ng at *
  simp only [Int.neg_mul_neg]
  exact h
theorem A2.Sz.ng {B : Nat} {x : A2} (s : x.Sz B) : x.ng.Sz B := ⟨neg_na s.a, neg_na s.b, neg_na s.c, neg_na s.d⟩
theorem A2.Cg.ng {N : Int} {x y : A2} (h : A2.Cg N x y) : A2.Cg N x.ng y.ng := ⟨h.a.neg, h.b.neg, h.c.neg, h.d.neg⟩
theorem A2.ng_ng (x : A2) : x.ng.ng = x := by apply A2.ext' <;> simp [A2.ng]
theorem A2.ng_mul (x y : A2) : x.ng.mul y = (x.mul y).ng := by apply A2.ext' <;> simp only [A2.ng, A2.mul] <;> grind
/-- alike but for the sign -/
def Cgs (N : Int) (x y : A2) : Prop := A2.Cg N x y ∨ A2.Cg N x y.ng
theorem Cgs.trans {N : Int} {x y z : A2} (h : Cgs N x y) (k : Cgs N y z) : Cgs N x z := by
  rcases h with h | h <;> rcases k with k | k
  · exact .inl (h.trans k)
  · exact .inr (h.trans k)
  · exact .inr (h.trans k.ng)
  · have := k.ng
    rw [A2.ng_ng] at this
    exact .inl (h.trans this)
theorem Cgs.mul {N : Int} {x y : A2} (h : Cgs N x y) (z : A2) : Cgs N (x.mul z) (y.mul z) := by
  rcases h with h | h
  · exact .inl (h.mul (A2.Cg.refl _ _))
  · have := h.mul (A2.Cg.refl N z)
    rw [A2.ng_mul] at this
    exact .inr this
/-! ### representatives -/
def rp2 : List A2 := [⟨1, 0, 0, 1⟩, ⟨0, -1, 1, 0⟩, ⟨1, 1, 0, 1⟩, ⟨0, -1, 1, 1⟩, ⟨1, -1, 1, 0⟩, ⟨-1, 0, 1, -1⟩]
def rp3 : List A2 := [⟨1, 0, 0, 1⟩, ⟨0, -1, 1, 0⟩, ⟨1, 1, 0, 1⟩, ⟨0, -1, 1, 1⟩, ⟨1, -1, 1, 0⟩, ⟨1, 2, 0, 1⟩, ⟨-1, 0, 1, -1⟩, ⟨0, -1, 1, 2⟩, ⟨1, 0, 1, 1⟩, ⟨2, -1, 1, 0⟩, ⟨1, 1, 1, 2⟩, ⟨2, 1, 1, 1⟩]
def rp4 : List A2 := [⟨1, 0, 0, 1⟩, ⟨0, -1, 1, 0⟩, ⟨1, 1, 0, 1⟩, ⟨0, -1, 1, 1⟩, ⟨1, -1, 1, 0⟩, ⟨1, 2, 0, 1⟩, ⟨-1, 0, 1, -1⟩, ⟨0, -1, 1, 2⟩, ⟨1, 0, 1, 1⟩, ⟨2, -1, 1, 0⟩, ⟨1, 3, 0, 1⟩, ⟨-1, -1, 1, 0⟩, ⟨-1, 0, 2, -1⟩, ⟨0, -1, 1, 3⟩, ⟨1, 1, 1, 2⟩, ⟨2, 1, 1, 1⟩, ⟨-1, -2, 1, 1⟩, ⟨-1, -1, 2, 1⟩, ⟨1, -1, 2, -1⟩, ⟨1, 2, 1, 3⟩, ⟨2, 3, 1, 2⟩, ⟨-2, 1, 1, -1⟩, ⟨-1, -3, 1, 2⟩, ⟨-1, -2, 2, 3⟩]
def rp5 : List A2 := [⟨1, 0, 0, 1⟩, ⟨0, -1, 1, 0⟩, ⟨1, 1, 0, 1⟩, ⟨0, -1, 1, 1⟩, ⟨1, -1, 1, 0⟩, ⟨1, 2, 0, 1⟩, ⟨-1, 0, 1, -1⟩, ⟨0, -1, 1, 2⟩, ⟨1, 0, 1, 1⟩, ⟨2, -1, 1, 0⟩, ⟨1, 3, 0, 1⟩, ⟨-1, -1, 1, 0⟩, ⟨-1, 0, 2, -1⟩, ⟨0, -1, 1, 3⟩, ⟨0, -1, 1, -1⟩, ⟨1, 1, 1, 2⟩, ⟨2, 1, 1, 1⟩, ⟨3, -1, 1, 0⟩, ⟨1, 4, 0, 1⟩, ⟨-1, -2, 1, 1⟩, ⟨-1, -1, 2, 1⟩, ⟨-1, 0, 3, -1⟩, ⟨1, -1, 2, -1⟩, ⟨1, 2, 1, 3⟩, ⟨1, -2, 1, -1⟩, ⟨2, 3, 1, 2⟩, ⟨3, 2, 1, 1⟩, ⟨-2, 1, 1, -1⟩, ⟨-1, -3, 1, 2⟩, ⟨-1, 1, 1, -2⟩, ⟨-1, -2, 2, 3⟩, ⟨-1, -1, 3, 2⟩, ⟨2, -1, 3, -1⟩, ⟨3, -2, 2, -1⟩, ⟨2, 5, 1, 3⟩, ⟨2, -3, 1, -1⟩, ⟨3, 5, 1, 2⟩, ⟨-3, 1, 2, -1⟩, ⟨-2, 1, 3, -2⟩, ⟨-1, -3, 2, 5⟩, ⟨-1, 1, 2, -3⟩, ⟨-1, -2, 3, 5⟩, ⟨2, 1, 3, 2⟩, ⟨5, -2, 3, -1⟩, ⟨5, -3, 2, -1⟩, ⟨3, 8, 1, 3⟩, ⟨-3, -2, 2, 1⟩, ⟨-3, 1, 5, -2⟩, ⟨-2, 1, 5, -3⟩, ⟨-1, -3, 3, 8⟩, ⟨2, 3, 3, 5⟩, ⟨5, 3, 3, 2⟩, ⟨-3, -5, 2, 3⟩, ⟨-3, -2, 5, 3⟩, ⟨3, -2, 5, -3⟩, ⟨2, 5, 3, 8⟩, ⟨5, 8, 3, 5⟩, ⟨-5, 3, 3, -2⟩, ⟨-3, -8, 2, 5⟩, ⟨-3, -5, 5, 8⟩]
def isT (x : M D) : Bool := match x with
  | some (.ok (.bl b)) => b
  | _ => false
def szB (x : A2) : Bool := decide (x.a.natAbs ≤ 1000000) && decide (x.b.natAbs ≤ 1000000) && decide (x.c.natAbs ≤ 1000000) && decide (x.d.natAbs ≤ 1000000)
theorem szB_of {x : A2} (h : szB x = true) : x.Sz 1000000 := by
  unfold szB at h
  simp only [Bool.and_eq_true, decide_eq_true_eq] at h
  exact ⟨h.1.1.1, h.1.1.2, h.1.2, h.2⟩
def oneB (r : A2) : Bool := r.a == 1 && r.b == 0 && r.c == 0 && r.d == 1
theorem oneB_of {r : A2} (h : oneB r = true) : r = A2.one := by
  unfold oneB at h
  simp only [Bool.and_eq_true, beq_iff_eq] at h
  exact A2.ext' h.1.1.1 h.1.1.2 h.1.2 h.2
def okY (N : Int) (y : A2) : Bool := oneB y || (isO1 N y && szB y && isT (fd_is_made [.int N, y.D]))
/-- from each representative a letter leads to one, and what lies between is made -/
def edY (N : Int) (r : A2) (l : Lt) (q : A2) : Bool := okY N ((r.mul l.A).mul q.adj) || okY N ((r.mul l.A).mul q.adj).ng
def edg (N : Int) (rs : List A2) : Bool := rs.all fun r => (rs.any fun q => edY N r .s q) && (rs.any fun q => edY N r .t q) && rs.any fun q => edY N q .t r
def dts (N : Int) (rs : List A2) : Bool := rs.all fun r => decide (r.det = 1) && (!(isO1 N r || isO1 N r.ng) || oneB r)
structure RpOk (e : Nat) (rs : List A2) : Prop where
  he : e < 29
  ed : edg ((e + 2 : Nat) : Int) rs = true
  dt : dts ((e + 2 : Nat) : Int) rs = true
  on : A2.one ∈ rs
section
variable {e : Nat} {rs : List A2}
theorem RpOk.det (ok : RpOk e rs) {r : A2} (h : r ∈ rs) : r.det = 1 := by
  have := List.all_eq_true.mp ok.dt r h
  simp only [Bool.and_eq_true, decide_eq_true_eq] at this
  exact this.1
theorem RpOk.made (ok : RpOk e rs) {y : A2} (hd : y.det = 1) (h : okY ((e + 2 : Nat) : Int) y = true) : mdB e y = true := by
  unfold okY at h
  rw [Bool.or_eq_true] at h
  rcases h with h | h
  · rw [oneB_of h]; exact md_one
  simp only [Bool.and_eq_true] at h
  rw [g_is_made ok.he hd (szB_of h.1.2) (by decide) (by decide)] at h
  exact h.2
theorem md_ng (y : A2) (h : mdB e y = true) : (tnE e).rA y.ng = (tnE e).one := by
  have := ((mdB_iff e y).mp h).2
  rw [← this]
  exact (tnE e).rA_neg y
theorem RpOk.one (ok : RpOk e rs) {r q : A2} (h : r ∈ rs) (hq : q ∈ rs) {l : Lt} (h3 : edY ((e + 2 : Nat) : Int) r l q = true) : Cgs ((e + 2 : Nat) : Int) (r.mul l.A) q ∧ (tnE e).rA (r.mul l.A) = (tnE e).rA q := by
  have dq := ok.det hq
  have dr : (r.mul l.A).det = 1 := by rw [A2.det_mul, ok.det h, l.det]; rfl
  have dy : ((r.mul l.A).mul q.adj).det = 1 := by rw [A2.det_mul, dr, A2.det_adj dq]; rfl
  have back : ((r.mul l.A).mul q.adj).mul q = r.mul l.A := by rw [A2.mul_assoc, A2.adj_mul dq, A2.mul_one]
  unfold edY at h3
  rw [Bool.or_eq_true] at h3
  have fin : ∀ y : A2, y = ((r.mul l.A).mul q.adj) → Cgs ((e + 2 : Nat) : Int) y A2.one ∧ (tnE e).rA y = (tnE e).one → Cgs ((e + 2 : Nat) : Int) (r.mul l.A) q ∧ (tnE e).rA (r.mul l.A) = (tnE e).rA q := fun y ey ⟨g1, g2⟩ => by
    subst ey
    refine ⟨?_, ?_⟩
    · have := g1.mul q
      rw [back, A2.one_mul] at this
      exact this
    · rw [← back, (tnE e).rA_mul dy dq, g2, (tnE e).one_mul]
  rcases h3 with h3 | h3
  · have m := (mdB_iff e _).mp (ok.made dy h3)
    exact fin _ rfl ⟨.inl m.1, m.2⟩
  · have m := ok.made (A2.ng_det dy) h3
    have m1 := ((mdB_iff e _).mp m).1.ng
    have m2 := md_ng _ m
    rw [A2.ng_ng] at m1 m2
    exact fin _ rfl ⟨.inr m1, m2⟩
theorem Cgs.symm {N : Int} {x y : A2} (h : Cgs N x y) : Cgs N y x := by
  rcases h with h | h
  · exact .inl h.symm
  · have := h.ng.symm
    rw [A2.ng_ng] at this
    exact .inr this
theorem RpOk.step (ok : RpOk e rs) {r : A2} (h : r ∈ rs) (l : Lt) : ∃ q ∈ rs, Cgs ((e + 2 : Nat) : Int) (r.mul l.A) q ∧ (tnE e).rA (r.mul l.A) = (tnE e).rA q := by
  have h1 := List.all_eq_true.mp ok.ed r h
  simp only [Bool.and_eq_true] at h1
  cases l with
  | s =>
    obtain ⟨q, hq, h3⟩ := List.any_eq_true.mp h1.1.1
    exact ⟨q, hq, ok.one h hq h3⟩
  | t =>
    obtain ⟨q, hq, h3⟩ := List.any_eq_true.mp h1.1.2
    exact ⟨q, hq, ok.one h hq h3⟩
  | u =>
    obtain ⟨q, hq, h3⟩ := List.any_eq_true.mp h1.2
    obtain ⟨g1, g2⟩ := ok.one hq h h3
    have dt : (q.mul Lt.t.A).det = 1 := by rw [A2.det_mul, ok.det hq, Lt.det]; rfl
    have e1 : (q.mul Lt.t.A).mul Lt.u.A = q := by rw [A2.mul_assoc, show Lt.t.A.mul Lt.u.A = A2.one from rfl, A2.mul_one]
    refine ⟨q, hq, ?_, ?_⟩
    · have := g1.symm.mul Lt.u.A
      rw [e1] at this
      exact this
    · rw [(tnE e).rA_mul (ok.det h) (Lt.det _), ← g2, ← (tnE e).rA_mul dt (Lt.det _), e1]
theorem RpOk.run (ok : RpOk e rs) : ∀ (ls : List Lt) {r : A2}, r ∈ rs → ∃ q ∈ rs, Cgs ((e + 2 : Nat) : Int) (r.mul (ltA ls)) q ∧ (tnE e).rA (r.mul (ltA ls)) = (tnE e).rA q
  | [], r, h => ⟨r, h, .inl (by show A2.Cg _ (r.mul A2.one) r; rw [A2.mul_one]; exact A2.Cg.refl _ _), by show (tnE e).rA (r.mul A2.one) = _; rw [A2.mul_one]⟩
  | l :: ls, r, h => by
    obtain ⟨p, hp, c1, e1⟩ := ok.step h l
    obtain ⟨q, hq, c2, e2⟩ := ok.run ls hp
    have e0 : r.mul (ltA (l :: ls)) = (r.mul l.A).mul (ltA ls) := (A2.mul_assoc _ _ _).symm
    refine ⟨q, hq, ?_, ?_⟩
    · rw [e0]; exact (c1.mul (ltA ls)).trans c2
    · have dr : (r.mul l.A).det = 1 := by rw [A2.det_mul, ok.det h, l.det]; rfl
      rw [e0, (tnE e).rA_mul dr (ltA_det ls), e1, ← (tnE e).rA_mul (ok.det hp) (ltA_det ls)]
      exact e2
/-- what is one modulo N is turned to one -/
theorem RpOk.fin (ok : RpOk e rs) (ls : List Lt) (h : Cgs ((e + 2 : Nat) : Int) (ltA ls) A2.one) : (tnE e).rA (ltA ls) = (tnE e).one := by
  obtain ⟨q, hq, c, g⟩ := ok.run ls ok.on
  rw [A2.one_mul] at c g
  have sy : Cgs ((e + 2 : Nat) : Int) q (ltA ls) := by
    rcases c with c | c
    · exact .inl c.symm
    · have := c.ng.symm
      rw [A2.ng_ng] at this
      exact .inr this
  have k := sy.trans h
  have := List.all_eq_true.mp ok.dt q hq
  simp only [Bool.and_eq_true, decide_eq_true_eq, Bool.or_eq_true, Bool.not_eq_true', Bool.or_eq_false_iff] at this
  have hq1 : q = A2.one := by
    rcases this.2 with z | z
    · exfalso
      rcases k with k | k
      · rw [(isO1_iff (by omega) q).mpr k] at z; exact absurd z.1 (by decide)
      · have k2 := k.ng
        rw [A2.ng_ng] at k2
        rw [(isO1_iff (by omega) q.ng).mpr k2] at z; exact absurd z.2 (by decide)
    · exact oneB_of z
  rw [g, hq1, (tnE e).rA_one]
end
end DE
set_option linter.all false
set_option maxRecDepth 100000
set_option maxHeartbeats 4000000
set_option exponentiation.threshold 4000
namespace DE
open PySem PySem.Spec PyProof.Rows L2



theorem dt2 : dts ((0 + 2 : Nat) : Int) rp2 = true := by decide +kernel
theorem dt3 : dts ((1 + 2 : Nat) : Int) rp3 = true := by decide +kernel
theorem dt4 : dts ((2 + 2 : Nat) : Int) rp4 = true := by decide +kernel
theorem dt5 : dts ((3 + 2 : Nat) : Int) rp5 = true := by decide +kernel
end DE
set_option linter.all false
set_option maxRecDepth 100000
set_option maxHeartbeats 4000000
set_option exponentiation.threshold 4000
namespace DE
open PySem PySem.Spec PyProof.Rows L2
theorem ed2 : edg ((0 + 2 : Nat) : Int) rp2 = true := by decide +kernel
theorem ed3 : edg ((1 + 2 : Nat) : Int) rp3 = true := by decide +kernel
theorem ed4 : edg ((2 + 2 : Nat) : Int) rp4 = true := by decide +kernel
end DE
set_option linter.all false
set_option maxRecDepth 100000
set_option maxHeartbeats 4000000
set_option exponentiation.threshold 4000
namespace DE
open PySem PySem.Spec PyProof.Rows L2
theorem ed5 : edg ((3 + 2 : Nat) : Int) rp5 = true := by decide +kernel
end DE
set_option linter.all false
set_option maxRecDepth 100000
set_option maxHeartbeats 4000000
set_option exponentiation.threshold 4000
namespace DE
open PySem PySem.Spec PyProof.Rows L2
/-! ### the shortest words that the law finds -/
def qK (x : A2) : NestedKey := .tup [.tup [.num x.a, .num x.b], .tup [.num x.c, .num x.d]]
def qOf : NestedKey → Option A2
  | .tup [.tup [.num a, .num b], .tup [.num c, .num d]] => some ⟨a, b, c, d⟩
  | _ => none
theorem qOf_eq {k : NestedKey} {q : A2} (h : qOf k = some q) : k = qK q := by
  unfold qOf at h
  split at h
  · cases h; rfl
  · cases h
def letC (c : Nat) : Option Lt := if c = 115 then some .s else if c = 116 then some .t else none
def letL : List Nat → Option (List Lt)
  | [] => some []
  | c :: cs => match letC c, letL cs with
    | some l, some ls => some (l :: ls)
    | _, _ => none
theorem letL_eq : ∀ {cs : List Nat} {ls : List Lt}, letL cs = some ls → (cs.map fun c => D.str ⟨#[c]⟩) = ls.map Lt.D
  | [], ls, h => by cases h; rfl
  | c :: cs, ls, h => by
    unfold letL at h
    cases h1 : letC c with
    | none => rw [h1] at h; cases h
    | some l =>
      cases h2 : letL cs with
      | none => rw [h1, h2] at h; cases h
      | some ks =>
        rw [h1, h2] at h
        cases h
        rw [List.map_cons, List.map_cons, letL_eq h2]
        congr 1
        unfold letC at h1
        split at h1
        · rename_i e; cases h1; subst e; rfl
        · split at h1
          · rename_i e; cases h1; subst e; rfl
          · cases h1
/-- an entry: a text of letters that leads to the key -/
def entB (N : Int) (k : NestedKey) : D → Bool
  | .str x => match letL x.cps.toList with
    | some ls => decide (ls.length ≤ 60) && decide (qK ((ltA ls).red N) = k)
    | none => false
  | _ => false
def entsB (N : Int) : List NestedKey → List D → Bool
  | [], [] => true
  | k :: ks, d :: ds => entB N k d && entsB N ks ds
  | _, _ => false
def memK (k : NestedKey) (ks : List NestedKey) : Bool := ks.any fun j => decide (j = k)
def closB (N : Int) (ks : List NestedKey) : Bool := ks.all fun k => match qOf k with
  | some q => [Lt.s, Lt.t, Lt.u].all fun l => memK (qK ((q.mul l.A).red N)) ks
  | none => false
def knB (N : Int) (n : Nat) (x : M D) : Bool := match x with
  | some (.ok (.dT ks ds)) => ks.length == n && memK (qK (A2.one.red N)) ks && closB N ks && entsB N ks ds
  | _ => false
structure Kn (N : Int) (n : Nat) (ks : List NestedKey) (ds : List D) : Prop where
  run : fd_law_reached [.int N] = some (.ok (.dT ks ds))
  len : ks.length = n
  one : qK (A2.one.red N) ∈ ks
  clos : ∀ q l, qK q ∈ ks → qK ((q.mul (Lt.A l)).red N) ∈ ks
  ent : ∀ k ∈ ks, ∃ x ls, getN ks ds k = some (.str x) ∧ x.length ≤ 60 ∧ letL x.cps.toList = some ls ∧ ls.length ≤ 60 ∧ qK ((ltA ls).red N) = k
theorem memK_of {k : NestedKey} {ks : List NestedKey} (h : memK k ks = true) : k ∈ ks := by
  obtain ⟨j, hj, e⟩ := List.any_eq_true.mp h
  rw [← of_decide_eq_true e]; exact hj
theorem letL_len : ∀ {cs : List Nat} {ls : List Lt}, letL cs = some ls → cs.length = ls.length
  | [], ls, h => by cases h; rfl
  | c :: cs, ls, h => by
    unfold letL at h
    cases h1 : letC c with
    | none => rw [h1] at h; cases h
    | some l =>
      cases h2 : letL cs with
      | none => rw [h1, h2] at h; cases h
      | some ks =>
        rw [h1, h2] at h
        cases h
        rw [List.length_cons, List.length_cons, letL_len h2]
theorem ents_get {N : Int} : ∀ {ks : List NestedKey} {ds : List D}, entsB N ks ds = true → ∀ k ∈ ks, ∃ x ls, getN ks ds k = some (.str x) ∧ x.length ≤ 60 ∧ letL x.cps.toList = some ls ∧ ls.length ≤ 60 ∧ qK ((ltA ls).red N) = k
  | [], _, _, k, h => by cases h
  | _ :: _, [], h, _, _ => by cases h
  | j :: ks, d :: ds, h, k, hk => by
    unfold entsB at h
    rw [Bool.and_eq_true] at h
    by_cases e : j = k
    · subst e
      have h1 := h.1
      cases d <;> try (exact absurd h1 Bool.false_ne_true)
      rename_i x
      unfold entB at h1
      dsimp only at h1
      split at h1
      · rename_i ls q
        rw [Bool.and_eq_true, decide_eq_true_eq, decide_eq_true_eq] at h1
        refine ⟨x, ls, by unfold getN; rw [if_pos rfl], ?_, q, h1.1, h1.2⟩
        have := letL_len q
        rw [Array.length_toList] at this
        show x.cps.size ≤ 60
        omega
      · exact absurd h1 Bool.false_ne_true
    · obtain ⟨x, ls, g, r⟩ := ents_get h.2 k ((List.mem_cons.mp hk).resolve_left fun z => e z.symm)
      exact ⟨x, ls, by unfold getN; rw [if_neg e]; exact g, r⟩
theorem knB_of {N : Int} {n : Nat} (h : knB N n (fd_law_reached [.int N]) = true) : ∃ ks ds, Kn N n ks ds := by
  unfold knB at h
  split at h
  · rename_i ks ds e
    simp only [Bool.and_eq_true, beq_iff_eq] at h
    obtain ⟨⟨⟨h1, h2⟩, h3⟩, h4⟩ := h
    refine ⟨ks, ds, e, h1, memK_of h2, fun q l hq => ?_, ents_get h4⟩
    have := List.all_eq_true.mp h3 _ hq
    have this := List.all_eq_true.mp (show [Lt.s, Lt.t, Lt.u].all (fun l => memK (qK ((q.mul l.A).red N)) ks) = true from this) l (by cases l <;> simp)
    exact memK_of this
  · exact absurd h Bool.false_ne_true
/-- every word's remainders are known -/
theorem Kn.word {N : Int} {n : Nat} {ks : List NestedKey} {ds : List D} (kn : Kn N n ks ds) : ∀ (ls : List Lt) (q : A2), qK (q.red N) ∈ ks → qK ((q.mul (ltA ls)).red N) ∈ ks
  | [], q, h => by show qK ((q.mul A2.one).red N) ∈ ks; rw [A2.mul_one]; exact h
  | l :: ls, q, h => by
    have e0 : q.mul (ltA (l :: ls)) = (q.mul l.A).mul (ltA ls) := (A2.mul_assoc _ _ _).symm
    rw [e0]
    refine kn.word ls _ ?_
    have := kn.clos (q.red N) l h
    have c : A2.Cg N ((q.red N).mul l.A) (q.mul l.A) := (show A2.Cg N (q.red N) q from ⟨DE.Cg.fm _ _, DE.Cg.fm _ _, DE.Cg.fm _ _, DE.Cg.fm _ _⟩).mul (A2.Cg.refl _ _)
    rw [c.red] at this
    exact this
theorem Kn.at {N : Int} {n : Nat} {ks : List NestedKey} {ds : List D} (kn : Kn N n ks ds) (ls : List Lt) : ∃ x ms, getN ks ds (qK ((ltA ls).red N)) = some (.str x) ∧ x.length ≤ 60 ∧ bltD .list [.str x] = some (.lst (ms.map Lt.D)) ∧ ms.length ≤ 60 ∧ A2.Cg N (ltA ls) (ltA ms) := by
  have h := kn.word ls A2.one kn.one
  rw [A2.one_mul] at h
  obtain ⟨x, ms, g, hx, hl, hm, hk⟩ := kn.ent _ h
  refine ⟨x, ms, g, hx, ?_, hm, A2.Cg.of_red ?_⟩
  · show (if x.length ≤ sizeLine then some (D.lst (sgD x)) else none) = _
    rw [if_pos (by rw [szl]; omega)]
    unfold sgD
    rw [letL_eq hl]
  · simp only [qK, NestedKey.tup.injEq, List.cons.injEq, NestedKey.num.injEq, and_true] at hk
    obtain ⟨⟨h1, h2⟩, h3, h4⟩ := hk
    exact A2.ext' h1.symm h2.symm h3.symm h4.symm
end DE
set_option linter.all false
set_option maxRecDepth 100000
set_option maxHeartbeats 4000000
set_option exponentiation.threshold 4000
namespace DE
open PySem PySem.Spec PyProof.Rows L2
theorem kn2 : knB 2 6 (fd_law_reached [.int 2]) = true := by decide +kernel
theorem kn3 : knB 3 24 (fd_law_reached [.int 3]) = true := by decide +kernel
theorem kn4 : knB 4 48 (fd_law_reached [.int 4]) = true := by decide +kernel
theorem kn5 : knB 5 120 (fd_law_reached [.int 5]) = true := by decide +kernel
end DE
set_option linter.all false
set_option maxRecDepth 100000
set_option maxHeartbeats 4000000
set_option exponentiation.threshold 4000
namespace DE
open PySem PySem.Spec PyProof.Rows L2
theorem alle (e : Nat) (h : e < 4) : ∃ rs n ks ds, RpOk e rs ∧ Kn ((e + 2 : Nat) : Int) n ks ds ∧ atI [D.int 6, .int 24, .int 48, .int 120] (e : Int) = some (.int (n : Int)) := by
  have : e = 0 ∨ e = 1 ∨ e = 2 ∨ e = 3 := by omega
  rcases this with rfl | rfl | rfl | rfl
  · obtain ⟨ks, ds, k⟩ := knB_of kn2
    exact ⟨rp2, 6, ks, ds, ⟨by decide, ed2, dt2, List.mem_cons_self⟩, k, rfl⟩
  · obtain ⟨ks, ds, k⟩ := knB_of kn3
    exact ⟨rp3, 24, ks, ds, ⟨by decide, ed3, dt3, List.mem_cons_self⟩, k, rfl⟩
  · obtain ⟨ks, ds, k⟩ := knB_of kn4
    exact ⟨rp4, 48, ks, ds, ⟨by decide, ed4, dt4, List.mem_cons_self⟩, k, rfl⟩
  · obtain ⟨ks, ds, k⟩ := knB_of kn5
    exact ⟨rp5, 120, ks, ds, ⟨by decide, ed5, dt5, List.mem_cons_self⟩, k, rfl⟩
/-! ### a word times the inverse of another one is a word -/
theorem adj_mul2 (x y : A2) : (x.mul y).adj = y.adj.mul x.adj := by apply A2.ext' <;> simp only [A2.adj, A2.mul] <;> grind
theorem lt_adj : ∀ ms : List Lt, ∃ ks : List Lt, ltA ks = (ltA ms).adj
  | [] => ⟨[], rfl⟩
  | l :: ms => by
    obtain ⟨ks, h⟩ := lt_adj ms
    have hl : ∃ js : List Lt, ltA js = l.A.adj := by
      cases l with
      | s => exact ⟨[.s, .s, .s], rfl⟩
      | t => exact ⟨[.u], rfl⟩
      | u => exact ⟨[.t], rfl⟩
    obtain ⟨js, g⟩ := hl
    exact ⟨ks ++ js, by rw [ltA_app, h, g]; show _ = (l.A.mul (ltA ms)).adj; rw [adj_mul2]⟩
section
variable {e : Nat} {rs : List A2}
theorem md_word (ok : RpOk e rs) (ls : List Lt) : mdB e (ltA ls) = isO1 ((e + 2 : Nat) : Int) (ltA ls) := by
  rw [Bool.eq_iff_iff, isO1_iff (by omega), mdB_iff]
  exact ⟨fun h => h.1, fun h => ⟨h, ok.fin ls (.inl h)⟩⟩
theorem md_opp (ok : RpOk e rs) (he : e < 4) {ls : List Lt} (h : A2.Cg ((e + 2 : Nat) : Int) (ltA ls) A2.one) : mdB e (ltA ls).ng = decide (e = 0) := by
  rw [Bool.eq_iff_iff, mdB_iff, decide_eq_true_eq]
  constructor
  · rintro ⟨k, _⟩
    obtain ⟨q, hq⟩ := h.a
    obtain ⟨r, hr⟩ := k.a
    have hq : (ltA ls).a = 1 + ((e + 2 : Nat) : Int) * q := hq
    have hr : -(ltA ls).a = 1 + ((e + 2 : Nat) : Int) * r := hr
    have : e = 0 ∨ e = 1 ∨ e = 2 ∨ e = 3 := by omega
    rcases this with rfl | rfl | rfl | rfl <;> omega
  · intro z
    subst z
    refine ⟨?_, ?_⟩
    · obtain ⟨q1, h1⟩ := h.a
      obtain ⟨q2, h2⟩ := h.b
      obtain ⟨q3, h3⟩ := h.c
      obtain ⟨q4, h4⟩ := h.d
      have h1 : (ltA ls).a = 1 + ((0 + 2 : Nat) : Int) * q1 := h1
      have h2 : (ltA ls).b = 0 + ((0 + 2 : Nat) : Int) * q2 := h2
      have h3 : (ltA ls).c = 0 + ((0 + 2 : Nat) : Int) * q3 := h3
      have h4 : (ltA ls).d = 1 + ((0 + 2 : Nat) : Int) * q4 := h4
      exact ⟨⟨-1 - q1, by show -(ltA ls).a = 1 + _; omega⟩, ⟨-q2, by show -(ltA ls).b = 0 + _; omega⟩, ⟨-q3, by show -(ltA ls).c = 0 + _; omega⟩, ⟨-1 - q4, by show -(ltA ls).d = 1 + _; omega⟩⟩
    · rw [← ok.fin ls (.inl h)]
      exact (tnE 0).rA_neg _
end
/-! ### the law's lift -/
abbrev wD' (ls : List Lt) : DE.D := .lst (ls.map Lt.D)
theorem modn {i j : Int} (h : j ≠ 0) : binD .Mod (.int i) (.int j) = some (.int (i.fmod j)) := by
  unfold binD; dsimp only; rw [if_pos h]
theorem key_q (x : A2) : keyN (.tup [.tup [.int x.a, .int x.b], .tup [.int x.c, .int x.d]]) = some (qK x) := by
  simp [keyN, nkD, nkDs, kOk, nOk, nOks, NestedKey.depth, NestedKey.depthAll, qK]
def nmT : T := .tup [(.tup [(.bin .Mod (.blt .int [(.idx (.idx (.var 3) (.cst (.int (0)))) (.cst (.int (0))))]) (.var 0)), (.bin .Mod (.blt .int [(.idx (.idx (.var 3) (.cst (.int (0)))) (.cst (.int (1))))]) (.var 0))]), (.tup [(.bin .Mod (.blt .int [(.idx (.idx (.var 3) (.cst (.int (1)))) (.cst (.int (0))))]) (.var 0)), (.bin .Mod (.blt .int [(.idx (.idx (.var 3) (.cst (.int (1)))) (.cst (.int (1))))]) (.var 0))])]
theorem lift_eq : bd_law_lift = [.asg 3 false (.call 0 [(.var 2)]), .asg 4 false nmT, .ret (.call 1 [(.var 3), (.call 2 [(.call 0 [(.blt .list [(.idx (.var 1) (.var 4))])])])])] := rfl
theorem f_lift {N : Int} {n : Nat} {ks : List NestedKey} {ds : List D} (hN : N ≠ 0) (kn : Kn N n ks ds) (ls : List Lt) (hl : ls.length ≤ 31) : ∃ W : List Lt, fd_law_lift [.int N, .dT ks ds, wD' ls] = some (.ok (ltA W).D) ∧ (ltA W).Sz (2 ^ 100) ∧ A2.Cg N (ltA W) A2.one := by
  obtain ⟨x, ms, g, hx, hb, hm, hc⟩ := kn.at ls
  obtain ⟨js, hj⟩ := lt_adj ms
  obtain ⟨q1, q2⟩ := f_ltable ls (by omega)
  obtain ⟨p1, p2⟩ := f_ltable ms (by omega)
  have s1 : (ltA ls).Sz (2 ^ 31) := q2.mono (Nat.pow_le_pow_right (by decide) hl)
  have s2 : (ltA ms).Sz (2 ^ 60) := p2.mono (Nat.pow_le_pow_right (by decide) hm)
  refine ⟨ls ++ js, ?_, ?_, ?_⟩
  · have e0 : fd_law_lift [.int N, .dT ks ds, wD' ls] = resO (evB gd_law_lift 5000 bd_law_lift [some (0, .int N), some (0, .dT ks ds), some (0, wD' ls), none, none]) := def_run (Γ := gd_law_lift) (fu := 5000) (np := 3) (body := bd_law_lift) (ds := [.int N, .dT ks ds, wD' ls]) rfl
    rw [e0, lift_eq]
    rw [evB_nx (es_asg (el_call (nm := "_law_table") (np := 1) (f := fd_law_table) rfl (els_cons (el_var (x := wD' ls) rfl) els_nil) q1) rfl)]
    simp only [List.set]
    have one : ∀ {i j : Int} {v : Int} {r : D} {ρ : Env}, ρ[3]? = some (some (ltA ls).D) → ρ[0]? = some (some (.int N)) → idxA (ltA ls).D (.int i) = some r → idxA r (.int j) = some (.int v) → ev gd_law_lift (.bin .Mod (.blt .int [(.idx (.idx (.var 3) (.cst (.int i))) (.cst (.int j)))]) (.var 0)) ρ = some (.ok (.int (v.fmod N))) := fun h3 h0 h1 h2 => el_bin (el_blt (els_cons (el_idx (el_idx (el_var h3) el_cst h1) el_cst h2) els_nil) rfl) (el_var h0) (modn hN)
    have nv : ∀ {ρ : Env}, ρ[3]? = some (some (ltA ls).D) → ρ[0]? = some (some (.int N)) → ev gd_law_lift nmT ρ = some (.ok (.tup [.tup [.int ((ltA ls).red N).a, .int ((ltA ls).red N).b], .tup [.int ((ltA ls).red N).c, .int ((ltA ls).red N).d]])) := fun h3 h0 =>
      el_tup (els_cons (el_tup (els_cons (one h3 h0 rfl rfl) (els_cons (one h3 h0 rfl rfl) els_nil)) (show 2 ≤ sizeLine by decide)) (els_cons (el_tup (els_cons (one h3 h0 rfl rfl) (els_cons (one h3 h0 rfl rfl) els_nil)) (show 2 ≤ sizeLine by decide)) els_nil)) (show 2 ≤ sizeLine by decide)
    have t2 : evS gd_law_lift 5000 (.asg 4 false nmT) [some (0, D.int N), some (0, D.dT ks ds), some (0, wD' ls), some (0, (ltA ls).D), none] = some (.nx [some (0, D.int N), some (0, D.dT ks ds), some (0, wD' ls), some (0, (ltA ls).D), some (0, .tup [.tup [.int ((ltA ls).red N).a, .int ((ltA ls).red N).b], .tup [.int ((ltA ls).red N).c, .int ((ltA ls).red N).d]])]) := es_asg (nv rfl rfl) rfl
    rw [evB_nx t2]
    have gi : idxA (.dT ks ds) (.tup [.tup [.int ((ltA ls).red N).a, .int ((ltA ls).red N).b], .tup [.int ((ltA ls).red N).c, .int ((ltA ls).red N).d]]) = some (.str x) := by
      unfold idxA
      dsimp only
      rw [key_q]
      exact g
    rw [eb_ret (el_call (nm := "_law_mul") (np := 2) (f := fd_law_mul) rfl (els_cons (el_var (x := (ltA ls).D) rfl) (els_cons (el_call (nm := "_law_back") (np := 1) (f := fd_law_back) rfl (els_cons (el_call (nm := "_law_table") (np := 1) (f := fd_law_table) rfl (els_cons (el_blt (els_cons (el_idx (el_var rfl) (el_var rfl) gi) els_nil) hb) els_nil) p1) els_nil) (f_lback _)) els_nil)) (f_lmul s1 (by decide) s2.adj (by decide)))]
    rw [ltA_app, hj]
    rfl
  · rw [ltA_app, hj]
    exact (s1.mul s2.adj).mono (by decide)
  · rw [ltA_app, hj]
    have := hc.mul (A2.Cg.refl N (ltA ms).adj)
    rw [A2.mul_adj (ltA_det ms)] at this
    exact this
end DE
set_option linter.all false
set_option maxRecDepth 100000
set_option maxHeartbeats 4000000
set_option exponentiation.threshold 4000
namespace DE
open PySem PySem.Spec PyProof.Rows L2
abbrev S10 (a b c d e f g h i j : Sl) : List Sl := [a, b, c, d, e, f, g, h, i, j]
def wT : T := .call 2 [(.slc (.var 1) (some (.bin .Add (.cst (.int (1))) (.bin .Mult (.cst (.int (12))) (.var 4)))) none), (.bin .Mod (.blt .int [(.idx (.var 1) (.bin .Add (.cst (.int (1))) (.bin .Mult (.cst (.int (12))) (.var 4))))]) (.cst (.int (31))))]
def negT : T := .blt .tuple [(.lc (.nm 8) .seq [(.var 6)] [] (.blt .tuple [(.lc (.nm 9) .seq [(.var 8)] [] (.neg (.var 9)) [("item", 9)])]) [("row", 8)])]
def c1T : T := .or (.nt (.call 4 [(.var 2), (.var 6)])) (.cmp .IsNot (.call 5 [(.var 2), (.var 6)]) (.cst (.bl true)))
def c2T : T := .cmp .NotEq (.call 5 [(.var 2), (.var 7)]) (.cmp .Eq (.var 2) (.cst (.int (2))))
def c3T : T := .cmp .NotEq (.call 5 [(.var 2), (.call 6 [(.var 5)])]) (.call 4 [(.var 2), (.call 6 [(.var 5)])])
def rF : List S := [.ret (.cst (.bl false))]
def lB : List S := [.asg 5 false wT, .asg 6 false (.call 3 [(.var 2), (.var 3), (.var 5)]), .ite c1T rF [], .asg 7 false negT, .ite c2T rF [], .ite c3T rF []]
def lenC : T := .cmp .NotEq (.blt .len [(.var 3)]) (.idx (.lst [(.cst (.int (6))), (.cst (.int (24))), (.cst (.int (48))), (.cst (.int (120)))]) (.bin .Sub (.var 2) (.cst (.int (2)))))
def NT : T := .bin .Add (.cst (.int (2))) (.bin .Mod (.blt .int [(.idx (.var 1) (.cst (.int (0))))]) (.cst (.int (4))))
theorem law_eq : bd_law = [.asg 1 false (.call 0 [(.var 0), (.cst (.int (60)))]), .asg 2 false NT, .asg 3 false (.call 1 [(.var 2)]), .ite lenC rF [], .for (.nm 4) .rng1 false [(.cst (.int (3)))] lB, .ret (.cst (.bl true))] := rfl
theorem turns2 {f : D → Option (Option D)} {a b x y : D} (h1 : f a = some (some x)) (h2 : f b = some (some y)) : turns f [a, b] = some [x, y] := by simp only [turns, h1, h2]
theorem neg_ev {ρ : Env} {x : A2} (h6 : ρ[6]? = some (some x.D)) (hl : ρ.length = 10) : ev gd_law negT ρ = some (.ok x.ng.D) := by
  unfold negT
  have row : ∀ (σ : Env) (p q : Int), σ.length = 10 → σ[8]? = some (some (.tup [.int p, .int q])) → ev gd_law (.blt .tuple [(.lc (.nm 9) .seq [(.var 8)] [] (.neg (.var 9)) [("item", 9)])]) σ = some (.ok (.tup [.int (-p), .int (-q)])) := fun σ p q hs h => by
    have i0 : (bnd (evs gd_law [(.var 8)] σ) fun ds => lft (itD .seq ds)) = some (.ok [.int p, .int q]) := by rw [els_cons (el_var h) els_nil, bnd_ok]; rfl
    have one : ∀ v : Int, turnF (.nm 9) [("item", 9)] (evi gd_law []) (ev gd_law (.neg (.var 9))) σ (.int v) = some (some (.int (-v))) := fun v => turnF_nm (el_neg (el_var (x := .int v) (by
      simp [setE, wipeE, hs])) rfl)
    exact el_blt (els_cons (lcq i0 (show 2 ≤ sizeLine by decide) (turns2 (one p) (one q))) els_nil) rfl
  have i0 : (bnd (evs gd_law [(.var 6)] ρ) fun ds => lft (itD .seq ds)) = some (.ok [.tup [.int x.a, .int x.b], .tup [.int x.c, .int x.d]]) := by rw [els_cons (el_var h6) els_nil, bnd_ok]; rfl
  have one : ∀ p q : Int, turnF (.nm 8) [("row", 8)] (evi gd_law []) (ev gd_law (.blt .tuple [(.lc (.nm 9) .seq [(.var 8)] [] (.neg (.var 9)) [("item", 9)])])) ρ (.tup [.int p, .int q]) = some (some (.tup [.int (-p), .int (-q)])) := fun p q => turnF_nm (row _ p q (by simp [setE, wipeE, hl]) (by simp [setE, wipeE, hl]))
  exact el_blt (els_cons (lcq i0 (show 2 ≤ sizeLine by decide) (turns2 (one _ _) (one _ _))) els_nil) rfl
theorem inA_eqi (i j : Int) : inA .Eq (.int i) (.int j) = some (.bl (i == j)) := by simp [inA, cmpD, shp_int, eqD_int]
theorem inA_nei (i j : Int) : inA .NotEq (.int i) (.int j) = some (.bl (!(i == j))) := by simp [inA, cmpD, shp_int, eqD_int]
theorem beq_self' (b : Bool) : (!(b == b)) = false := by cases b <;> rfl
theorem es_no {c : T} {ρ : List Sl} (h : ev gd_law c (bor ρ) = some (.ok (.bl false))) : evS gd_law 5000 (.ite c rF []) ρ = some (.nx ρ) := es_ite (k := false) (el_tru h rfl) rfl
section
variable {e : Nat} {rs : List A2} {n : Nat} {ks : List NestedKey} {ds : List D}
abbrev St (sc : List Int) (dr : List Int) (e : Nat) (ks : List NestedKey) (ds : List D) (y4 y5 y6 y7 : Sl) : List Sl := S10 (some (0, .scr sc)) (some (0, dl dr)) (some (0, .int ((e + 2 : Nat) : Int))) (some (0, .dT ks ds)) y4 y5 y6 y7 none none
theorem turn {sc dr : List Int} (ok : RpOk e rs) (kn : Kn ((e + 2 : Nat) : Int) n ks ds) (he : e < 4) (hl : dr.length = 60) (hd : Dr dr) {k : Nat} (hk : k < 3) (y4 y5 y6 y7 : Sl) : ∃ y5' y6' y7', forF (.nm 4) (evB gd_law 5000 lB) (.int (k : Int)) (St sc dr e ks ds y4 y5 y6 y7) = some (.nx (St sc dr e ks ds (some (0, .int (k : Int))) y5' y6' y7')) := by
  obtain ⟨v, g, p⟩ := dr_at hd (i := 1 + 12 * k) (by omega)
  obtain ⟨ls, q1, q2⟩ := f_lword (ds := dr.drop (1 + 12 * k)) (hd.drop _) (by intro z; have := congrArg List.length z; rw [List.length_drop, hl] at this; simp at this; omega) (by rw [List.length_drop]; omega) (many := (v % 31).toNat) (by omega)
  rw [Int.toNat_of_nonneg (by omega)] at q2
  obtain ⟨W, w1, w2, w3⟩ := f_lift (N := ((e + 2 : Nat) : Int)) (by omega) kn ls (by omega)
  obtain ⟨t1, t2⟩ := f_ltable ls (by omega)
  have t3 : (ltA ls).Sz (2 ^ 100) := t2.mono (Nat.pow_le_pow_right (by decide) (by omega))
  refine ⟨some (0, wD' ls), some (0, (ltA W).D), some (0, (ltA W).ng.D), ?_⟩
  show evB gd_law 5000 lB (St sc dr e ks ds (some (0, .int (k : Int))) y5 y6 y7) = _
  have ix : ∀ {ρ : Env}, ρ[4]? = some (some (.int (k : Int))) → ev gd_law (.bin .Add (.cst (.int (1))) (.bin .Mult (.cst (.int (12))) (.var 4))) ρ = some (.ok (.int ((1 + 12 * k : Nat) : Int))) := fun h => el_bin el_cst (el_bin (z := .int (12 * (k : Int))) el_cst (el_var h) (by unfold binD; dsimp only; rw [if_pos (.inl (by decide))])) (congrArg (fun z : Int => some (D.int z)) (show (1 : Int) + 12 * (k : Int) = ((1 + 12 * k : Nat) : Int) by omega))
  have wv : ∀ {ρ : Env}, ρ[4]? = some (some (.int (k : Int))) → ρ[1]? = some (some (dl dr)) → ev gd_law wT ρ = some (.ok (wD' ls)) := fun h4 h1 =>
    el_call (nm := "_law_word") (np := 2) (f := fd_law_word) rfl (els_cons (el_slc (el_var h1) (ix h4) (slc_dl dr (i := 1 + 12 * k) (by omega))) (els_cons (el_bin (el_blt (els_cons (el_idx (el_var h1) (ix h4) (ix_dl g)) els_nil) rfl) el_cst (modv (by decide))) els_nil)) q2
  unfold lB
  rw [evB_nx (es_asg (wv rfl rfl) rfl)]
  simp only [List.set]
  rw [evB_nx (es_asg (el_call (nm := "_law_lift") (np := 3) (f := fd_law_lift) rfl (els_cons (el_var rfl) (els_cons (el_var rfl) (els_cons (el_var (x := wD' ls) rfl) els_nil))) w1) rfl)]
  simp only [List.set]
  have m1 : mdB e (ltA W) = true := by rw [md_word ok W]; exact (isO1_iff (by omega) _).mpr w3
  have o1 : isO1 ((e + 2 : Nat) : Int) (ltA W) = true := (isO1_iff (by omega) _).mpr w3
  have r1 := f_is_one (N := ((e + 2 : Nat) : Int)) (by omega) (ltA W)
  rw [o1] at r1
  have r2 := g_is_made ok.he (ltA_det W) w2 (by decide) (by decide)
  rw [m1] at r2
  have b1 : ∀ {ρ : Env}, ρ[2]? = some (some (.int ((e + 2 : Nat) : Int))) → ρ[6]? = some (some (ltA W).D) → ev gd_law c1T ρ = some (.ok (.bl false)) := fun h2 h6 =>
    el_or (k := false) (x := .bl false) (el_nt (b := true) (el_tru (el_call (nm := "_law_is_one") (np := 2) (f := fd_law_is_one) rfl (els_cons (el_var h2) (els_cons (el_var h6) els_nil)) r1) rfl)) rfl (by
      rw [if_neg Bool.false_ne_true]
      exact el_cmp (el_call (nm := "is_made") (np := 2) (f := fd_is_made) rfl (els_cons (el_var h2) (els_cons (el_var h6) els_nil)) r2) el_cst rfl)
  rw [evB_nx (es_no (b1 rfl rfl))]
  rw [evB_nx (es_asg (neg_ev (x := ltA W) rfl rfl) rfl)]
  simp only [List.set]
  have r3 := g_is_made ok.he (A2.ng_det (ltA_det W)) w2.ng (by decide) (by decide)
  rw [md_opp ok he w3] at r3
  have b2 : ∀ {ρ : Env}, ρ[2]? = some (some (.int ((e + 2 : Nat) : Int))) → ρ[7]? = some (some (ltA W).ng.D) → ev gd_law c2T ρ = some (.ok (.bl false)) := fun h2 h7 => by
    refine el_cmp (el_call (nm := "is_made") (np := 2) (f := fd_is_made) rfl (els_cons (el_var h2) (els_cons (el_var h7) els_nil)) r3) (el_cmp (el_var h2) el_cst (inA_eqi _ _)) ?_
    rw [inA_neb]
    congr 2
    have : e = 0 ∨ e = 1 ∨ e = 2 ∨ e = 3 := by omega
    rcases this with rfl | rfl | rfl | rfl <;> rfl
  rw [evB_nx (es_no (b2 rfl rfl))]
  have r4 := g_is_made ok.he (ltA_det ls) t3 (by decide) (by decide)
  rw [md_word ok ls] at r4
  have r5 := f_is_one (N := ((e + 2 : Nat) : Int)) (by omega) (ltA ls)
  have b3 : ∀ {ρ : Env}, ρ[2]? = some (some (.int ((e + 2 : Nat) : Int))) → ρ[5]? = some (some (wD' ls)) → ev gd_law c3T ρ = some (.ok (.bl false)) := fun {ρ} h2 h5 => by
    have tb : ev gd_law (.call 6 [(.var 5)]) ρ = some (.ok (ltA ls).D) := el_call (nm := "_law_table") (np := 1) (f := fd_law_table) rfl (els_cons (el_var h5) els_nil) t1
    refine el_cmp (el_call (nm := "is_made") (np := 2) (f := fd_is_made) rfl (els_cons (el_var h2) (els_cons tb els_nil)) r4) (el_call (nm := "_law_is_one") (np := 2) (f := fd_law_is_one) rfl (els_cons (el_var h2) (els_cons tb els_nil)) r5) ?_
    rw [inA_neb, beq_self']
  rw [evB_nx (es_no (b3 rfl rfl))]
  rfl
end
theorem law_all (ns : List Int) : fd_law [.scr ns] = some (.ok (.bl true)) := by
  obtain ⟨dr, hl, hd, q1⟩ := f_draws ns 60 (by decide)
  obtain ⟨v0, g0, p0⟩ := dr_at hd (i := 0) (by omega)
  obtain ⟨e, he, e4⟩ : ∃ e : Nat, v0 % 4 = (e : Int) ∧ e < 4 := ⟨(v0 % 4).toNat, by omega, by omega⟩
  obtain ⟨rs, n, ks, ds, ok, kn, hn⟩ := alle e e4
  have e0 : fd_law [.scr ns] = resO (evB gd_law 5000 bd_law (S10 (some (0, .scr ns)) none none none none none none none none none)) := def_run (Γ := gd_law) (fu := 5000) (np := 1) (body := bd_law) (ds := [.scr ns]) rfl
  rw [e0, law_eq]
  have t1 : evS gd_law 5000 (.asg 1 false (.call 0 [(.var 0), (.cst (.int (60)))])) (S10 (some (0, .scr ns)) none none none none none none none none none) = some (.nx (S10 (some (0, .scr ns)) (some (0, dl dr)) none none none none none none none none)) := es_asg (el_call (nm := "_law_draws") (np := 2) (f := fd_law_draws) rfl (els_cons (el_var rfl) (els_cons el_cst els_nil)) q1) rfl
  rw [evB_nx t1]
  have nv : ∀ {ρ : Env}, ρ[1]? = some (some (dl dr)) → ev gd_law NT ρ = some (.ok (.int ((e + 2 : Nat) : Int))) := fun h1 =>
    el_bin el_cst (el_bin (el_blt (els_cons (el_idx (el_var h1) el_cst (ix_dl (i := 0) g0)) els_nil) rfl) el_cst (modv (by decide))) (by rw [he]; exact congrArg (fun z : Int => some (D.int z)) (show (2 : Int) + (e : Int) = ((e + 2 : Nat) : Int) by omega))
  rw [evB_nx (es_asg (nv rfl) rfl)]
  simp only [List.set]
  rw [evB_nx (es_asg (el_call (nm := "_law_reached") (np := 1) (f := fd_law_reached) rfl (els_cons (el_var rfl) els_nil) kn.run) rfl)]
  simp only [List.set]
  have lc : ∀ {ρ : Env}, ρ[2]? = some (some (.int ((e + 2 : Nat) : Int))) → ρ[3]? = some (some (.dT ks ds)) → ev gd_law lenC ρ = some (.ok (.bl false)) := fun h2 h3 => by
    refine el_cmp (el_blt (els_cons (el_var h3) els_nil) (z := .int (n : Int)) (by rw [← kn.len]; rfl)) (el_idx (y := .int (e : Int)) (el_lst (els_cons el_cst (els_cons el_cst (els_cons el_cst (els_cons el_cst els_nil)))) (show 4 ≤ sizeLine by decide)) (el_bin (el_var h2) el_cst (congrArg (fun z : Int => some (D.int z)) (show ((e + 2 : Nat) : Int) - 2 = (e : Int) by omega))) hn) ?_
    rw [inA_nei, beq_self_eq_true]; rfl
  rw [evB_nx (es_no (lc rfl rfl))]
  obtain ⟨a5, a6, a7, u0⟩ := turn (sc := ns) ok kn e4 hl hd (k := 0) (by decide) none none none none
  obtain ⟨b5, b6, b7, u1⟩ := turn (sc := ns) ok kn e4 hl hd (k := 1) (by decide) (some (0, .int ((0 : Nat) : Int))) a5 a6 a7
  obtain ⟨c5, c6, c7, u2⟩ := turn (sc := ns) ok kn e4 hl hd (k := 2) (by decide) (some (0, .int ((1 : Nat) : Int))) b5 b6 b7
  have it : (bnd (evs gd_law [(.cst (.int (3)))] (envB false (St ns dr e ks ds none none none none))) fun ds => lft (itD .rng1 ds)) = some (.ok [.int ((0 : Nat) : Int), .int ((1 : Nat) : Int), .int ((2 : Nat) : Int)]) := it_rng1 (els_cons el_cst els_nil) (by decide)
  have t5 : evS gd_law 5000 (.for (.nm 4) .rng1 false [(.cst (.int (3)))] lB) (St ns dr e ks ds none none none none) = _ := (forB_eq it).trans (by rw [fo_cons u0, fo_cons u1, fo_cons u2, forO])
  rw [evB_nx t5, eb_ret el_cst]
  rfl
end DE
set_option linter.all false
set_option maxRecDepth 100000
set_option maxHeartbeats 4000000
namespace DE
open PySem PySem.Spec PyProof.Rows L2
theorem law_true (ns : List Int) (h : ns.length ≤ 63) (hb : ∀ z ∈ ns, Builtin.Int.intBits z ≤ 1048576) : fd_law [.scr ns] = some (.ok (.bl true)) := law_all ns
theorem tupK {K : PySem.W.Frag} {H : Hp} {a : Addr} {d : Option Addr} {its : Array Value} {n : Nat} {sl : Array (Option Value)} {xs : List V} (h : K.lookup a = some ⟨.type "tuple", d, .seq its n, sl⟩) (hz : its.size ≤ sizeLine) (r : Vals xs its.toList) : SqT K H a xs := .inr ⟨_, its, n, h, rfl, rfl, hz, r⟩
theorem gc_others {K : PySem.W.Frag} {h : Heap} {mg : Str → Option Value} (X : K.In h) (G : h.Ns mainGlobals mg) {a b0 b1 b2 : Addr} {d d0 d1 d2 : Option Addr} {n n0 n1 n2 : Nat} {sl sl0 sl1 sl2 : Array (Option Value)} {t0 t1 t2 t3 t4 t5 : Tok}
    (h0 : PySem.W.nsIn K mainGlobals "OTHERS" = some (some (.ref a))) (h1 : K.lookup a = some ⟨.type "tuple", d, .seq #[.ref b0, .ref b1, .ref b2] n, sl⟩)
    (h2 : K.lookup b0 = some ⟨.type "tuple", d0, .seq #[.int 1 t0, .int 2 t1] n0, sl0⟩) (h3 : K.lookup b1 = some ⟨.type "tuple", d1, .seq #[.int 2 t2, .int 0 t3] n1, sl1⟩) (h4 : K.lookup b2 = some ⟨.type "tuple", d2, .seq #[.int 0 t4, .int 1 t5] n2, sl2⟩) :
    ∃ u v, mg "OTHERS" = some u ∧ RelV v u ∧ ∀ O H, Rp K O H v c_OTHERS :=
  ⟨.ref a, .ref a, PySem.W.mg_of X G h0, rfl, fun O H => .tup (tupK h1 (show 3 ≤ sizeLine by decide) (.cons (a := V.ref b0) rfl (.cons (a := V.ref b1) rfl (.cons (a := V.ref b2) rfl .nil))))
    (.cons (.tup (tupK h2 (show 2 ≤ sizeLine by decide) (.cons (a := V.int 1) ⟨_, rfl⟩ (.cons (a := V.int 2) ⟨_, rfl⟩ .nil))) (.cons (.int 1) (.cons (.int 2) .nil)))
    (.cons (.tup (tupK h3 (show 2 ≤ sizeLine by decide) (.cons (a := V.int 2) ⟨_, rfl⟩ (.cons (a := V.int 0) ⟨_, rfl⟩ .nil))) (.cons (.int 2) (.cons (.int 0) .nil)))
    (.cons (.tup (tupK h4 (show 2 ≤ sizeLine by decide) (.cons (a := V.int 0) ⟨_, rfl⟩ (.cons (a := V.int 1) ⟨_, rfl⟩ .nil))) (.cons (.int 0) (.cons (.int 1) .nil))) .nil)))⟩
theorem gc_int {K : PySem.W.Frag} {h : Heap} {mg : Str → Option Value} {x : Str} {i : Int} {t : Tok} (X : K.In h) (G : h.Ns mainGlobals mg) (h0 : PySem.W.nsIn K mainGlobals x = some (some (.int i t))) : ∃ u v, mg x = some u ∧ RelV v u ∧ ∀ O H, Rp K O H v (.int i) :=
  ⟨_, .int i, PySem.W.mg_of X G h0, ⟨t, rfl⟩, fun O H => .int i⟩
theorem all_mk {l : PySem.W.OpenLaw} {w : World} {K : PySem.W.Frag} {h : Heap} {mg : Str → Option Value} {fa : Addr} (X : K.In h) (G : h.Ns mainGlobals mg) (hfa : mg "law" = some (.ref fa))
    {f0 f1 f2 f3 f4 f5 f6 f7 f8 f9 f10 f11 f12 f13 f14 f15 f16 f17 f18 f19 f20 f21 f22 f23 f24 f25 f26 f27 f28 f29 f30 f31 f32 f33 f34 f35 f36 f37 f38 f39 f40 f41 f42 C0 C1 U0 : Addr}
    {od0 an0 od1 an1 od2 an2 od3 an3 od4 an4 od5 an5 od6 an6 od7 an7 od8 an8 od9 an9 od10 an10 od11 an11 od12 an12 od13 an13 od14 an14 od15 an15 od16 an16 od17 an17 od18 an18 od19 an19 od20 an20 od21 an21 od22 an22 od23 an23 od24 an24 od25 an25 od26 an26 od27 an27 od28 an28 od29 an29 od30 an30 od31 an31 od32 an32 od33 an33 od34 an34 od35 an35 od36 an36 od37 an37 od38 an38 od39 an39 od40 an40 od41 an41 od42 an42 : Option Addr}
    {sl0 sl1 sl2 sl3 sl4 sl5 sl6 sl7 sl8 sl9 sl10 sl11 sl12 sl13 sl14 sl15 sl16 sl17 sl18 sl19 sl20 sl21 sl22 sl23 sl24 sl25 sl26 sl27 sl28 sl29 sl30 sl31 sl32 sl33 sl34 sl35 sl36 sl37 sl38 sl39 sl40 sl41 sl42 : Array (Option Value)}
    {oc0 kV0 dc0 pm0 cd0 ct0 oc1 kV1 dc1 pm1 cd1 ct1 oc2 kV2 dc2 pm2 cd2 ct2 oc3 kV3 dc3 pm3 cd3 ct3 oc4 kV4 dc4 pm4 cd4 ct4 oc5 kV5 dc5 pm5 cd5 ct5 oc6 kV6 dc6 pm6 cd6 ct6 oc7 kV7 dc7 pm7 cd7 ct7 oc8 kV8 dc8 pm8 cd8 ct8 oc9 kV9 dc9 pm9 cd9 ct9 oc10 kV10 dc10 pm10 cd10 ct10 oc11 kV11 dc11 pm11 cd11 ct11 oc12 kV12 dc12 pm12 cd12 ct12 oc13 kV13 dc13 pm13 cd13 ct13 oc14 kV14 dc14 pm14 cd14 ct14 oc15 kV15 dc15 pm15 cd15 ct15 oc16 kV16 dc16 pm16 cd16 ct16 oc17 kV17 dc17 pm17 cd17 ct17 oc18 kV18 dc18 pm18 cd18 ct18 oc19 kV19 dc19 pm19 cd19 ct19 oc20 kV20 dc20 pm20 cd20 ct20 oc21 kV21 dc21 pm21 cd21 ct21 oc22 kV22 dc22 pm22 cd22 ct22 oc23 kV23 dc23 pm23 cd23 ct23 oc24 kV24 dc24 pm24 cd24 ct24 oc25 kV25 dc25 pm25 cd25 ct25 oc26 kV26 dc26 pm26 cd26 ct26 oc27 kV27 dc27 pm27 cd27 ct27 oc28 kV28 dc28 pm28 cd28 ct28 oc29 kV29 dc29 pm29 cd29 ct29 oc30 kV30 dc30 pm30 cd30 ct30 oc31 kV31 dc31 pm31 cd31 ct31 oc32 kV32 dc32 pm32 cd32 ct32 oc33 kV33 dc33 pm33 cd33 ct33 oc34 kV34 dc34 pm34 cd34 ct34 oc35 kV35 dc35 pm35 cd35 ct35 oc36 kV36 dc36 pm36 cd36 ct36 oc37 kV37 dc37 pm37 cd37 ct37 oc38 kV38 dc38 pm38 cd38 ct38 oc39 kV39 dc39 pm39 cd39 ct39 oc40 kV40 dc40 pm40 cd40 ct40 oc41 kV41 dc41 pm41 cd41 ct41 oc42 kV42 dc42 pm42 cd42 ct42 : Value}
    (ua0 : PySem.W.nsIn K mainGlobals "Clearing" = some (some (.ref U0)))
    (upg0 : PySem.W.plainGet K U0 Str.empty = true)
    (uhd0 : PySem.W.hasDictIn K U0 = true)
    (upo0 : PySem.W.plainOver K U0 = true)
    (usa0 : PySem.W.findIn K (.ref U0) "__setattr__" = some (some (.builtin "object.__setattr__")))
    (umk0 : PySem.W.makesIn K U0 = true)
    (ukc0 : PySem.W.keepIn K (.ref U0) = true)
    (un0_0 : PySem.W.findIn K (.ref U0) "rows" = some none)
    (un0_1 : PySem.W.findIn K (.ref U0) "word" = some none)
    (a0 : PySem.W.nsIn K mainGlobals "is_number" = some (some (.ref f0)))
    (l0 : K.lookup f0 = some ⟨oc0, od0, .func (PySem.W.fnOf "is_number" "is_number" (defArgs sd_is_number) (defBody sd_is_number) (defScope sd_is_number) .none kV0 dc0 pm0 an0 cd0 ct0), sl0⟩)
    (c0 : PySem.W.codeIn K cd0 "is_number" = true)
    (k0 : PySem.W.keepIn K (.ref f0) = true)
    (a1 : PySem.W.nsIn K mainGlobals "is_row" = some (some (.ref f1)))
    (l1 : K.lookup f1 = some ⟨oc1, od1, .func (PySem.W.fnOf "is_row" "is_row" (defArgs sd_is_row) (defBody sd_is_row) (defScope sd_is_row) .none kV1 dc1 pm1 an1 cd1 ct1), sl1⟩)
    (c1 : PySem.W.codeIn K cd1 "is_row" = true)
    (k1 : PySem.W.keepIn K (.ref f1) = true)
    (a2 : PySem.W.nsIn K mainGlobals "has_shape" = some (some (.ref f2)))
    (l2 : K.lookup f2 = some ⟨oc2, od2, .func (PySem.W.fnOf "has_shape" "has_shape" (defArgs sd_has_shape) (defBody sd_has_shape) (defScope sd_has_shape) .none kV2 dc2 pm2 an2 cd2 ct2), sl2⟩)
    (c2 : PySem.W.codeIn K cd2 "has_shape" = true)
    (k2 : PySem.W.keepIn K (.ref f2) = true)
    (a3 : PySem.W.nsIn K mainGlobals "cofactor" = some (some (.ref f3)))
    (l3 : K.lookup f3 = some ⟨oc3, od3, .func (PySem.W.fnOf "cofactor" "cofactor" (defArgs sd_cofactor) (defBody sd_cofactor) (defScope sd_cofactor) .none kV3 dc3 pm3 an3 cd3 ct3), sl3⟩)
    (c3 : PySem.W.codeIn K cd3 "cofactor" = true)
    (k3 : PySem.W.keepIn K (.ref f3) = true)
    (a4 : PySem.W.nsIn K mainGlobals "determinant" = some (some (.ref f4)))
    (l4 : K.lookup f4 = some ⟨oc4, od4, .func (PySem.W.fnOf "determinant" "determinant" (defArgs sd_determinant) (defBody sd_determinant) (defScope sd_determinant) .none kV4 dc4 pm4 an4 cd4 ct4), sl4⟩)
    (c4 : PySem.W.codeIn K cd4 "determinant" = true)
    (k4 : PySem.W.keepIn K (.ref f4) = true)
    (a5 : PySem.W.nsIn K mainGlobals "is_table" = some (some (.ref f5)))
    (l5 : K.lookup f5 = some ⟨oc5, od5, .func (PySem.W.fnOf "is_table" "is_table" (defArgs sd_is_table) (defBody sd_is_table) (defScope sd_is_table) .none kV5 dc5 pm5 an5 cd5 ct5), sl5⟩)
    (c5 : PySem.W.codeIn K cd5 "is_table" = true)
    (k5 : PySem.W.keepIn K (.ref f5) = true)
    (a6 : PySem.W.nsIn K mainGlobals "check_table" = some (some (.ref f6)))
    (l6 : K.lookup f6 = some ⟨oc6, od6, .func (PySem.W.fnOf "check_table" "check_table" (defArgs sd_check_table) (defBody sd_check_table) (defScope sd_check_table) .none kV6 dc6 pm6 an6 cd6 ct6), sl6⟩)
    (c6 : PySem.W.codeIn K cd6 "check_table" = true)
    (k6 : PySem.W.keepIn K (.ref f6) = true)
    (a7 : PySem.W.nsIn K mainGlobals "check_table_of" = some (some (.ref f7)))
    (l7 : K.lookup f7 = some ⟨oc7, od7, .func (PySem.W.fnOf "check_table_of" "check_table_of" (defArgs sd_check_table_of) (defBody sd_check_table_of) (defScope sd_check_table_of) .none kV7 dc7 pm7 an7 cd7 ct7), sl7⟩)
    (c7 : PySem.W.codeIn K cd7 "check_table_of" = true)
    (k7 : PySem.W.keepIn K (.ref f7) = true)
    (a8 : PySem.W.nsIn K mainGlobals "check_number" = some (some (.ref f8)))
    (l8 : K.lookup f8 = some ⟨oc8, od8, .func (PySem.W.fnOf "check_number" "check_number" (defArgs sd_check_number) (defBody sd_check_number) (defScope sd_check_number) .none kV8 dc8 pm8 an8 cd8 ct8), sl8⟩)
    (c8 : PySem.W.codeIn K cd8 "check_number" = true)
    (k8 : PySem.W.keepIn K (.ref f8) = true)
    (a9 : PySem.W.nsIn K mainGlobals "check_size" = some (some (.ref f9)))
    (l9 : K.lookup f9 = some ⟨oc9, od9, .func (PySem.W.fnOf "check_size" "check_size" (defArgs sd_check_size) (defBody sd_check_size) (defScope sd_check_size) .none kV9 dc9 pm9 an9 cd9 ct9), sl9⟩)
    (c9 : PySem.W.codeIn K cd9 "check_size" = true)
    (k9 : PySem.W.keepIn K (.ref f9) = true)
    (a10 : PySem.W.nsIn K mainGlobals "identity" = some (some (.ref f10)))
    (l10 : K.lookup f10 = some ⟨oc10, od10, .func (PySem.W.fnOf "identity" "identity" (defArgs sd_identity) (defBody sd_identity) (defScope sd_identity) .none kV10 dc10 pm10 an10 cd10 ct10), sl10⟩)
    (c10 : PySem.W.codeIn K cd10 "identity" = true)
    (k10 : PySem.W.keepIn K (.ref f10) = true)
    (a11 : PySem.W.findIn K (.ref U0) "__init__" = some (some (.ref f11)))
    (i11 : PySem.W.isFn K (.ref f11) = true)
    (l11 : K.lookup f11 = some ⟨oc11, od11, .func (PySem.W.fnOf "__init__" "Clearing.__init__" (defArgs sd_Clearing_init) (defBody sd_Clearing_init) (defScope sd_Clearing_init) .none kV11 dc11 pm11 an11 cd11 ct11), sl11⟩)
    (c11 : PySem.W.codeIn K cd11 "Clearing.__init__" = true)
    (k11 : PySem.W.keepIn K (.ref f11) = true)
    (a12 : PySem.W.findIn K (.ref U0) "take" = some (some (.ref f12)))
    (i12 : PySem.W.isFn K (.ref f12) = true)
    (l12 : K.lookup f12 = some ⟨oc12, od12, .func (PySem.W.fnOf "take" "Clearing.take" (defArgs sd_Clearing_take) (defBody sd_Clearing_take) (defScope sd_Clearing_take) .none kV12 dc12 pm12 an12 cd12 ct12), sl12⟩)
    (c12 : PySem.W.codeIn K cd12 "Clearing.take" = true)
    (k12 : PySem.W.keepIn K (.ref f12) = true)
    (a13 : PySem.W.findIn K (.ref U0) "clear_item" = some (some (.ref f13)))
    (i13 : PySem.W.isFn K (.ref f13) = true)
    (l13 : K.lookup f13 = some ⟨oc13, od13, .func (PySem.W.fnOf "clear_item" "Clearing.clear_item" (defArgs sd_Clearing_clear_item) (defBody sd_Clearing_clear_item) (defScope sd_Clearing_clear_item) .none kV13 dc13 pm13 an13 cd13 ct13), sl13⟩)
    (c13 : PySem.W.codeIn K cd13 "Clearing.clear_item" = true)
    (k13 : PySem.W.keepIn K (.ref f13) = true)
    (a14 : PySem.W.findIn K (.ref U0) "clear_below" = some (some (.ref f14)))
    (i14 : PySem.W.isFn K (.ref f14) = true)
    (l14 : K.lookup f14 = some ⟨oc14, od14, .func (PySem.W.fnOf "clear_below" "Clearing.clear_below" (defArgs sd_Clearing_clear_below) (defBody sd_Clearing_clear_below) (defScope sd_Clearing_clear_below) .none kV14 dc14 pm14 an14 cd14 ct14), sl14⟩)
    (c14 : PySem.W.codeIn K cd14 "Clearing.clear_below" = true)
    (k14 : PySem.W.keepIn K (.ref f14) = true)
    (a15 : PySem.W.findIn K (.ref U0) "clear_above" = some (some (.ref f15)))
    (i15 : PySem.W.isFn K (.ref f15) = true)
    (l15 : K.lookup f15 = some ⟨oc15, od15, .func (PySem.W.fnOf "clear_above" "Clearing.clear_above" (defArgs sd_Clearing_clear_above) (defBody sd_Clearing_clear_above) (defScope sd_Clearing_clear_above) .none kV15 dc15 pm15 an15 cd15 ct15), sl15⟩)
    (c15 : PySem.W.codeIn K cd15 "Clearing.clear_above" = true)
    (k15 : PySem.W.keepIn K (.ref f15) = true)
    (a16 : PySem.W.nsIn K mainGlobals "word_of" = some (some (.ref f16)))
    (l16 : K.lookup f16 = some ⟨oc16, od16, .func (PySem.W.fnOf "word_of" "word_of" (defArgs sd_word_of) (defBody sd_word_of) (defScope sd_word_of) .none kV16 dc16 pm16 an16 cd16 ct16), sl16⟩)
    (c16 : PySem.W.codeIn K cd16 "word_of" = true)
    (k16 : PySem.W.keepIn K (.ref f16) = true)
    (a17 : PySem.W.nsIn K mainGlobals "reduced" = some (some (.ref f17)))
    (l17 : K.lookup f17 = some ⟨oc17, od17, .func (PySem.W.fnOf "reduced" "reduced" (defArgs sd_reduced) (defBody sd_reduced) (defScope sd_reduced) .none kV17 dc17 pm17 an17 cd17 ct17), sl17⟩)
    (c17 : PySem.W.codeIn K cd17 "reduced" = true)
    (k17 : PySem.W.keepIn K (.ref f17) = true)
    (a18 : PySem.W.nsIn K mainGlobals "is_alike" = some (some (.ref f18)))
    (l18 : K.lookup f18 = some ⟨oc18, od18, .func (PySem.W.fnOf "is_alike" "is_alike" (defArgs sd_is_alike) (defBody sd_is_alike) (defScope sd_is_alike) .none kV18 dc18 pm18 an18 cd18 ct18), sl18⟩)
    (c18 : PySem.W.codeIn K cd18 "is_alike" = true)
    (k18 : PySem.W.keepIn K (.ref f18) = true)
    (a19 : PySem.W.nsIn K mainGlobals "check_order" = some (some (.ref f19)))
    (l19 : K.lookup f19 = some ⟨oc19, od19, .func (PySem.W.fnOf "check_order" "check_order" (defArgs sd_check_order) (defBody sd_check_order) (defScope sd_check_order) .none kV19 dc19 pm19 an19 cd19 ct19), sl19⟩)
    (c19 : PySem.W.codeIn K cd19 "check_order" = true)
    (k19 : PySem.W.keepIn K (.ref f19) = true)
    (a20 : PySem.W.nsIn K mainGlobals "v_polynomial" = some (some (.ref f20)))
    (l20 : K.lookup f20 = some ⟨oc20, od20, .func (PySem.W.fnOf "v_polynomial" "v_polynomial" (defArgs sd_v_polynomial) (defBody sd_v_polynomial) (defScope sd_v_polynomial) .none kV20 dc20 pm20 an20 cd20 ct20), sl20⟩)
    (c20 : PySem.W.codeIn K cd20 "v_polynomial" = true)
    (k20 : PySem.W.keepIn K (.ref f20) = true)
    (a21 : PySem.W.nsIn K mainGlobals "lowered" = some (some (.ref f21)))
    (l21 : K.lookup f21 = some ⟨oc21, od21, .func (PySem.W.fnOf "lowered" "lowered" (defArgs sd_lowered) (defBody sd_lowered) (defScope sd_lowered) .none kV21 dc21 pm21 an21 cd21 ct21), sl21⟩)
    (c21 : PySem.W.codeIn K cd21 "lowered" = true)
    (k21 : PySem.W.keepIn K (.ref f21) = true)
    (a22 : PySem.W.nsIn K mainGlobals "poly_sum" = some (some (.ref f22)))
    (l22 : K.lookup f22 = some ⟨oc22, od22, .func (PySem.W.fnOf "poly_sum" "poly_sum" (defArgs sd_poly_sum) (defBody sd_poly_sum) (defScope sd_poly_sum) .none kV22 dc22 pm22 an22 cd22 ct22), sl22⟩)
    (c22 : PySem.W.codeIn K cd22 "poly_sum" = true)
    (k22 : PySem.W.keepIn K (.ref f22) = true)
    (a23 : PySem.W.nsIn K mainGlobals "opposite" = some (some (.ref f23)))
    (l23 : K.lookup f23 = some ⟨oc23, od23, .func (PySem.W.fnOf "opposite" "opposite" (defArgs sd_opposite) (defBody sd_opposite) (defScope sd_opposite) .none kV23 dc23 pm23 an23 cd23 ct23), sl23⟩)
    (c23 : PySem.W.codeIn K cd23 "opposite" = true)
    (k23 : PySem.W.keepIn K (.ref f23) = true)
    (a24 : PySem.W.nsIn K mainGlobals "times_x" = some (some (.ref f24)))
    (l24 : K.lookup f24 = some ⟨oc24, od24, .func (PySem.W.fnOf "times_x" "times_x" (defArgs sd_times_x) (defBody sd_times_x) (defScope sd_times_x) .none kV24 dc24 pm24 an24 cd24 ct24), sl24⟩)
    (c24 : PySem.W.codeIn K cd24 "times_x" = true)
    (k24 : PySem.W.keepIn K (.ref f24) = true)
    (a25 : PySem.W.nsIn K mainGlobals "constant" = some (some (.ref f25)))
    (l25 : K.lookup f25 = some ⟨oc25, od25, .func (PySem.W.fnOf "constant" "constant" (defArgs sd_constant) (defBody sd_constant) (defScope sd_constant) .none kV25 dc25 pm25 an25 cd25 ct25), sl25⟩)
    (c25 : PySem.W.codeIn K cd25 "constant" = true)
    (k25 : PySem.W.keepIn K (.ref f25) = true)
    (a26 : PySem.W.nsIn K mainGlobals "unit_turning" = some (some (.ref f26)))
    (l26 : K.lookup f26 = some ⟨oc26, od26, .func (PySem.W.fnOf "unit_turning" "unit_turning" (defArgs sd_unit_turning) (defBody sd_unit_turning) (defScope sd_unit_turning) .none kV26 dc26 pm26 an26 cd26 ct26), sl26⟩)
    (c26 : PySem.W.codeIn K cd26 "unit_turning" = true)
    (k26 : PySem.W.keepIn K (.ref f26) = true)
    (a27 : PySem.W.nsIn K mainGlobals "mirrored" = some (some (.ref f27)))
    (l27 : K.lookup f27 = some ⟨oc27, od27, .func (PySem.W.fnOf "mirrored" "mirrored" (defArgs sd_mirrored) (defBody sd_mirrored) (defScope sd_mirrored) .none kV27 dc27 pm27 an27 cd27 ct27), sl27⟩)
    (c27 : PySem.W.codeIn K cd27 "mirrored" = true)
    (k27 : PySem.W.keepIn K (.ref f27) = true)
    (a28 : PySem.W.nsIn K mainGlobals "mirrored_along" = some (some (.ref f28)))
    (l28 : K.lookup f28 = some ⟨oc28, od28, .func (PySem.W.fnOf "mirrored_along" "mirrored_along" (defArgs sd_mirrored_along) (defBody sd_mirrored_along) (defScope sd_mirrored_along) .none kV28 dc28 pm28 an28 cd28 ct28), sl28⟩)
    (c28 : PySem.W.codeIn K cd28 "mirrored_along" = true)
    (k28 : PySem.W.keepIn K (.ref f28) = true)
    (a29 : PySem.W.nsIn K mainGlobals "product_of_mirrors" = some (some (.ref f29)))
    (l29 : K.lookup f29 = some ⟨oc29, od29, .func (PySem.W.fnOf "product_of_mirrors" "product_of_mirrors" (defArgs sd_product_of_mirrors) (defBody sd_product_of_mirrors) (defScope sd_product_of_mirrors) .none kV29 dc29 pm29 an29 cd29 ct29), sl29⟩)
    (c29 : PySem.W.codeIn K cd29 "product_of_mirrors" = true)
    (k29 : PySem.W.keepIn K (.ref f29) = true)
    (a30 : PySem.W.nsIn K mainGlobals "turns" = some (some (.ref f30)))
    (l30 : K.lookup f30 = some ⟨oc30, od30, .func (PySem.W.fnOf "turns" "turns" (defArgs sd_turns) (defBody sd_turns) (defScope sd_turns) .none kV30 dc30 pm30 an30 cd30 ct30), sl30⟩)
    (c30 : PySem.W.codeIn K cd30 "turns" = true)
    (k30 : PySem.W.keepIn K (.ref f30) = true)
    (a31 : PySem.W.nsIn K mainGlobals "places_of" = some (some (.ref f31)))
    (l31 : K.lookup f31 = some ⟨oc31, od31, .func (PySem.W.fnOf "places_of" "places_of" (defArgs sd_places_of) (defBody sd_places_of) (defScope sd_places_of) .none kV31 dc31 pm31 an31 cd31 ct31), sl31⟩)
    (c31 : PySem.W.codeIn K cd31 "places_of" = true)
    (k31 : PySem.W.keepIn K (.ref f31) = true)
    (a32 : PySem.W.nsIn K mainGlobals "turned" = some (some (.ref f32)))
    (l32 : K.lookup f32 = some ⟨oc32, od32, .func (PySem.W.fnOf "turned" "turned" (defArgs sd_turned) (defBody sd_turned) (defScope sd_turned) .none kV32 dc32 pm32 an32 cd32 ct32), sl32⟩)
    (c32 : PySem.W.codeIn K cd32 "turned" = true)
    (k32 : PySem.W.keepIn K (.ref f32) = true)
    (a33 : PySem.W.nsIn K mainGlobals "is_made" = some (some (.ref f33)))
    (l33 : K.lookup f33 = some ⟨oc33, od33, .func (PySem.W.fnOf "is_made" "is_made" (defArgs sd_is_made) (defBody sd_is_made) (defScope sd_is_made) .none kV33 dc33 pm33 an33 cd33 ct33), sl33⟩)
    (c33 : PySem.W.codeIn K cd33 "is_made" = true)
    (k33 : PySem.W.keepIn K (.ref f33) = true)
    (a34 : PySem.W.nsIn K mainGlobals "_law_draws" = some (some (.ref f34)))
    (l34 : K.lookup f34 = some ⟨oc34, od34, .func (PySem.W.fnOf "_law_draws" "_law_draws" (defArgs sd_law_draws) (defBody sd_law_draws) (defScope sd_law_draws) .none kV34 dc34 pm34 an34 cd34 ct34), sl34⟩)
    (c34 : PySem.W.codeIn K cd34 "_law_draws" = true)
    (k34 : PySem.W.keepIn K (.ref f34) = true)
    (a35 : PySem.W.nsIn K mainGlobals "_law_mul" = some (some (.ref f35)))
    (l35 : K.lookup f35 = some ⟨oc35, od35, .func (PySem.W.fnOf "_law_mul" "_law_mul" (defArgs sd_law_mul) (defBody sd_law_mul) (defScope sd_law_mul) .none kV35 dc35 pm35 an35 cd35 ct35), sl35⟩)
    (c35 : PySem.W.codeIn K cd35 "_law_mul" = true)
    (k35 : PySem.W.keepIn K (.ref f35) = true)
    (a36 : PySem.W.nsIn K mainGlobals "_law_back" = some (some (.ref f36)))
    (l36 : K.lookup f36 = some ⟨oc36, od36, .func (PySem.W.fnOf "_law_back" "_law_back" (defArgs sd_law_back) (defBody sd_law_back) (defScope sd_law_back) .none kV36 dc36 pm36 an36 cd36 ct36), sl36⟩)
    (c36 : PySem.W.codeIn K cd36 "_law_back" = true)
    (k36 : PySem.W.keepIn K (.ref f36) = true)
    (a37 : PySem.W.nsIn K mainGlobals "_law_word" = some (some (.ref f37)))
    (l37 : K.lookup f37 = some ⟨oc37, od37, .func (PySem.W.fnOf "_law_word" "_law_word" (defArgs sd_law_word) (defBody sd_law_word) (defScope sd_law_word) .none kV37 dc37 pm37 an37 cd37 ct37), sl37⟩)
    (c37 : PySem.W.codeIn K cd37 "_law_word" = true)
    (k37 : PySem.W.keepIn K (.ref f37) = true)
    (a38 : PySem.W.nsIn K mainGlobals "_law_table" = some (some (.ref f38)))
    (l38 : K.lookup f38 = some ⟨oc38, od38, .func (PySem.W.fnOf "_law_table" "_law_table" (defArgs sd_law_table) (defBody sd_law_table) (defScope sd_law_table) .none kV38 dc38 pm38 an38 cd38 ct38), sl38⟩)
    (c38 : PySem.W.codeIn K cd38 "_law_table" = true)
    (k38 : PySem.W.keepIn K (.ref f38) = true)
    (a39 : PySem.W.nsIn K mainGlobals "_law_is_one" = some (some (.ref f39)))
    (l39 : K.lookup f39 = some ⟨oc39, od39, .func (PySem.W.fnOf "_law_is_one" "_law_is_one" (defArgs sd_law_is_one) (defBody sd_law_is_one) (defScope sd_law_is_one) .none kV39 dc39 pm39 an39 cd39 ct39), sl39⟩)
    (c39 : PySem.W.codeIn K cd39 "_law_is_one" = true)
    (k39 : PySem.W.keepIn K (.ref f39) = true)
    (a40 : PySem.W.nsIn K mainGlobals "_law_reached" = some (some (.ref f40)))
    (l40 : K.lookup f40 = some ⟨oc40, od40, .func (PySem.W.fnOf "_law_reached" "_law_reached" (defArgs sd_law_reached) (defBody sd_law_reached) (defScope sd_law_reached) .none kV40 dc40 pm40 an40 cd40 ct40), sl40⟩)
    (c40 : PySem.W.codeIn K cd40 "_law_reached" = true)
    (k40 : PySem.W.keepIn K (.ref f40) = true)
    (a41 : PySem.W.nsIn K mainGlobals "_law_lift" = some (some (.ref f41)))
    (l41 : K.lookup f41 = some ⟨oc41, od41, .func (PySem.W.fnOf "_law_lift" "_law_lift" (defArgs sd_law_lift) (defBody sd_law_lift) (defScope sd_law_lift) .none kV41 dc41 pm41 an41 cd41 ct41), sl41⟩)
    (c41 : PySem.W.codeIn K cd41 "_law_lift" = true)
    (k41 : PySem.W.keepIn K (.ref f41) = true)
    (a42 : PySem.W.nsIn K mainGlobals "law" = some (some (.ref f42)))
    (l42 : K.lookup f42 = some ⟨oc42, od42, .func (PySem.W.fnOf "law" "law" (defArgs sd_law) (defBody sd_law) (defScope sd_law) .none kV42 dc42 pm42 an42 cd42 ct42), sl42⟩)
    (c42 : PySem.W.codeIn K cd42 "law" = true)
    (k42 : PySem.W.keepIn K (.ref f42) = true)
    (ca0 : PySem.W.nsIn K mainGlobals "BadNumber" = some (some (.ref C0)))
    (cs0 : PySem.W.subIn K (.ref C0) (.type "BaseException") = some true)
    (cty0 : PySem.W.typeIn K (.ref C0) = some (.type "type"))
    (cd_0 : PySem.W.hasDictIn K C0 = true)
    (ck0 : PySem.W.keepIn K (.ref C0) = true)
    (ce0 : PySem.W.excIn K C0 [.type "ValueError", .type "Exception", .type "BaseException", .type "object"] "ValueError.__new__" = true)
    (ca1 : PySem.W.nsIn K mainGlobals "BadTable" = some (some (.ref C1)))
    (cs1 : PySem.W.subIn K (.ref C1) (.type "BaseException") = some true)
    (cty1 : PySem.W.typeIn K (.ref C1) = some (.type "type"))
    (cd_1 : PySem.W.hasDictIn K C1 = true)
    (ck1 : PySem.W.keepIn K (.ref C1) = true)
    (ce1 : PySem.W.excIn K C1 [.type "ValueError", .type "Exception", .type "BaseException", .type "object"] "ValueError.__new__" = true)
    (z0 : PySem.W.nsIn K mainGlobals "len" = some none)
    (z1 : PySem.W.nsIn K mainGlobals "int" = some none)
    (z2 : PySem.W.nsIn K mainGlobals "tuple" = some none)
    (z3 : PySem.W.nsIn K mainGlobals "list" = some none)
    (z4 : PySem.W.nsIn K mainGlobals "sum" = some none)
    (z5 : PySem.W.nsIn K mainGlobals "all" = some none)
    (z6 : PySem.W.nsIn K mainGlobals "any" = some none)
    (z7 : PySem.W.nsIn K mainGlobals "abs" = some none)
    (z8 : PySem.W.nsIn K mainGlobals "max" = some none)
    (z9 : PySem.W.nsIn K mainGlobals "min" = some none)
    (z10 : PySem.W.nsIn K mainGlobals "isinstance" = some none)
    (z11 : PySem.W.nsIn K mainGlobals "range" = some none)
    (z12 : PySem.W.nsIn K mainGlobals "bool" = some none)
    (z13 : PySem.W.nsIn K mainGlobals "str" = some none)
    (z14 : PySem.W.nsIn K mainGlobals "dict" = some none)
    (z15 : PySem.W.nsIn K mainGlobals "enumerate" = some none)
    (z16 : PySem.W.nsIn K mainGlobals "zip" = some none)
    (z17 : PySem.W.nsIn K mainGlobals "reversed" = some none)
    (z18 : PySem.W.nsIn K mainGlobals "sorted" = some none)
    (z19 : PySem.W.nsIn K mainGlobals "set" = some none)
    (gc_OTHERS : ∃ u v, mg "OTHERS" = some u ∧ RelV v u ∧ ∀ O H, Rp K O H v c_OTHERS)
    (gc_MOST_modulo : ∃ u v, mg "MOST_modulo" = some u ∧ RelV v u ∧ ∀ O H, Rp K O H v c_MOST_modulo)
    (gc_LEAST : ∃ u v, mg "LEAST" = some u ∧ RelV v u ∧ ∀ O H, Rp K O H v c_LEAST)
    (gc_MOST_turning : ∃ u v, mg "MOST_turning" = some u ∧ RelV v u ∧ ∀ O H, Rp K O H v c_MOST_turning)
    (gc_MOST_POLYNOMIAL : ∃ u v, mg "MOST_POLYNOMIAL" = some u ∧ RelV v u ∧ ∀ O H, Rp K O H v c_MOST_POLYNOMIAL)
    (gc_A : ∃ u v, mg "A" = some u ∧ RelV v u ∧ ∀ O H, Rp K O H v c_A)
    (gc_B : ∃ u v, mg "B" = some u ∧ RelV v u ∧ ∀ O H, Rp K O H v c_B)
    (gc_C : ∃ u v, mg "C" = some u ∧ RelV v u ∧ ∀ O H, Rp K O H v c_C)
    : ∃ fd : FuncData, (∀ (s : Shared) (v : Value), BindsTo s fd ⟨[v], []⟩ [("script", v)]) ∧ ∀ base : Heap, K.In base → base.Ns mainGlobals mg → FnOk l.prog w K mg base (L2N.CX l.prog w) 11 fa fd ["script"] (spLaw K) := by
  have e := hfa.symm.trans (PySem.W.mg_of X G a42)
  cases e
  let cv : Str → Value := fun c => (mg c).getD .none
  have mC0 := PySem.W.mg_of X G ca0
  have cC0 : cv "BadNumber" = .ref C0 := by show (mg "BadNumber").getD .none = _; rw [mC0]; rfl
  have xF0 : ExcF K mg cv "BadNumber" := ⟨⟨C0, cC0, mC0, ck0, ce0, cs0, cty0⟩⟩
  have mC1 := PySem.W.mg_of X G ca1
  have cC1 : cv "BadTable" = .ref C1 := by show (mg "BadTable").getD .none = _; rw [mC1]; rfl
  have xF1 : ExcF K mg cv "BadTable" := ⟨⟨C1, cC1, mC1, ck1, ce1, cs1, cty1⟩⟩
  have B : ∀ x ∈ bltNames, mg x = none := by
    unfold bltNames
    simp only [List.forall_mem_cons, List.not_mem_nil, false_implies, implies_true, and_true]
    exact ⟨PySem.W.mg_none_of X G z0, PySem.W.mg_none_of X G z1, PySem.W.mg_none_of X G z2, PySem.W.mg_none_of X G z3, PySem.W.mg_none_of X G z4, PySem.W.mg_none_of X G z5, PySem.W.mg_none_of X G z6, PySem.W.mg_none_of X G z7, PySem.W.mg_none_of X G z8, PySem.W.mg_none_of X G z9, PySem.W.mg_none_of X G z10, PySem.W.mg_none_of X G z11, PySem.W.mg_none_of X G z12, PySem.W.mg_none_of X G z13, PySem.W.mg_none_of X G z14, PySem.W.mg_none_of X G z15, PySem.W.mg_none_of X G z16, PySem.W.mg_none_of X G z17, PySem.W.mg_none_of X G z18, PySem.W.mg_none_of X G z19⟩
  have F0 := fun_mk (st := sd_is_number) l0 c0 k0
  have m0 := PySem.W.mg_of X G a0
  have b0 := F0.binds (ps := ["value"]) fun _ _ _ _ _ _ us hl => match us, hl with | [_], _ => rfl
  have F1 := fun_mk (st := sd_is_row) l1 c1 k1
  have m1 := PySem.W.mg_of X G a1
  have b1 := F1.binds (ps := ["value", "n"]) fun _ _ _ _ _ _ us hl => match us, hl with | [_, _], _ => rfl
  have F2 := fun_mk (st := sd_has_shape) l2 c2 k2
  have m2 := PySem.W.mg_of X G a2
  have b2 := F2.binds (ps := ["value"]) fun _ _ _ _ _ _ us hl => match us, hl with | [_], _ => rfl
  have F3 := fun_mk (st := sd_cofactor) l3 c3 k3
  have m3 := PySem.W.mg_of X G a3
  have b3 := F3.binds (ps := ["rows", "i", "j"]) fun _ _ _ _ _ _ us hl => match us, hl with | [_, _, _], _ => rfl
  have F4 := fun_mk (st := sd_determinant) l4 c4 k4
  have m4 := PySem.W.mg_of X G a4
  have b4 := F4.binds (ps := ["rows"]) fun _ _ _ _ _ _ us hl => match us, hl with | [_], _ => rfl
  have F5 := fun_mk (st := sd_is_table) l5 c5 k5
  have m5 := PySem.W.mg_of X G a5
  have b5 := F5.binds (ps := ["value"]) fun _ _ _ _ _ _ us hl => match us, hl with | [_], _ => rfl
  have F6 := fun_mk (st := sd_check_table) l6 c6 k6
  have m6 := PySem.W.mg_of X G a6
  have b6 := F6.binds (ps := ["value"]) fun _ _ _ _ _ _ us hl => match us, hl with | [_], _ => rfl
  have F7 := fun_mk (st := sd_check_table_of) l7 c7 k7
  have m7 := PySem.W.mg_of X G a7
  have b7 := F7.binds (ps := ["n", "value"]) fun _ _ _ _ _ _ us hl => match us, hl with | [_, _], _ => rfl
  have F8 := fun_mk (st := sd_check_number) l8 c8 k8
  have m8 := PySem.W.mg_of X G a8
  have b8 := F8.binds (ps := ["value", "low", "high"]) fun _ _ _ _ _ _ us hl => match us, hl with | [_, _, _], _ => rfl
  have F9 := fun_mk (st := sd_check_size) l9 c9 k9
  have m9 := PySem.W.mg_of X G a9
  have b9 := F9.binds (ps := ["n"]) fun _ _ _ _ _ _ us hl => match us, hl with | [_], _ => rfl
  have F10 := fun_mk (st := sd_identity) l10 c10 k10
  have m10 := PySem.W.mg_of X G a10
  have b10 := F10.binds (ps := ["n"]) fun _ _ _ _ _ _ us hl => match us, hl with | [_], _ => rfl
  have F11 := fun_mk (st := sd_Clearing_init) l11 c11 k11
  have b11 := F11.binds (ps := ["self", "table"]) fun _ _ _ _ _ _ us hl => match us, hl with | [_, _], _ => rfl
  have F12 := fun_mk (st := sd_Clearing_take) l12 c12 k12
  have b12 := F12.binds (ps := ["self", "i", "j", "k"]) fun _ _ _ _ _ _ us hl => match us, hl with | [_, _, _, _], _ => rfl
  have F13 := fun_mk (st := sd_Clearing_clear_item) l13 c13 k13
  have b13 := F13.binds (ps := ["self", "i", "j"]) fun _ _ _ _ _ _ us hl => match us, hl with | [_, _, _], _ => rfl
  have F14 := fun_mk (st := sd_Clearing_clear_below) l14 c14 k14
  have b14 := F14.binds (ps := ["self", "j"]) fun _ _ _ _ _ _ us hl => match us, hl with | [_, _], _ => rfl
  have F15 := fun_mk (st := sd_Clearing_clear_above) l15 c15 k15
  have b15 := F15.binds (ps := ["self", "j"]) fun _ _ _ _ _ _ us hl => match us, hl with | [_, _], _ => rfl
  have F16 := fun_mk (st := sd_word_of) l16 c16 k16
  have m16 := PySem.W.mg_of X G a16
  have b16 := F16.binds (ps := ["table"]) fun _ _ _ _ _ _ us hl => match us, hl with | [_], _ => rfl
  have F17 := fun_mk (st := sd_reduced) l17 c17 k17
  have m17 := PySem.W.mg_of X G a17
  have b17 := F17.binds (ps := ["N", "rows"]) fun _ _ _ _ _ _ us hl => match us, hl with | [_, _], _ => rfl
  have F18 := fun_mk (st := sd_is_alike) l18 c18 k18
  have m18 := PySem.W.mg_of X G a18
  have b18 := F18.binds (ps := ["N", "first", "second"]) fun _ _ _ _ _ _ us hl => match us, hl with | [_, _, _], _ => rfl
  have F19 := fun_mk (st := sd_check_order) l19 c19 k19
  have m19 := PySem.W.mg_of X G a19
  have b19 := F19.binds (ps := ["N"]) fun _ _ _ _ _ _ us hl => match us, hl with | [_], _ => rfl
  have F20 := fun_mk (st := sd_v_polynomial) l20 c20 k20
  have m20 := PySem.W.mg_of X G a20
  have b20 := F20.binds (ps := ["k"]) fun _ _ _ _ _ _ us hl => match us, hl with | [_], _ => rfl
  have F21 := fun_mk (st := sd_lowered) l21 c21 k21
  have m21 := PySem.W.mg_of X G a21
  have b21 := F21.binds (ps := ["modulus", "items"]) fun _ _ _ _ _ _ us hl => match us, hl with | [_, _], _ => rfl
  have F22 := fun_mk (st := sd_poly_sum) l22 c22 k22
  have m22 := PySem.W.mg_of X G a22
  have b22 := F22.binds (ps := ["p", "q"]) fun _ _ _ _ _ _ us hl => match us, hl with | [_, _], _ => rfl
  have F23 := fun_mk (st := sd_opposite) l23 c23 k23
  have m23 := PySem.W.mg_of X G a23
  have b23 := F23.binds (ps := ["p"]) fun _ _ _ _ _ _ us hl => match us, hl with | [_], _ => rfl
  have F24 := fun_mk (st := sd_times_x) l24 c24 k24
  have m24 := PySem.W.mg_of X G a24
  have b24 := F24.binds (ps := ["modulus", "p"]) fun _ _ _ _ _ _ us hl => match us, hl with | [_, _], _ => rfl
  have F25 := fun_mk (st := sd_constant) l25 c25 k25
  have m25 := PySem.W.mg_of X G a25
  have b25 := F25.binds (ps := ["N", "number"]) fun _ _ _ _ _ _ us hl => match us, hl with | [_, _], _ => rfl
  have F26 := fun_mk (st := sd_unit_turning) l26 c26 k26
  have m26 := PySem.W.mg_of X G a26
  have b26 := F26.binds (ps := ["N"]) fun _ _ _ _ _ _ us hl => match us, hl with | [_], _ => rfl
  have F27 := fun_mk (st := sd_mirrored) l27 c27 k27
  have m27 := PySem.W.mg_of X G a27
  have b27 := F27.binds (ps := ["modulus", "row", "place"]) fun _ _ _ _ _ _ us hl => match us, hl with | [_, _, _], _ => rfl
  have F28 := fun_mk (st := sd_mirrored_along) l28 c28 k28
  have m28 := PySem.W.mg_of X G a28
  have b28 := F28.binds (ps := ["modulus", "row", "places"]) fun _ _ _ _ _ _ us hl => match us, hl with | [_, _, _], _ => rfl
  have F29 := fun_mk (st := sd_product_of_mirrors) l29 c29 k29
  have m29 := PySem.W.mg_of X G a29
  have b29 := F29.binds (ps := ["N", "places"]) fun _ _ _ _ _ _ us hl => match us, hl with | [_, _], _ => rfl
  have F30 := fun_mk (st := sd_turns) l30 c30 k30
  have m30 := PySem.W.mg_of X G a30
  have b30 := F30.binds (ps := ["N", "k"]) fun _ _ _ _ _ _ us hl => match us, hl with | [_, _], _ => rfl
  have F31 := fun_mk (st := sd_places_of) l31 c31 k31
  have m31 := PySem.W.mg_of X G a31
  have b31 := F31.binds (ps := ["N", "table"]) fun _ _ _ _ _ _ us hl => match us, hl with | [_, _], _ => rfl
  have F32 := fun_mk (st := sd_turned) l32 c32 k32
  have m32 := PySem.W.mg_of X G a32
  have b32 := F32.binds (ps := ["N", "table"]) fun _ _ _ _ _ _ us hl => match us, hl with | [_, _], _ => rfl
  have F33 := fun_mk (st := sd_is_made) l33 c33 k33
  have m33 := PySem.W.mg_of X G a33
  have b33 := F33.binds (ps := ["N", "table"]) fun _ _ _ _ _ _ us hl => match us, hl with | [_, _], _ => rfl
  have F34 := fun_mk (st := sd_law_draws) l34 c34 k34
  have m34 := PySem.W.mg_of X G a34
  have b34 := F34.binds (ps := ["script", "many"]) fun _ _ _ _ _ _ us hl => match us, hl with | [_, _], _ => rfl
  have F35 := fun_mk (st := sd_law_mul) l35 c35 k35
  have m35 := PySem.W.mg_of X G a35
  have b35 := F35.binds (ps := ["first", "second"]) fun _ _ _ _ _ _ us hl => match us, hl with | [_, _], _ => rfl
  have F36 := fun_mk (st := sd_law_back) l36 c36 k36
  have m36 := PySem.W.mg_of X G a36
  have b36 := F36.binds (ps := ["table"]) fun _ _ _ _ _ _ us hl => match us, hl with | [_], _ => rfl
  have F37 := fun_mk (st := sd_law_word) l37 c37 k37
  have m37 := PySem.W.mg_of X G a37
  have b37 := F37.binds (ps := ["draws", "many"]) fun _ _ _ _ _ _ us hl => match us, hl with | [_, _], _ => rfl
  have F38 := fun_mk (st := sd_law_table) l38 c38 k38
  have m38 := PySem.W.mg_of X G a38
  have b38 := F38.binds (ps := ["word"]) fun _ _ _ _ _ _ us hl => match us, hl with | [_], _ => rfl
  have F39 := fun_mk (st := sd_law_is_one) l39 c39 k39
  have m39 := PySem.W.mg_of X G a39
  have b39 := F39.binds (ps := ["N", "table"]) fun _ _ _ _ _ _ us hl => match us, hl with | [_, _], _ => rfl
  have F40 := fun_mk (st := sd_law_reached) l40 c40 k40
  have m40 := PySem.W.mg_of X G a40
  have b40 := F40.binds (ps := ["N"]) fun _ _ _ _ _ _ us hl => match us, hl with | [_], _ => rfl
  have F41 := fun_mk (st := sd_law_lift) l41 c41 k41
  have m41 := PySem.W.mg_of X G a41
  have b41 := F41.binds (ps := ["N", "known", "word"]) fun _ _ _ _ _ _ us hl => match us, hl with | [_, _, _], _ => rfl
  have F42 := fun_mk (st := sd_law) l42 c42 k42
  have m42 := PySem.W.mg_of X G a42
  have b42 := F42.binds (ps := ["script"]) fun _ _ _ _ _ _ us hl => match us, hl with | [_], _ => rfl
  have cl0 : Cls K U0 := ⟨upg0, uhd0, upo0, usa0⟩
  have co0 : ClOk K ("Clearing", ["rows", "word"]) := ⟨⟨U0, ua0, cl0, by simp only [List.forall_mem_cons, List.not_mem_nil, false_implies, implies_true, and_true]; exact ⟨un0_0, un0_1⟩⟩⟩
  have mU0 := PySem.W.mg_of X G ua0
  refine ⟨PySem.W.fnOf "law" "law" (defArgs sd_law) (defBody sd_law) (defScope sd_law) .none kV42 dc42 pm42 an42 cd42 ct42, fun s v => .of_eq rfl, fun base _ _ => ?_⟩
  have O0 : FnOk l.prog w K mg base (L2N.CX l.prog w) 1 f0 _ ["value"] (spD K cv 1 fd_is_number) := def_ok (Γ := gd_is_number) F0 scd_is_number 5000 1 rfl ckd_is_number ⟨fns_of (by simp only [gd_is_number, List.not_mem_nil, false_implies, implies_true]), gls_of (by simp only [gd_is_number, List.not_mem_nil, false_implies, implies_true]), B, (by simp only [gd_is_number, List.not_mem_nil, false_implies, implies_true]), (by simp only [gd_is_number, List.not_mem_nil, false_implies, implies_true]),  (by simp only [gd_is_number, List.not_mem_nil, false_implies, implies_true]), mts_of (by simp only [gd_is_number, List.not_mem_nil, false_implies, implies_true]), mks_of (by simp only [gd_is_number, List.not_mem_nil, false_implies, implies_true]), mfs_of (by simp only [gd_is_number, List.not_mem_nil, false_implies, implies_true])⟩
  have O1 : FnOk l.prog w K mg base (L2N.CX l.prog w) 2 f1 _ ["value", "n"] (spD K cv 2 fd_is_row) := def_ok (Γ := gd_is_row) F1 scd_is_row 5000 2 rfl ckd_is_row ⟨fns_of (by simp only [gd_is_row, List.forall_mem_cons, List.not_mem_nil, false_implies, implies_true, and_true]; exact ⟨f0, _, ["value"], rfl, m0, k0, O0.mono (by decide), b0⟩), gls_of (by simp only [gd_is_row, List.not_mem_nil, false_implies, implies_true]), B, (by simp only [gd_is_row, List.not_mem_nil, false_implies, implies_true]), (by simp only [gd_is_row, List.not_mem_nil, false_implies, implies_true]),  (by simp only [gd_is_row, List.not_mem_nil, false_implies, implies_true]), mts_of (by simp only [gd_is_row, List.not_mem_nil, false_implies, implies_true]), mks_of (by simp only [gd_is_row, List.not_mem_nil, false_implies, implies_true]), mfs_of (by simp only [gd_is_row, List.not_mem_nil, false_implies, implies_true])⟩
  have O2 : FnOk l.prog w K mg base (L2N.CX l.prog w) 3 f2 _ ["value"] (spD K cv 1 fd_has_shape) := def_ok (Γ := gd_has_shape) F2 scd_has_shape 5000 1 rfl ckd_has_shape ⟨fns_of (by simp only [gd_has_shape, List.forall_mem_cons, List.not_mem_nil, false_implies, implies_true, and_true]; exact ⟨f1, _, ["value", "n"], rfl, m1, k1, O1.mono (by decide), b1⟩), gls_of (by simp only [gd_has_shape, List.not_mem_nil, false_implies, implies_true]), B, (by simp only [gd_has_shape, List.not_mem_nil, false_implies, implies_true]), (by simp only [gd_has_shape, List.not_mem_nil, false_implies, implies_true]),  (by simp only [gd_has_shape, List.not_mem_nil, false_implies, implies_true]), mts_of (by simp only [gd_has_shape, List.not_mem_nil, false_implies, implies_true]), mks_of (by simp only [gd_has_shape, List.not_mem_nil, false_implies, implies_true]), mfs_of (by simp only [gd_has_shape, List.not_mem_nil, false_implies, implies_true])⟩
  have O3 : FnOk l.prog w K mg base (L2N.CX l.prog w) 1 f3 _ ["rows", "i", "j"] (spD K cv 3 fd_cofactor) := def_ok (Γ := gd_cofactor) F3 scd_cofactor 5000 3 rfl ckd_cofactor ⟨fns_of (by simp only [gd_cofactor, List.not_mem_nil, false_implies, implies_true]), gls_of (by simp only [gd_cofactor, List.forall_mem_cons, List.not_mem_nil, false_implies, implies_true, and_true]; exact gc_OTHERS), B, (by simp only [gd_cofactor, List.not_mem_nil, false_implies, implies_true]), (by simp only [gd_cofactor, List.not_mem_nil, false_implies, implies_true]),  (by simp only [gd_cofactor, List.not_mem_nil, false_implies, implies_true]), mts_of (by simp only [gd_cofactor, List.not_mem_nil, false_implies, implies_true]), mks_of (by simp only [gd_cofactor, List.not_mem_nil, false_implies, implies_true]), mfs_of (by simp only [gd_cofactor, List.not_mem_nil, false_implies, implies_true])⟩
  have O4 : FnOk l.prog w K mg base (L2N.CX l.prog w) 2 f4 _ ["rows"] (spD K cv 1 fd_determinant) := def_ok (Γ := gd_determinant) F4 scd_determinant 5000 1 rfl ckd_determinant ⟨fns_of (by simp only [gd_determinant, List.forall_mem_cons, List.not_mem_nil, false_implies, implies_true, and_true]; exact ⟨f3, _, ["rows", "i", "j"], rfl, m3, k3, O3.mono (by decide), b3⟩), gls_of (by simp only [gd_determinant, List.not_mem_nil, false_implies, implies_true]), B, (by simp only [gd_determinant, List.not_mem_nil, false_implies, implies_true]), (by simp only [gd_determinant, List.not_mem_nil, false_implies, implies_true]),  (by simp only [gd_determinant, List.not_mem_nil, false_implies, implies_true]), mts_of (by simp only [gd_determinant, List.not_mem_nil, false_implies, implies_true]), mks_of (by simp only [gd_determinant, List.not_mem_nil, false_implies, implies_true]), mfs_of (by simp only [gd_determinant, List.not_mem_nil, false_implies, implies_true])⟩
  have O5 : FnOk l.prog w K mg base (L2N.CX l.prog w) 4 f5 _ ["value"] (spD K cv 1 fd_is_table) := def_ok (Γ := gd_is_table) F5 scd_is_table 5000 1 rfl ckd_is_table ⟨fns_of (by simp only [gd_is_table, List.forall_mem_cons, List.not_mem_nil, false_implies, implies_true, and_true]; exact ⟨⟨f2, _, ["value"], rfl, m2, k2, O2.mono (by decide), b2⟩, ⟨f4, _, ["rows"], rfl, m4, k4, O4.mono (by decide), b4⟩⟩), gls_of (by simp only [gd_is_table, List.not_mem_nil, false_implies, implies_true]), B, (by simp only [gd_is_table, List.not_mem_nil, false_implies, implies_true]), (by simp only [gd_is_table, List.not_mem_nil, false_implies, implies_true]),  (by simp only [gd_is_table, List.not_mem_nil, false_implies, implies_true]), mts_of (by simp only [gd_is_table, List.not_mem_nil, false_implies, implies_true]), mks_of (by simp only [gd_is_table, List.not_mem_nil, false_implies, implies_true]), mfs_of (by simp only [gd_is_table, List.not_mem_nil, false_implies, implies_true])⟩
  have O6 : FnOk l.prog w K mg base (L2N.CX l.prog w) 5 f6 _ ["value"] (spD K cv 1 fd_check_table) := def_ok (Γ := gd_check_table) F6 scd_check_table 5000 1 rfl ckd_check_table ⟨fns_of (by simp only [gd_check_table, List.forall_mem_cons, List.not_mem_nil, false_implies, implies_true, and_true]; exact ⟨f5, _, ["value"], rfl, m5, k5, O5.mono (by decide), b5⟩), gls_of (by simp only [gd_check_table, List.not_mem_nil, false_implies, implies_true]), B, (by simp only [gd_check_table, List.forall_mem_cons, List.not_mem_nil, false_implies, implies_true, and_true]; exact xF1), (by simp only [gd_check_table, List.not_mem_nil, false_implies, implies_true]),  (by simp only [gd_check_table, List.not_mem_nil, false_implies, implies_true]), mts_of (by simp only [gd_check_table, List.not_mem_nil, false_implies, implies_true]), mks_of (by simp only [gd_check_table, List.not_mem_nil, false_implies, implies_true]), mfs_of (by simp only [gd_check_table, List.not_mem_nil, false_implies, implies_true])⟩
  have O7 : FnOk l.prog w K mg base (L2N.CX l.prog w) 6 f7 _ ["n", "value"] (spD K cv 2 fd_check_table_of) := def_ok (Γ := gd_check_table_of) F7 scd_check_table_of 5000 2 rfl ckd_check_table_of ⟨fns_of (by simp only [gd_check_table_of, List.forall_mem_cons, List.not_mem_nil, false_implies, implies_true, and_true]; exact ⟨f6, _, ["value"], rfl, m6, k6, O6.mono (by decide), b6⟩), gls_of (by simp only [gd_check_table_of, List.not_mem_nil, false_implies, implies_true]), B, (by simp only [gd_check_table_of, List.forall_mem_cons, List.not_mem_nil, false_implies, implies_true, and_true]; exact xF1), (by simp only [gd_check_table_of, List.not_mem_nil, false_implies, implies_true]),  (by simp only [gd_check_table_of, List.not_mem_nil, false_implies, implies_true]), mts_of (by simp only [gd_check_table_of, List.not_mem_nil, false_implies, implies_true]), mks_of (by simp only [gd_check_table_of, List.not_mem_nil, false_implies, implies_true]), mfs_of (by simp only [gd_check_table_of, List.not_mem_nil, false_implies, implies_true])⟩
  have O8 : FnOk l.prog w K mg base (L2N.CX l.prog w) 2 f8 _ ["value", "low", "high"] (spD K cv 3 fd_check_number) := def_ok (Γ := gd_check_number) F8 scd_check_number 5000 3 rfl ckd_check_number ⟨fns_of (by simp only [gd_check_number, List.forall_mem_cons, List.not_mem_nil, false_implies, implies_true, and_true]; exact ⟨f0, _, ["value"], rfl, m0, k0, O0.mono (by decide), b0⟩), gls_of (by simp only [gd_check_number, List.not_mem_nil, false_implies, implies_true]), B, (by simp only [gd_check_number, List.forall_mem_cons, List.not_mem_nil, false_implies, implies_true, and_true]; exact xF0), (by simp only [gd_check_number, List.not_mem_nil, false_implies, implies_true]),  (by simp only [gd_check_number, List.not_mem_nil, false_implies, implies_true]), mts_of (by simp only [gd_check_number, List.not_mem_nil, false_implies, implies_true]), mks_of (by simp only [gd_check_number, List.not_mem_nil, false_implies, implies_true]), mfs_of (by simp only [gd_check_number, List.not_mem_nil, false_implies, implies_true])⟩
  have O9 : FnOk l.prog w K mg base (L2N.CX l.prog w) 3 f9 _ ["n"] (spD K cv 1 fd_check_size) := def_ok (Γ := gd_check_size) F9 scd_check_size 5000 1 rfl ckd_check_size ⟨fns_of (by simp only [gd_check_size, List.forall_mem_cons, List.not_mem_nil, false_implies, implies_true, and_true]; exact ⟨f8, _, ["value", "low", "high"], rfl, m8, k8, O8.mono (by decide), b8⟩), gls_of (by simp only [gd_check_size, List.not_mem_nil, false_implies, implies_true]), B, (by simp only [gd_check_size, List.not_mem_nil, false_implies, implies_true]), (by simp only [gd_check_size, List.not_mem_nil, false_implies, implies_true]),  (by simp only [gd_check_size, List.not_mem_nil, false_implies, implies_true]), mts_of (by simp only [gd_check_size, List.not_mem_nil, false_implies, implies_true]), mks_of (by simp only [gd_check_size, List.not_mem_nil, false_implies, implies_true]), mfs_of (by simp only [gd_check_size, List.not_mem_nil, false_implies, implies_true])⟩
  have O10 : FnOk l.prog w K mg base (L2N.CX l.prog w) 4 f10 _ ["n"] (spD K cv 1 fd_identity) := def_ok (Γ := gd_identity) F10 scd_identity 5000 1 rfl ckd_identity ⟨fns_of (by simp only [gd_identity, List.forall_mem_cons, List.not_mem_nil, false_implies, implies_true, and_true]; exact ⟨f9, _, ["n"], rfl, m9, k9, O9.mono (by decide), b9⟩), gls_of (by simp only [gd_identity, List.not_mem_nil, false_implies, implies_true]), B, (by simp only [gd_identity, List.not_mem_nil, false_implies, implies_true]), (by simp only [gd_identity, List.not_mem_nil, false_implies, implies_true]),  (by simp only [gd_identity, List.not_mem_nil, false_implies, implies_true]), mts_of (by simp only [gd_identity, List.not_mem_nil, false_implies, implies_true]), mks_of (by simp only [gd_identity, List.not_mem_nil, false_implies, implies_true]), mfs_of (by simp only [gd_identity, List.not_mem_nil, false_implies, implies_true])⟩
  have O11 : FnOk l.prog w K mg base (L2N.CX l.prog w) 1 f11 _ ["self", "table"] (spM K cv 1 fd_Clearing_init) := meth_ok (Γ := gd_Clearing_init) F11 scd_Clearing_init 5000 1 rfl ckd_Clearing_init ⟨fns_of (by simp only [gd_Clearing_init, List.not_mem_nil, false_implies, implies_true]), gls_of (by simp only [gd_Clearing_init, List.not_mem_nil, false_implies, implies_true]), B, (by simp only [gd_Clearing_init, List.not_mem_nil, false_implies, implies_true]), (by simp only [gd_Clearing_init, List.not_mem_nil, false_implies, implies_true]),  (by simp only [gd_Clearing_init, List.forall_mem_cons, List.not_mem_nil, false_implies, implies_true, and_true]; exact co0), mts_of (by simp only [gd_Clearing_init, List.not_mem_nil, false_implies, implies_true]), mks_of (by simp only [gd_Clearing_init, List.not_mem_nil, false_implies, implies_true]), mfs_of (by simp only [gd_Clearing_init, List.not_mem_nil, false_implies, implies_true])⟩
  have O12 : FnOk l.prog w K mg base (L2N.CX l.prog w) 1 f12 _ ["self", "i", "j", "k"] (spM K cv 3 fd_Clearing_take) := meth_ok (Γ := gd_Clearing_take) F12 scd_Clearing_take 5000 3 rfl ckd_Clearing_take ⟨fns_of (by simp only [gd_Clearing_take, List.not_mem_nil, false_implies, implies_true]), gls_of (by simp only [gd_Clearing_take, List.not_mem_nil, false_implies, implies_true]), B, (by simp only [gd_Clearing_take, List.not_mem_nil, false_implies, implies_true]), (by simp only [gd_Clearing_take, List.not_mem_nil, false_implies, implies_true]),  (by simp only [gd_Clearing_take, List.forall_mem_cons, List.not_mem_nil, false_implies, implies_true, and_true]; exact co0), mts_of (by simp only [gd_Clearing_take, List.not_mem_nil, false_implies, implies_true]), mks_of (by simp only [gd_Clearing_take, List.not_mem_nil, false_implies, implies_true]), mfs_of (by simp only [gd_Clearing_take, List.not_mem_nil, false_implies, implies_true])⟩
  have O13 : FnOk l.prog w K mg base (L2N.CX l.prog w) 3 f13 _ ["self", "i", "j"] (spM K cv 2 fd_Clearing_clear_item) := meth_ok (Γ := gd_Clearing_clear_item) F13 scd_Clearing_clear_item 5000 2 rfl ckd_Clearing_clear_item ⟨fns_of (by simp only [gd_Clearing_clear_item, List.not_mem_nil, false_implies, implies_true]), gls_of (by simp only [gd_Clearing_clear_item, List.not_mem_nil, false_implies, implies_true]), B, (by simp only [gd_Clearing_clear_item, List.not_mem_nil, false_implies, implies_true]), (by simp only [gd_Clearing_clear_item, List.not_mem_nil, false_implies, implies_true]),  (by simp only [gd_Clearing_clear_item, List.forall_mem_cons, List.not_mem_nil, false_implies, implies_true, and_true]; exact co0), mts_of (by simp only [gd_Clearing_clear_item, List.not_mem_nil, false_implies, implies_true]), mks_of (by simp only [gd_Clearing_clear_item, List.forall_mem_cons, List.not_mem_nil, false_implies, implies_true, and_true]; exact (⟨⟨U0, f12, _, ["self", "i", "j", "k"], 1, rfl, ua0, (show 1 + 1 ≤ 2 by decide), O12, b12, cl0, (fun z => absurd z (by decide)), (fun _ => ⟨a12, i12, k12⟩)⟩⟩ : MkOk _ _ _ _ _ _ _ ⟨"Clearing", "take", 3, fd_Clearing_take⟩)), mfs_of (by simp only [gd_Clearing_clear_item, List.not_mem_nil, false_implies, implies_true])⟩
  have O14 : FnOk l.prog w K mg base (L2N.CX l.prog w) 5 f14 _ ["self", "j"] (spM K cv 1 fd_Clearing_clear_below) := meth_ok (Γ := gd_Clearing_clear_below) F14 scd_Clearing_clear_below 5000 1 rfl ckd_Clearing_clear_below ⟨fns_of (by simp only [gd_Clearing_clear_below, List.not_mem_nil, false_implies, implies_true]), gls_of (by simp only [gd_Clearing_clear_below, List.not_mem_nil, false_implies, implies_true]), B, (by simp only [gd_Clearing_clear_below, List.not_mem_nil, false_implies, implies_true]), (by simp only [gd_Clearing_clear_below, List.not_mem_nil, false_implies, implies_true]),  (by simp only [gd_Clearing_clear_below, List.forall_mem_cons, List.not_mem_nil, false_implies, implies_true, and_true]; exact co0), mts_of (by simp only [gd_Clearing_clear_below, List.not_mem_nil, false_implies, implies_true]), mks_of (by simp only [gd_Clearing_clear_below, List.forall_mem_cons, List.not_mem_nil, false_implies, implies_true, and_true]; exact ⟨(⟨⟨U0, f13, _, ["self", "i", "j"], 3, rfl, ua0, (show 3 + 1 ≤ 4 by decide), O13, b13, cl0, (fun z => absurd z (by decide)), (fun _ => ⟨a13, i13, k13⟩)⟩⟩ : MkOk _ _ _ _ _ _ _ ⟨"Clearing", "clear_item", 2, fd_Clearing_clear_item⟩), (⟨⟨U0, f12, _, ["self", "i", "j", "k"], 1, rfl, ua0, (show 1 + 1 ≤ 4 by decide), O12, b12, cl0, (fun z => absurd z (by decide)), (fun _ => ⟨a12, i12, k12⟩)⟩⟩ : MkOk _ _ _ _ _ _ _ ⟨"Clearing", "take", 3, fd_Clearing_take⟩)⟩), mfs_of (by simp only [gd_Clearing_clear_below, List.not_mem_nil, false_implies, implies_true])⟩
  have O15 : FnOk l.prog w K mg base (L2N.CX l.prog w) 3 f15 _ ["self", "j"] (spM K cv 1 fd_Clearing_clear_above) := meth_ok (Γ := gd_Clearing_clear_above) F15 scd_Clearing_clear_above 5000 1 rfl ckd_Clearing_clear_above ⟨fns_of (by simp only [gd_Clearing_clear_above, List.not_mem_nil, false_implies, implies_true]), gls_of (by simp only [gd_Clearing_clear_above, List.not_mem_nil, false_implies, implies_true]), B, (by simp only [gd_Clearing_clear_above, List.not_mem_nil, false_implies, implies_true]), (by simp only [gd_Clearing_clear_above, List.not_mem_nil, false_implies, implies_true]),  (by simp only [gd_Clearing_clear_above, List.forall_mem_cons, List.not_mem_nil, false_implies, implies_true, and_true]; exact co0), mts_of (by simp only [gd_Clearing_clear_above, List.not_mem_nil, false_implies, implies_true]), mks_of (by simp only [gd_Clearing_clear_above, List.forall_mem_cons, List.not_mem_nil, false_implies, implies_true, and_true]; exact (⟨⟨U0, f12, _, ["self", "i", "j", "k"], 1, rfl, ua0, (show 1 + 1 ≤ 2 by decide), O12, b12, cl0, (fun z => absurd z (by decide)), (fun _ => ⟨a12, i12, k12⟩)⟩⟩ : MkOk _ _ _ _ _ _ _ ⟨"Clearing", "take", 3, fd_Clearing_take⟩)), mfs_of (by simp only [gd_Clearing_clear_above, List.not_mem_nil, false_implies, implies_true])⟩
  have O16 : FnOk l.prog w K mg base (L2N.CX l.prog w) 7 f16 _ ["table"] (spD K cv 1 fd_word_of) := def_ok (Γ := gd_word_of) F16 scd_word_of 5000 1 rfl ckd_word_of ⟨fns_of (by simp only [gd_word_of, List.forall_mem_cons, List.not_mem_nil, false_implies, implies_true, and_true]; exact ⟨f6, _, ["value"], rfl, m6, k6, O6.mono (by decide), b6⟩), gls_of (by simp only [gd_word_of, List.not_mem_nil, false_implies, implies_true]), B, (by simp only [gd_word_of, List.not_mem_nil, false_implies, implies_true]), (by simp only [gd_word_of, List.not_mem_nil, false_implies, implies_true]),  (by simp only [gd_word_of, List.forall_mem_cons, List.not_mem_nil, false_implies, implies_true, and_true]; exact co0), mts_of (by simp only [gd_word_of, List.not_mem_nil, false_implies, implies_true]), mks_of (by simp only [gd_word_of, List.forall_mem_cons, List.not_mem_nil, false_implies, implies_true, and_true]; exact ⟨(⟨⟨U0, f11, _, ["self", "table"], 1, rfl, ua0, (show 1 + 1 ≤ 6 by decide), O11, b11, cl0, (fun _ => ⟨mU0, ⟨umk0, a11, i11, ukc0⟩⟩), (fun z => absurd rfl z)⟩⟩ : MkOk _ _ _ _ _ _ _ ⟨"Clearing", "__init__", 1, fd_Clearing_init⟩), (⟨⟨U0, f14, _, ["self", "j"], 5, rfl, ua0, (show 5 + 1 ≤ 6 by decide), O14, b14, cl0, (fun z => absurd z (by decide)), (fun _ => ⟨a14, i14, k14⟩)⟩⟩ : MkOk _ _ _ _ _ _ _ ⟨"Clearing", "clear_below", 1, fd_Clearing_clear_below⟩), (⟨⟨U0, f15, _, ["self", "j"], 3, rfl, ua0, (show 3 + 1 ≤ 6 by decide), O15, b15, cl0, (fun z => absurd z (by decide)), (fun _ => ⟨a15, i15, k15⟩)⟩⟩ : MkOk _ _ _ _ _ _ _ ⟨"Clearing", "clear_above", 1, fd_Clearing_clear_above⟩)⟩), mfs_of (by simp only [gd_word_of, List.not_mem_nil, false_implies, implies_true])⟩
  have O17 : FnOk l.prog w K mg base (L2N.CX l.prog w) 1 f17 _ ["N", "rows"] (spD K cv 2 fd_reduced) := def_ok (Γ := gd_reduced) F17 scd_reduced 5000 2 rfl ckd_reduced ⟨fns_of (by simp only [gd_reduced, List.not_mem_nil, false_implies, implies_true]), gls_of (by simp only [gd_reduced, List.not_mem_nil, false_implies, implies_true]), B, (by simp only [gd_reduced, List.not_mem_nil, false_implies, implies_true]), (by simp only [gd_reduced, List.not_mem_nil, false_implies, implies_true]),  (by simp only [gd_reduced, List.not_mem_nil, false_implies, implies_true]), mts_of (by simp only [gd_reduced, List.not_mem_nil, false_implies, implies_true]), mks_of (by simp only [gd_reduced, List.not_mem_nil, false_implies, implies_true]), mfs_of (by simp only [gd_reduced, List.not_mem_nil, false_implies, implies_true])⟩
  have O18 : FnOk l.prog w K mg base (L2N.CX l.prog w) 7 f18 _ ["N", "first", "second"] (spD K cv 3 fd_is_alike) := def_ok (Γ := gd_is_alike) F18 scd_is_alike 5000 3 rfl ckd_is_alike ⟨fns_of (by simp only [gd_is_alike, List.forall_mem_cons, List.not_mem_nil, false_implies, implies_true, and_true]; exact ⟨⟨f8, _, ["value", "low", "high"], rfl, m8, k8, O8.mono (by decide), b8⟩, ⟨f6, _, ["value"], rfl, m6, k6, O6.mono (by decide), b6⟩, ⟨f7, _, ["n", "value"], rfl, m7, k7, O7.mono (by decide), b7⟩, ⟨f17, _, ["N", "rows"], rfl, m17, k17, O17.mono (by decide), b17⟩⟩), gls_of (by simp only [gd_is_alike, List.forall_mem_cons, List.not_mem_nil, false_implies, implies_true, and_true]; exact gc_MOST_modulo), B, (by simp only [gd_is_alike, List.not_mem_nil, false_implies, implies_true]), (by simp only [gd_is_alike, List.not_mem_nil, false_implies, implies_true]),  (by simp only [gd_is_alike, List.not_mem_nil, false_implies, implies_true]), mts_of (by simp only [gd_is_alike, List.not_mem_nil, false_implies, implies_true]), mks_of (by simp only [gd_is_alike, List.not_mem_nil, false_implies, implies_true]), mfs_of (by simp only [gd_is_alike, List.not_mem_nil, false_implies, implies_true])⟩
  have O19 : FnOk l.prog w K mg base (L2N.CX l.prog w) 3 f19 _ ["N"] (spD K cv 1 fd_check_order) := def_ok (Γ := gd_check_order) F19 scd_check_order 5000 1 rfl ckd_check_order ⟨fns_of (by simp only [gd_check_order, List.forall_mem_cons, List.not_mem_nil, false_implies, implies_true, and_true]; exact ⟨f8, _, ["value", "low", "high"], rfl, m8, k8, O8.mono (by decide), b8⟩), gls_of (by simp only [gd_check_order, List.forall_mem_cons, List.not_mem_nil, false_implies, implies_true, and_true]; exact ⟨gc_LEAST, gc_MOST_turning⟩), B, (by simp only [gd_check_order, List.not_mem_nil, false_implies, implies_true]), (by simp only [gd_check_order, List.not_mem_nil, false_implies, implies_true]),  (by simp only [gd_check_order, List.not_mem_nil, false_implies, implies_true]), mts_of (by simp only [gd_check_order, List.not_mem_nil, false_implies, implies_true]), mks_of (by simp only [gd_check_order, List.not_mem_nil, false_implies, implies_true]), mfs_of (by simp only [gd_check_order, List.not_mem_nil, false_implies, implies_true])⟩
  have O20 : FnOk l.prog w K mg base (L2N.CX l.prog w) 3 f20 _ ["k"] (spD K cv 1 fd_v_polynomial) := def_ok (Γ := gd_v_polynomial) F20 scd_v_polynomial 5000 1 rfl ckd_v_polynomial ⟨fns_of (by simp only [gd_v_polynomial, List.forall_mem_cons, List.not_mem_nil, false_implies, implies_true, and_true]; exact ⟨f8, _, ["value", "low", "high"], rfl, m8, k8, O8.mono (by decide), b8⟩), gls_of (by simp only [gd_v_polynomial, List.forall_mem_cons, List.not_mem_nil, false_implies, implies_true, and_true]; exact gc_MOST_POLYNOMIAL), B, (by simp only [gd_v_polynomial, List.not_mem_nil, false_implies, implies_true]), (by simp only [gd_v_polynomial, List.not_mem_nil, false_implies, implies_true]),  (by simp only [gd_v_polynomial, List.not_mem_nil, false_implies, implies_true]), mts_of (by simp only [gd_v_polynomial, List.not_mem_nil, false_implies, implies_true]), mks_of (by simp only [gd_v_polynomial, List.not_mem_nil, false_implies, implies_true]), mfs_of (by simp only [gd_v_polynomial, List.not_mem_nil, false_implies, implies_true])⟩
  have O21 : FnOk l.prog w K mg base (L2N.CX l.prog w) 1 f21 _ ["modulus", "items"] (spD K cv 2 fd_lowered) := def_ok (Γ := gd_lowered) F21 scd_lowered 5000 2 rfl ckd_lowered ⟨fns_of (by simp only [gd_lowered, List.not_mem_nil, false_implies, implies_true]), gls_of (by simp only [gd_lowered, List.not_mem_nil, false_implies, implies_true]), B, (by simp only [gd_lowered, List.not_mem_nil, false_implies, implies_true]), (by simp only [gd_lowered, List.not_mem_nil, false_implies, implies_true]),  (by simp only [gd_lowered, List.not_mem_nil, false_implies, implies_true]), mts_of (by simp only [gd_lowered, List.not_mem_nil, false_implies, implies_true]), mks_of (by simp only [gd_lowered, List.not_mem_nil, false_implies, implies_true]), mfs_of (by simp only [gd_lowered, List.not_mem_nil, false_implies, implies_true])⟩
  have O22 : FnOk l.prog w K mg base (L2N.CX l.prog w) 1 f22 _ ["p", "q"] (spD K cv 2 fd_poly_sum) := def_ok (Γ := gd_poly_sum) F22 scd_poly_sum 5000 2 rfl ckd_poly_sum ⟨fns_of (by simp only [gd_poly_sum, List.not_mem_nil, false_implies, implies_true]), gls_of (by simp only [gd_poly_sum, List.not_mem_nil, false_implies, implies_true]), B, (by simp only [gd_poly_sum, List.not_mem_nil, false_implies, implies_true]), (by simp only [gd_poly_sum, List.not_mem_nil, false_implies, implies_true]),  (by simp only [gd_poly_sum, List.not_mem_nil, false_implies, implies_true]), mts_of (by simp only [gd_poly_sum, List.not_mem_nil, false_implies, implies_true]), mks_of (by simp only [gd_poly_sum, List.not_mem_nil, false_implies, implies_true]), mfs_of (by simp only [gd_poly_sum, List.not_mem_nil, false_implies, implies_true])⟩
  have O23 : FnOk l.prog w K mg base (L2N.CX l.prog w) 1 f23 _ ["p"] (spD K cv 1 fd_opposite) := def_ok (Γ := gd_opposite) F23 scd_opposite 5000 1 rfl ckd_opposite ⟨fns_of (by simp only [gd_opposite, List.not_mem_nil, false_implies, implies_true]), gls_of (by simp only [gd_opposite, List.not_mem_nil, false_implies, implies_true]), B, (by simp only [gd_opposite, List.not_mem_nil, false_implies, implies_true]), (by simp only [gd_opposite, List.not_mem_nil, false_implies, implies_true]),  (by simp only [gd_opposite, List.not_mem_nil, false_implies, implies_true]), mts_of (by simp only [gd_opposite, List.not_mem_nil, false_implies, implies_true]), mks_of (by simp only [gd_opposite, List.not_mem_nil, false_implies, implies_true]), mfs_of (by simp only [gd_opposite, List.not_mem_nil, false_implies, implies_true])⟩
  have O24 : FnOk l.prog w K mg base (L2N.CX l.prog w) 2 f24 _ ["modulus", "p"] (spD K cv 2 fd_times_x) := def_ok (Γ := gd_times_x) F24 scd_times_x 5000 2 rfl ckd_times_x ⟨fns_of (by simp only [gd_times_x, List.forall_mem_cons, List.not_mem_nil, false_implies, implies_true, and_true]; exact ⟨f21, _, ["modulus", "items"], rfl, m21, k21, O21.mono (by decide), b21⟩), gls_of (by simp only [gd_times_x, List.not_mem_nil, false_implies, implies_true]), B, (by simp only [gd_times_x, List.not_mem_nil, false_implies, implies_true]), (by simp only [gd_times_x, List.not_mem_nil, false_implies, implies_true]),  (by simp only [gd_times_x, List.not_mem_nil, false_implies, implies_true]), mts_of (by simp only [gd_times_x, List.not_mem_nil, false_implies, implies_true]), mks_of (by simp only [gd_times_x, List.not_mem_nil, false_implies, implies_true]), mfs_of (by simp only [gd_times_x, List.not_mem_nil, false_implies, implies_true])⟩
  have O25 : FnOk l.prog w K mg base (L2N.CX l.prog w) 1 f25 _ ["N", "number"] (spD K cv 2 fd_constant) := def_ok (Γ := gd_constant) F25 scd_constant 5000 2 rfl ckd_constant ⟨fns_of (by simp only [gd_constant, List.not_mem_nil, false_implies, implies_true]), gls_of (by simp only [gd_constant, List.not_mem_nil, false_implies, implies_true]), B, (by simp only [gd_constant, List.not_mem_nil, false_implies, implies_true]), (by simp only [gd_constant, List.not_mem_nil, false_implies, implies_true]),  (by simp only [gd_constant, List.not_mem_nil, false_implies, implies_true]), mts_of (by simp only [gd_constant, List.not_mem_nil, false_implies, implies_true]), mks_of (by simp only [gd_constant, List.not_mem_nil, false_implies, implies_true]), mfs_of (by simp only [gd_constant, List.not_mem_nil, false_implies, implies_true])⟩
  have O26 : FnOk l.prog w K mg base (L2N.CX l.prog w) 5 f26 _ ["N"] (spD K cv 1 fd_unit_turning) := def_ok (Γ := gd_unit_turning) F26 scd_unit_turning 5000 1 rfl ckd_unit_turning ⟨fns_of (by simp only [gd_unit_turning, List.forall_mem_cons, List.not_mem_nil, false_implies, implies_true, and_true]; exact ⟨⟨f19, _, ["N"], rfl, m19, k19, O19.mono (by decide), b19⟩, ⟨f10, _, ["n"], rfl, m10, k10, O10.mono (by decide), b10⟩, ⟨f25, _, ["N", "number"], rfl, m25, k25, O25.mono (by decide), b25⟩⟩), gls_of (by simp only [gd_unit_turning, List.not_mem_nil, false_implies, implies_true]), B, (by simp only [gd_unit_turning, List.not_mem_nil, false_implies, implies_true]), (by simp only [gd_unit_turning, List.not_mem_nil, false_implies, implies_true]),  (by simp only [gd_unit_turning, List.not_mem_nil, false_implies, implies_true]), mts_of (by simp only [gd_unit_turning, List.not_mem_nil, false_implies, implies_true]), mks_of (by simp only [gd_unit_turning, List.not_mem_nil, false_implies, implies_true]), mfs_of (by simp only [gd_unit_turning, List.not_mem_nil, false_implies, implies_true])⟩
  have O27 : FnOk l.prog w K mg base (L2N.CX l.prog w) 3 f27 _ ["modulus", "row", "place"] (spD K cv 3 fd_mirrored) := def_ok (Γ := gd_mirrored) F27 scd_mirrored 5000 3 rfl ckd_mirrored ⟨fns_of (by simp only [gd_mirrored, List.forall_mem_cons, List.not_mem_nil, false_implies, implies_true, and_true]; exact ⟨⟨f23, _, ["p"], rfl, m23, k23, O23.mono (by decide), b23⟩, ⟨f22, _, ["p", "q"], rfl, m22, k22, O22.mono (by decide), b22⟩, ⟨f24, _, ["modulus", "p"], rfl, m24, k24, O24.mono (by decide), b24⟩⟩), gls_of (by simp only [gd_mirrored, List.forall_mem_cons, List.not_mem_nil, false_implies, implies_true, and_true]; exact ⟨gc_A, gc_B⟩), B, (by simp only [gd_mirrored, List.not_mem_nil, false_implies, implies_true]), (by simp only [gd_mirrored, List.not_mem_nil, false_implies, implies_true]),  (by simp only [gd_mirrored, List.not_mem_nil, false_implies, implies_true]), mts_of (by simp only [gd_mirrored, List.not_mem_nil, false_implies, implies_true]), mks_of (by simp only [gd_mirrored, List.not_mem_nil, false_implies, implies_true]), mfs_of (by simp only [gd_mirrored, List.not_mem_nil, false_implies, implies_true])⟩
  have O28 : FnOk l.prog w K mg base (L2N.CX l.prog w) 4 f28 _ ["modulus", "row", "places"] (spD K cv 3 fd_mirrored_along) := def_ok (Γ := gd_mirrored_along) F28 scd_mirrored_along 5000 3 rfl ckd_mirrored_along ⟨fns_of (by simp only [gd_mirrored_along, List.forall_mem_cons, List.not_mem_nil, false_implies, implies_true, and_true]; exact ⟨f27, _, ["modulus", "row", "place"], rfl, m27, k27, O27.mono (by decide), b27⟩), gls_of (by simp only [gd_mirrored_along, List.not_mem_nil, false_implies, implies_true]), B, (by simp only [gd_mirrored_along, List.not_mem_nil, false_implies, implies_true]), (by simp only [gd_mirrored_along, List.not_mem_nil, false_implies, implies_true]),  (by simp only [gd_mirrored_along, List.not_mem_nil, false_implies, implies_true]), mts_of (by simp only [gd_mirrored_along, List.not_mem_nil, false_implies, implies_true]), mks_of (by simp only [gd_mirrored_along, List.not_mem_nil, false_implies, implies_true]), mfs_of (by simp only [gd_mirrored_along, List.not_mem_nil, false_implies, implies_true])⟩
  have O29 : FnOk l.prog w K mg base (L2N.CX l.prog w) 6 f29 _ ["N", "places"] (spD K cv 2 fd_product_of_mirrors) := def_ok (Γ := gd_product_of_mirrors) F29 scd_product_of_mirrors 5000 2 rfl ckd_product_of_mirrors ⟨fns_of (by simp only [gd_product_of_mirrors, List.forall_mem_cons, List.not_mem_nil, false_implies, implies_true, and_true]; exact ⟨⟨f20, _, ["k"], rfl, m20, k20, O20.mono (by decide), b20⟩, ⟨f26, _, ["N"], rfl, m26, k26, O26.mono (by decide), b26⟩, ⟨f28, _, ["modulus", "row", "places"], rfl, m28, k28, O28.mono (by decide), b28⟩⟩), gls_of (by simp only [gd_product_of_mirrors, List.not_mem_nil, false_implies, implies_true]), B, (by simp only [gd_product_of_mirrors, List.not_mem_nil, false_implies, implies_true]), (by simp only [gd_product_of_mirrors, List.not_mem_nil, false_implies, implies_true]),  (by simp only [gd_product_of_mirrors, List.not_mem_nil, false_implies, implies_true]), mts_of (by simp only [gd_product_of_mirrors, List.not_mem_nil, false_implies, implies_true]), mks_of (by simp only [gd_product_of_mirrors, List.not_mem_nil, false_implies, implies_true]), mfs_of (by simp only [gd_product_of_mirrors, List.not_mem_nil, false_implies, implies_true])⟩
  have O30 : FnOk l.prog w K mg base (L2N.CX l.prog w) 1 f30 _ ["N", "k"] (spD K cv 2 fd_turns) := def_ok (Γ := gd_turns) F30 scd_turns 5000 2 rfl ckd_turns ⟨fns_of (by simp only [gd_turns, List.not_mem_nil, false_implies, implies_true]), gls_of (by simp only [gd_turns, List.forall_mem_cons, List.not_mem_nil, false_implies, implies_true, and_true]; exact ⟨gc_C, gc_B⟩), B, (by simp only [gd_turns, List.not_mem_nil, false_implies, implies_true]), (by simp only [gd_turns, List.not_mem_nil, false_implies, implies_true]),  (by simp only [gd_turns, List.not_mem_nil, false_implies, implies_true]), mts_of (by simp only [gd_turns, List.not_mem_nil, false_implies, implies_true]), mks_of (by simp only [gd_turns, List.not_mem_nil, false_implies, implies_true]), mfs_of (by simp only [gd_turns, List.not_mem_nil, false_implies, implies_true])⟩
  have O31 : FnOk l.prog w K mg base (L2N.CX l.prog w) 8 f31 _ ["N", "table"] (spD K cv 2 fd_places_of) := def_ok (Γ := gd_places_of) F31 scd_places_of 5000 2 rfl ckd_places_of ⟨fns_of (by simp only [gd_places_of, List.forall_mem_cons, List.not_mem_nil, false_implies, implies_true, and_true]; exact ⟨⟨f16, _, ["table"], rfl, m16, k16, O16.mono (by decide), b16⟩, ⟨f30, _, ["N", "k"], rfl, m30, k30, O30.mono (by decide), b30⟩⟩), gls_of (by simp only [gd_places_of, List.forall_mem_cons, List.not_mem_nil, false_implies, implies_true, and_true]; exact ⟨gc_A, gc_C⟩), B, (by simp only [gd_places_of, List.not_mem_nil, false_implies, implies_true]), (by simp only [gd_places_of, List.not_mem_nil, false_implies, implies_true]),  (by simp only [gd_places_of, List.not_mem_nil, false_implies, implies_true]), mts_of (by simp only [gd_places_of, List.not_mem_nil, false_implies, implies_true]), mks_of (by simp only [gd_places_of, List.not_mem_nil, false_implies, implies_true]), mfs_of (by simp only [gd_places_of, List.not_mem_nil, false_implies, implies_true])⟩
  have O32 : FnOk l.prog w K mg base (L2N.CX l.prog w) 9 f32 _ ["N", "table"] (spD K cv 2 fd_turned) := def_ok (Γ := gd_turned) F32 scd_turned 5000 2 rfl ckd_turned ⟨fns_of (by simp only [gd_turned, List.forall_mem_cons, List.not_mem_nil, false_implies, implies_true, and_true]; exact ⟨⟨f19, _, ["N"], rfl, m19, k19, O19.mono (by decide), b19⟩, ⟨f7, _, ["n", "value"], rfl, m7, k7, O7.mono (by decide), b7⟩, ⟨f29, _, ["N", "places"], rfl, m29, k29, O29.mono (by decide), b29⟩, ⟨f31, _, ["N", "table"], rfl, m31, k31, O31.mono (by decide), b31⟩⟩), gls_of (by simp only [gd_turned, List.not_mem_nil, false_implies, implies_true]), B, (by simp only [gd_turned, List.not_mem_nil, false_implies, implies_true]), (by simp only [gd_turned, List.not_mem_nil, false_implies, implies_true]),  (by simp only [gd_turned, List.not_mem_nil, false_implies, implies_true]), mts_of (by simp only [gd_turned, List.not_mem_nil, false_implies, implies_true]), mks_of (by simp only [gd_turned, List.not_mem_nil, false_implies, implies_true]), mfs_of (by simp only [gd_turned, List.not_mem_nil, false_implies, implies_true])⟩
  have O33 : FnOk l.prog w K mg base (L2N.CX l.prog w) 10 f33 _ ["N", "table"] (spD K cv 2 fd_is_made) := def_ok (Γ := gd_is_made) F33 scd_is_made 5000 2 rfl ckd_is_made ⟨fns_of (by simp only [gd_is_made, List.forall_mem_cons, List.not_mem_nil, false_implies, implies_true, and_true]; exact ⟨⟨f19, _, ["N"], rfl, m19, k19, O19.mono (by decide), b19⟩, ⟨f7, _, ["n", "value"], rfl, m7, k7, O7.mono (by decide), b7⟩, ⟨f18, _, ["N", "first", "second"], rfl, m18, k18, O18.mono (by decide), b18⟩, ⟨f10, _, ["n"], rfl, m10, k10, O10.mono (by decide), b10⟩, ⟨f32, _, ["N", "table"], rfl, m32, k32, O32.mono (by decide), b32⟩, ⟨f26, _, ["N"], rfl, m26, k26, O26.mono (by decide), b26⟩⟩), gls_of (by simp only [gd_is_made, List.not_mem_nil, false_implies, implies_true]), B, (by simp only [gd_is_made, List.not_mem_nil, false_implies, implies_true]), (by simp only [gd_is_made, List.not_mem_nil, false_implies, implies_true]),  (by simp only [gd_is_made, List.not_mem_nil, false_implies, implies_true]), mts_of (by simp only [gd_is_made, List.not_mem_nil, false_implies, implies_true]), mks_of (by simp only [gd_is_made, List.not_mem_nil, false_implies, implies_true]), mfs_of (by simp only [gd_is_made, List.not_mem_nil, false_implies, implies_true])⟩
  have O34 : FnOk l.prog w K mg base (L2N.CX l.prog w) 1 f34 _ ["script", "many"] (spD K cv 2 fd_law_draws) := def_ok (Γ := gd_law_draws) F34 scd_law_draws 5000 2 rfl ckd_law_draws ⟨fns_of (by simp only [gd_law_draws, List.not_mem_nil, false_implies, implies_true]), gls_of (by simp only [gd_law_draws, List.not_mem_nil, false_implies, implies_true]), B, (by simp only [gd_law_draws, List.not_mem_nil, false_implies, implies_true]), (by simp only [gd_law_draws, List.not_mem_nil, false_implies, implies_true]),  (by simp only [gd_law_draws, List.not_mem_nil, false_implies, implies_true]), mts_of (by simp only [gd_law_draws, List.not_mem_nil, false_implies, implies_true]), mks_of (by simp only [gd_law_draws, List.not_mem_nil, false_implies, implies_true]), mfs_of (by simp only [gd_law_draws, List.not_mem_nil, false_implies, implies_true])⟩
  have O35 : FnOk l.prog w K mg base (L2N.CX l.prog w) 1 f35 _ ["first", "second"] (spD K cv 2 fd_law_mul) := def_ok (Γ := gd_law_mul) F35 scd_law_mul 5000 2 rfl ckd_law_mul ⟨fns_of (by simp only [gd_law_mul, List.not_mem_nil, false_implies, implies_true]), gls_of (by simp only [gd_law_mul, List.not_mem_nil, false_implies, implies_true]), B, (by simp only [gd_law_mul, List.not_mem_nil, false_implies, implies_true]), (by simp only [gd_law_mul, List.not_mem_nil, false_implies, implies_true]),  (by simp only [gd_law_mul, List.not_mem_nil, false_implies, implies_true]), mts_of (by simp only [gd_law_mul, List.not_mem_nil, false_implies, implies_true]), mks_of (by simp only [gd_law_mul, List.not_mem_nil, false_implies, implies_true]), mfs_of (by simp only [gd_law_mul, List.not_mem_nil, false_implies, implies_true])⟩
  have O36 : FnOk l.prog w K mg base (L2N.CX l.prog w) 1 f36 _ ["table"] (spD K cv 1 fd_law_back) := def_ok (Γ := gd_law_back) F36 scd_law_back 5000 1 rfl ckd_law_back ⟨fns_of (by simp only [gd_law_back, List.not_mem_nil, false_implies, implies_true]), gls_of (by simp only [gd_law_back, List.not_mem_nil, false_implies, implies_true]), B, (by simp only [gd_law_back, List.not_mem_nil, false_implies, implies_true]), (by simp only [gd_law_back, List.not_mem_nil, false_implies, implies_true]),  (by simp only [gd_law_back, List.not_mem_nil, false_implies, implies_true]), mts_of (by simp only [gd_law_back, List.not_mem_nil, false_implies, implies_true]), mks_of (by simp only [gd_law_back, List.not_mem_nil, false_implies, implies_true]), mfs_of (by simp only [gd_law_back, List.not_mem_nil, false_implies, implies_true])⟩
  have O37 : FnOk l.prog w K mg base (L2N.CX l.prog w) 1 f37 _ ["draws", "many"] (spD K cv 2 fd_law_word) := def_ok (Γ := gd_law_word) F37 scd_law_word 5000 2 rfl ckd_law_word ⟨fns_of (by simp only [gd_law_word, List.not_mem_nil, false_implies, implies_true]), gls_of (by simp only [gd_law_word, List.not_mem_nil, false_implies, implies_true]), B, (by simp only [gd_law_word, List.not_mem_nil, false_implies, implies_true]), (by simp only [gd_law_word, List.not_mem_nil, false_implies, implies_true]),  (by simp only [gd_law_word, List.not_mem_nil, false_implies, implies_true]), mts_of (by simp only [gd_law_word, List.not_mem_nil, false_implies, implies_true]), mks_of (by simp only [gd_law_word, List.not_mem_nil, false_implies, implies_true]), mfs_of (by simp only [gd_law_word, List.not_mem_nil, false_implies, implies_true])⟩
  have O38 : FnOk l.prog w K mg base (L2N.CX l.prog w) 2 f38 _ ["word"] (spD K cv 1 fd_law_table) := def_ok (Γ := gd_law_table) F38 scd_law_table 5000 1 rfl ckd_law_table ⟨fns_of (by simp only [gd_law_table, List.forall_mem_cons, List.not_mem_nil, false_implies, implies_true, and_true]; exact ⟨f35, _, ["first", "second"], rfl, m35, k35, O35.mono (by decide), b35⟩), gls_of (by simp only [gd_law_table, List.not_mem_nil, false_implies, implies_true]), B, (by simp only [gd_law_table, List.not_mem_nil, false_implies, implies_true]), (by simp only [gd_law_table, List.not_mem_nil, false_implies, implies_true]),  (by simp only [gd_law_table, List.not_mem_nil, false_implies, implies_true]), mts_of (by simp only [gd_law_table, List.not_mem_nil, false_implies, implies_true]), mks_of (by simp only [gd_law_table, List.not_mem_nil, false_implies, implies_true]), mfs_of (by simp only [gd_law_table, List.not_mem_nil, false_implies, implies_true])⟩
  have O39 : FnOk l.prog w K mg base (L2N.CX l.prog w) 1 f39 _ ["N", "table"] (spD K cv 2 fd_law_is_one) := def_ok (Γ := gd_law_is_one) F39 scd_law_is_one 5000 2 rfl ckd_law_is_one ⟨fns_of (by simp only [gd_law_is_one, List.not_mem_nil, false_implies, implies_true]), gls_of (by simp only [gd_law_is_one, List.not_mem_nil, false_implies, implies_true]), B, (by simp only [gd_law_is_one, List.not_mem_nil, false_implies, implies_true]), (by simp only [gd_law_is_one, List.not_mem_nil, false_implies, implies_true]),  (by simp only [gd_law_is_one, List.not_mem_nil, false_implies, implies_true]), mts_of (by simp only [gd_law_is_one, List.not_mem_nil, false_implies, implies_true]), mks_of (by simp only [gd_law_is_one, List.not_mem_nil, false_implies, implies_true]), mfs_of (by simp only [gd_law_is_one, List.not_mem_nil, false_implies, implies_true])⟩
  have O40 : FnOk l.prog w K mg base (L2N.CX l.prog w) 3 f40 _ ["N"] (spD K cv 1 fd_law_reached) := def_ok (Γ := gd_law_reached) F40 scd_law_reached 5000 1 rfl ckd_law_reached ⟨fns_of (by simp only [gd_law_reached, List.forall_mem_cons, List.not_mem_nil, false_implies, implies_true, and_true]; exact ⟨⟨f35, _, ["first", "second"], rfl, m35, k35, O35.mono (by decide), b35⟩, ⟨f38, _, ["word"], rfl, m38, k38, O38.mono (by decide), b38⟩⟩), gls_of (by simp only [gd_law_reached, List.not_mem_nil, false_implies, implies_true]), B, (by simp only [gd_law_reached, List.not_mem_nil, false_implies, implies_true]), (by simp only [gd_law_reached, List.not_mem_nil, false_implies, implies_true]),  (by simp only [gd_law_reached, List.not_mem_nil, false_implies, implies_true]), mts_of (by simp only [gd_law_reached, List.not_mem_nil, false_implies, implies_true]), mks_of (by simp only [gd_law_reached, List.not_mem_nil, false_implies, implies_true]), mfs_of (by simp only [gd_law_reached, List.not_mem_nil, false_implies, implies_true])⟩
  have O41 : FnOk l.prog w K mg base (L2N.CX l.prog w) 3 f41 _ ["N", "known", "word"] (spD K cv 3 fd_law_lift) := def_ok (Γ := gd_law_lift) F41 scd_law_lift 5000 3 rfl ckd_law_lift ⟨fns_of (by simp only [gd_law_lift, List.forall_mem_cons, List.not_mem_nil, false_implies, implies_true, and_true]; exact ⟨⟨f38, _, ["word"], rfl, m38, k38, O38.mono (by decide), b38⟩, ⟨f35, _, ["first", "second"], rfl, m35, k35, O35.mono (by decide), b35⟩, ⟨f36, _, ["table"], rfl, m36, k36, O36.mono (by decide), b36⟩⟩), gls_of (by simp only [gd_law_lift, List.not_mem_nil, false_implies, implies_true]), B, (by simp only [gd_law_lift, List.not_mem_nil, false_implies, implies_true]), (by simp only [gd_law_lift, List.not_mem_nil, false_implies, implies_true]),  (by simp only [gd_law_lift, List.not_mem_nil, false_implies, implies_true]), mts_of (by simp only [gd_law_lift, List.not_mem_nil, false_implies, implies_true]), mks_of (by simp only [gd_law_lift, List.not_mem_nil, false_implies, implies_true]), mfs_of (by simp only [gd_law_lift, List.not_mem_nil, false_implies, implies_true])⟩
  have O42 : FnOk l.prog w K mg base (L2N.CX l.prog w) 11 fa _ ["script"] (spD K cv 1 fd_law) := def_ok (Γ := gd_law) F42 scd_law 5000 1 rfl ckd_law ⟨fns_of (by simp only [gd_law, List.forall_mem_cons, List.not_mem_nil, false_implies, implies_true, and_true]; exact ⟨⟨f34, _, ["script", "many"], rfl, m34, k34, O34.mono (by decide), b34⟩, ⟨f40, _, ["N"], rfl, m40, k40, O40.mono (by decide), b40⟩, ⟨f37, _, ["draws", "many"], rfl, m37, k37, O37.mono (by decide), b37⟩, ⟨f41, _, ["N", "known", "word"], rfl, m41, k41, O41.mono (by decide), b41⟩, ⟨f39, _, ["N", "table"], rfl, m39, k39, O39.mono (by decide), b39⟩, ⟨f33, _, ["N", "table"], rfl, m33, k33, O33.mono (by decide), b33⟩, ⟨f38, _, ["word"], rfl, m38, k38, O38.mono (by decide), b38⟩⟩), gls_of (by simp only [gd_law, List.not_mem_nil, false_implies, implies_true]), B, (by simp only [gd_law, List.not_mem_nil, false_implies, implies_true]), (by simp only [gd_law, List.not_mem_nil, false_implies, implies_true]),  (by simp only [gd_law, List.not_mem_nil, false_implies, implies_true]), mts_of (by simp only [gd_law, List.not_mem_nil, false_implies, implies_true]), mks_of (by simp only [gd_law, List.not_mem_nil, false_implies, implies_true]), mfs_of (by simp only [gd_law, List.not_mem_nil, false_implies, implies_true])⟩
  exact law_ok O42 law_true
end DE
set_option Elab.async false
open PySem PySem.W PyProof.Rows in
set_option maxRecDepth 100000 in
set_option maxHeartbeats 0 in
theorem PySem.Challenge.cw_rowsteps_k24_n_to_five_holds : PySem.Challenge.rw_rowsteps_k24_n_to_five.Holds := by
  w_on; o_law; k_head; (case hw => w_witness2)
  k_fill
  refine DE.walk (l := PySem.Challenge.rw_rowsteps_k24_n_to_five) (k := 11) rfl rfl ⟨rfl, by decide, by decide⟩ (fun w h Y => PySem.W.kIn_of Y) ?F
  case F =>
    intro w mg fa h KX G hmg
    refine' DE.all_mk KX G hmg ?ua0 ?upg0 ?uhd0 ?upo0 ?usa0 ?umk0 ?ukc0 ?un0_0 ?un0_1 ?a0 ?l0 ?c0 ?k0 ?a1 ?l1 ?c1 ?k1 ?a2 ?l2 ?c2 ?k2 ?a3 ?l3 ?c3 ?k3 ?a4 ?l4 ?c4 ?k4 ?a5 ?l5 ?c5 ?k5 ?a6 ?l6 ?c6 ?k6 ?a7 ?l7 ?c7 ?k7 ?a8 ?l8 ?c8 ?k8 ?a9 ?l9 ?c9 ?k9 ?a10 ?l10 ?c10 ?k10 ?a11 ?i11 ?l11 ?c11 ?k11 ?a12 ?i12 ?l12 ?c12 ?k12 ?a13 ?i13 ?l13 ?c13 ?k13 ?a14 ?i14 ?l14 ?c14 ?k14 ?a15 ?i15 ?l15 ?c15 ?k15 ?a16 ?l16 ?c16 ?k16 ?a17 ?l17 ?c17 ?k17 ?a18 ?l18 ?c18 ?k18 ?a19 ?l19 ?c19 ?k19 ?a20 ?l20 ?c20 ?k20 ?a21 ?l21 ?c21 ?k21 ?a22 ?l22 ?c22 ?k22 ?a23 ?l23 ?c23 ?k23 ?a24 ?l24 ?c24 ?k24 ?a25 ?l25 ?c25 ?k25 ?a26 ?l26 ?c26 ?k26 ?a27 ?l27 ?c27 ?k27 ?a28 ?l28 ?c28 ?k28 ?a29 ?l29 ?c29 ?k29 ?a30 ?l30 ?c30 ?k30 ?a31 ?l31 ?c31 ?k31 ?a32 ?l32 ?c32 ?k32 ?a33 ?l33 ?c33 ?k33 ?a34 ?l34 ?c34 ?k34 ?a35 ?l35 ?c35 ?k35 ?a36 ?l36 ?c36 ?k36 ?a37 ?l37 ?c37 ?k37 ?a38 ?l38 ?c38 ?k38 ?a39 ?l39 ?c39 ?k39 ?a40 ?l40 ?c40 ?k40 ?a41 ?l41 ?c41 ?k41 ?a42 ?l42 ?c42 ?k42 ?ca0 ?cs0 ?cty0 ?cd_0 ?ck0 ?ce0 ?ca1 ?cs1 ?cty1 ?cd_1 ?ck1 ?ce1 ?z0 ?z1 ?z2 ?z3 ?z4 ?z5 ?z6 ?z7 ?z8 ?z9 ?z10 ?z11 ?z12 ?z13 ?z14 ?z15 ?z16 ?z17 ?z18 ?z19 ?gc_OTHERS ?gc_MOST_modulo ?gc_LEAST ?gc_MOST_turning ?gc_MOST_POLYNOMIAL ?gc_A ?gc_B ?gc_C
    (case ua0 => k_is)
    (case upg0 => k_is)
    (case uhd0 => k_is)
    (case upo0 => k_is)
    (case usa0 => k_is)
    (case umk0 => k_is)
    (case ukc0 => k_is)
    (case un0_0 => k_is)
    (case un0_1 => k_is)
    (case a0 => k_is)
    (case l0 => k_is)
    (case c0 => k_is)
    (case k0 => k_is)
    (case a1 => k_is)
    (case l1 => k_is)
    (case c1 => k_is)
    (case k1 => k_is)
    (case a2 => k_is)
    (case l2 => k_is)
    (case c2 => k_is)
    (case k2 => k_is)
    (case a3 => k_is)
    (case l3 => k_is)
    (case c3 => k_is)
    (case k3 => k_is)
    (case a4 => k_is)
    (case l4 => k_is)
    (case c4 => k_is)
    (case k4 => k_is)
    (case a5 => k_is)
    (case l5 => k_is)
    (case c5 => k_is)
    (case k5 => k_is)
    (case a6 => k_is)
    (case l6 => k_is)
    (case c6 => k_is)
    (case k6 => k_is)
    (case a7 => k_is)
    (case l7 => k_is)
    (case c7 => k_is)
    (case k7 => k_is)
    (case a8 => k_is)
    (case l8 => k_is)
    (case c8 => k_is)
    (case k8 => k_is)
    (case a9 => k_is)
    (case l9 => k_is)
    (case c9 => k_is)
    (case k9 => k_is)
    (case a10 => k_is)
    (case l10 => k_is)
    (case c10 => k_is)
    (case k10 => k_is)
    (case a11 => k_is)
    (case i11 => k_is)
    (case l11 => k_is)
    (case c11 => k_is)
    (case k11 => k_is)
    (case a12 => k_is)
    (case i12 => k_is)
    (case l12 => k_is)
    (case c12 => k_is)
    (case k12 => k_is)
    (case a13 => k_is)
    (case i13 => k_is)
    (case l13 => k_is)
    (case c13 => k_is)
    (case k13 => k_is)
    (case a14 => k_is)
    (case i14 => k_is)
    (case l14 => k_is)
    (case c14 => k_is)
    (case k14 => k_is)
    (case a15 => k_is)
    (case i15 => k_is)
    (case l15 => k_is)
    (case c15 => k_is)
    (case k15 => k_is)
    (case a16 => k_is)
    (case l16 => k_is)
    (case c16 => k_is)
    (case k16 => k_is)
    (case a17 => k_is)
    (case l17 => k_is)
    (case c17 => k_is)
    (case k17 => k_is)
    (case a18 => k_is)
    (case l18 => k_is)
    (case c18 => k_is)
    (case k18 => k_is)
    (case a19 => k_is)
    (case l19 => k_is)
    (case c19 => k_is)
    (case k19 => k_is)
    (case a20 => k_is)
    (case l20 => k_is)
    (case c20 => k_is)
    (case k20 => k_is)
    (case a21 => k_is)
    (case l21 => k_is)
    (case c21 => k_is)
    (case k21 => k_is)
    (case a22 => k_is)
    (case l22 => k_is)
    (case c22 => k_is)
    (case k22 => k_is)
    (case a23 => k_is)
    (case l23 => k_is)
    (case c23 => k_is)
    (case k23 => k_is)
    (case a24 => k_is)
    (case l24 => k_is)
    (case c24 => k_is)
    (case k24 => k_is)
    (case a25 => k_is)
    (case l25 => k_is)
    (case c25 => k_is)
    (case k25 => k_is)
    (case a26 => k_is)
    (case l26 => k_is)
    (case c26 => k_is)
    (case k26 => k_is)
    (case a27 => k_is)
    (case l27 => k_is)
    (case c27 => k_is)
    (case k27 => k_is)
    (case a28 => k_is)
    (case l28 => k_is)
    (case c28 => k_is)
    (case k28 => k_is)
    (case a29 => k_is)
    (case l29 => k_is)
    (case c29 => k_is)
    (case k29 => k_is)
    (case a30 => k_is)
    (case l30 => k_is)
    (case c30 => k_is)
    (case k30 => k_is)
    (case a31 => k_is)
    (case l31 => k_is)
    (case c31 => k_is)
    (case k31 => k_is)
    (case a32 => k_is)
    (case l32 => k_is)
    (case c32 => k_is)
    (case k32 => k_is)
    (case a33 => k_is)
    (case l33 => k_is)
    (case c33 => k_is)
    (case k33 => k_is)
    (case a34 => k_is)
    (case l34 => k_is)
    (case c34 => k_is)
    (case k34 => k_is)
    (case a35 => k_is)
    (case l35 => k_is)
    (case c35 => k_is)
    (case k35 => k_is)
    (case a36 => k_is)
    (case l36 => k_is)
    (case c36 => k_is)
    (case k36 => k_is)
    (case a37 => k_is)
    (case l37 => k_is)
    (case c37 => k_is)
    (case k37 => k_is)
    (case a38 => k_is)
    (case l38 => k_is)
    (case c38 => k_is)
    (case k38 => k_is)
    (case a39 => k_is)
    (case l39 => k_is)
    (case c39 => k_is)
    (case k39 => k_is)
    (case a40 => k_is)
    (case l40 => k_is)
    (case c40 => k_is)
    (case k40 => k_is)
    (case a41 => k_is)
    (case l41 => k_is)
    (case c41 => k_is)
    (case k41 => k_is)
    (case a42 => k_is)
    (case l42 => k_is)
    (case c42 => k_is)
    (case k42 => k_is)
    (case ca0 => k_is)
    (case cs0 => k_is)
    (case cty0 => k_is)
    (case cd_0 => k_is)
    (case ck0 => k_is)
    (case ce0 => k_exc)
    (case ca1 => k_is)
    (case cs1 => k_is)
    (case cty1 => k_is)
    (case cd_1 => k_is)
    (case ck1 => k_is)
    (case ce1 => k_exc)
    (case z0 => k_is)
    (case z1 => k_is)
    (case z2 => k_is)
    (case z3 => k_is)
    (case z4 => k_is)
    (case z5 => k_is)
    (case z6 => k_is)
    (case z7 => k_is)
    (case z8 => k_is)
    (case z9 => k_is)
    (case z10 => k_is)
    (case z11 => k_is)
    (case z12 => k_is)
    (case z13 => k_is)
    (case z14 => k_is)
    (case z15 => k_is)
    (case z16 => k_is)
    (case z17 => k_is)
    (case z18 => k_is)
    (case z19 => k_is)
    (case gc_OTHERS => (refine' DE.gc_others KX G ?qot0 ?qot1 ?qot2 ?qot3 ?qot4; (case qot0 => k_is); (case qot1 => k_is); (case qot2 => k_is); (case qot3 => k_is); (case qot4 => k_is)))
    (case gc_MOST_modulo => (refine' DE.gc_int KX G ?qiMOST_modulo; (case qiMOST_modulo => k_is)))
    (case gc_LEAST => (refine' DE.gc_int KX G ?qiLEAST; (case qiLEAST => k_is)))
    (case gc_MOST_turning => (refine' DE.gc_int KX G ?qiMOST_turning; (case qiMOST_turning => k_is)))
    (case gc_MOST_POLYNOMIAL => (refine' DE.gc_int KX G ?qiMOST_POLYNOMIAL; (case qiMOST_POLYNOMIAL => k_is)))
    (case gc_A => (refine' DE.gc_int KX G ?qiA; (case qiA => k_is)))
    (case gc_B => (refine' DE.gc_int KX G ?qiB; (case qiB => k_is)))
    (case gc_C => (refine' DE.gc_int KX G ?qiC; (case qiC => k_is)))
